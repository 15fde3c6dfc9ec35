import PyProof.Rows.All
import Wide.All
import OpenK.AllK
import Wide.FinOn
import Lean
import PyProof.EqAt
import PyProof.EqKinds
import PyProof.TupleCall
import PyProof.NeKinds
import KE.LcSums
import PyProof.ZipIter
import PyProof.Rows.SumAny
import PyProof.ExcClass3
import PyProof.ExcBaseAll.ValueError
import OpenK.KOwn
import PyProof.EnumFor
import PyProof.EnumMake
import PyProof.TupleIter
import KE.KIsAll
import PyProof.ExcArgsOwn
import KE.KDictOf
import PyProof.AttrMissHeap
import PyProof.AutoSeq1
import KE.KRevIter
import PyProof.TupleOfSeq
import PyProof.CollectIter
import PyProof.TupleOfStr
import PyProof.SliceStr2
import PyProof.StrWalks
import KE.KSortTup
import KE.KLam
import PyProof.Rows.SetFrom
import PyProof.SetRoads
import PyProof.Rows.SortStr
import PyProof.Walks
import PyProof.CollectWalk
import PySem.Challenge.RW_likefill_k16_leaves_and_wishes
set_option Elab.async false
set_option linter.all false
set_option maxRecDepth 100000
set_option maxHeartbeats 4000000
noncomputable abbrev dE:=List (PySem.Addr×PySem.Obj)
noncomputable abbrev bX:=PySem.Value->PySem.Shared->Prop
noncomputable abbrev cQ:=List (PySem.Str×Int)
noncomputable abbrev bY:=List (PySem.Str×PySem.Str)
noncomputable abbrev bP:=List PySem.Value
noncomputable abbrev aQ:=List PySem.Str
noncomputable abbrev gA:=PySem.Str->Option PySem.Value
noncomputable abbrev lW:=List PySem.Expr
noncomputable abbrev iA:=Array PySem.Value
noncomputable abbrev N1:=Nat->PySem.Heap->Prop
theorem aI {a b:Prop}(x:a)(y:b):a/\b:=⟨x,y⟩
namespace L2
open PySem
noncomputable def wR (s:Stmt)(j:Nat):Stmt:=match s with
 | .ClassDef _ _ _ body _ _ _ _ _ _ _=>body.getD j (.Pass ⟨0,0,0,0⟩)
 | _=>.Pass ⟨0,0,0,0⟩
noncomputable def aT (s:Stmt):Arguments:=match s with
 | .FunctionDef _ a _ _ _ _ _ _ _ _=>a
 | _=>{ posonlyargs:=[],args:=[],vararg:=none,kwonlyargs:=[],kw_defaults:=[],kwarg:=none,defaults:=[] }
noncomputable def aN (s:Stmt):List Stmt:=match s with
 | .FunctionDef _ _ b _ _ _ _ _ _ _=>b
 | _=>[]
noncomputable def aF (s:Stmt):Scope:=match s with
 | .FunctionDef _ _ _ _ _ _ sc _ _ _=>sc
 | _=>{ kind:=.function,names:=[],isGenerator:=false,isCoroutine:=false }
end L2
namespace Lw
open PySem L2
noncomputable def top (i:Nat):Stmt:=PySem.Challenge.pw_likefill_k16_leaves_and_wishes.main.body.getD i (.Pass ⟨0,0,0,0⟩)
noncomputable abbrev eM:Stmt:=top 36
noncomputable abbrev fF:Stmt:=top 37
noncomputable abbrev eK:Stmt:=top 38
noncomputable abbrev eJ:Stmt:=top 39
noncomputable abbrev dY:Stmt:=top 40
noncomputable abbrev cT:Stmt:=top 41
noncomputable abbrev dZ:Stmt:=top 42
noncomputable abbrev dU:Stmt:=top 43
noncomputable abbrev cU:Stmt:=top 44
noncomputable abbrev dG:Stmt:=top 45
noncomputable abbrev eL:Stmt:=top 46
noncomputable abbrev cV:Stmt:=top 47
noncomputable abbrev dL:Stmt:=top 48
noncomputable abbrev dA:Stmt:=top 49
noncomputable abbrev lZ:Stmt:=top 52
noncomputable abbrev eS:Stmt:=top 8
noncomputable abbrev fC:Stmt:=top 9
noncomputable abbrev dF:Stmt:=top 10
noncomputable abbrev iJ:Stmt:=top 11
noncomputable abbrev dX:Stmt:=top 12
noncomputable abbrev dS:Stmt:=top 13
noncomputable abbrev iK:Stmt:=top 14
noncomputable abbrev fE:Stmt:=top 15
noncomputable abbrev cK:Stmt:=top 16
noncomputable abbrev cY:Stmt:=top 17
noncomputable abbrev cP:Stmt:=top 18
noncomputable abbrev mK:Stmt:=top 19
noncomputable abbrev fJ:Stmt:=top 29
noncomputable abbrev fB:Stmt:=top 30
noncomputable abbrev cA:Stmt:=top 31
noncomputable abbrev cF:Stmt:=top 32
noncomputable abbrev cZ:Stmt:=top 33
noncomputable abbrev cB:Stmt:=top 34
noncomputable abbrev bT:Stmt:=wR (top 28) 0
noncomputable abbrev d5:Stmt:=wR (top 28) 3
noncomputable abbrev dB:Stmt:=wR (top 28) 4
noncomputable abbrev gQ:Stmt:=top 20
noncomputable abbrev gO:Stmt:=top 21
noncomputable abbrev cG:Stmt:=top 50
noncomputable abbrev cC:Stmt:=top 51
end Lw
namespace Lw
open PySem PySem.W L2
noncomputable def eO (P:Params)(x:Str)(t:Tok)(v:Value):DictEntry:=⟨PyData.keyHash P x,.str x t,v⟩
noncomputable def eR (P:Params)(x:Str)(t:Tok)(a:Addr):DictEntry:=eO P x t (.ref a)
noncomputable def dO (es:List DictEntry)(n:Nat):Obj:=⟨.type "dict",none,.dict es.toArray n,#[]⟩
noncomputable def fO (x q:Str)(st:Stmt)(m:Str)(t:Tok)(c:Addr):Obj:=⟨.type "function",none,.func (fnOf x q (aT st) (aN st) (aF st) .none .none .none (.str m t) none (.ref c) .none),#[]⟩
noncomputable def cO (x q:Str)(t1 t2 t3:Tok)(l n f:Int)(r1:Addr)(b:Bool)(i6:Int)(r2:Addr)(u v w:Value)(r3:Addr)(i7:Int)(t4:Tok):Obj :=
 ⟨.type "code",none,.fields #[.str x t1,.str q t2,.str "/claim/cut.py" t3,.int l 0,.int n 0,.int 0 0,.int 0 0,.int f 0,.ref r1,.bool b,.int i6 0,.ref r2,u,v,w,.ref r3,.int i7 0,.int l 0,.str "/claim/cut.py" t4],#[]⟩
noncomputable def K0 (P:Params):PySem.W.Frag :=
 (nat_lit 3,dO [eO P "__name__" 165 (.str "law_likefill_k16_leaves_and_wishes" 464),eO P "__doc__" 166 .none,eO P "__package__" 167 .none,eO P "__loader__" 168 (.builtin "__main__.__loader__#opaque"),eO P "__spec__" 169 .none,eR P "__annotations__" 170 6,eR P "__builtins__" 171 4,eO P "__file__" 173 (.str "/claim/cut.py" 172),eO P "__cached__" 174 .none,eR P "LikeError" 206 24,eR P "NoSigns" 222 37,eR P "NoTerm" 238 49,eO P "WISH_SIGNS" 242 (.str "abcdefghijklmnopqrstuvwxyz0123456789" 241),eO P "LONGEST_WISH" 244 (.int 9 243),eO P "DEEPEST" 246 (.int 1000 245),eR P "is_wish" 252 56,eR P "is_built" 260 63,eR P "check_term" 266 68,eR P "walked" 276 75,eR P "order_mark" 283 82,eR P "order_key" 289 87,eR P "opened" 297 94,eR P "flat_sum" 308 101,eR P "flat_of_parts" 318 108,eR P "from_within" 324 113,eR P "put_in" 334 120,eR P "flat" 342 127,eR P "leaves" 348 132,eR P "wishes" 354 137,eO P "LETTERS" 358 (.str "abcdefghijklmnopqrstuvwxyz" 357),eO P "LONGEST_NAME" 360 (.int 6 359),eO P "MOST_FIXED" 362 (.int 12 361),eO P "MOST_SUMS" 364 (.int 3 363),eO P "MOST_PARTS" 366 (.int 3 365),eR P "Signs" 426 180,eR P "is_name" 432 189,eR P "is_whole" 439 196,eR P "checked_pairs" 445 201,eR P "check_names" 451 206,eR P "check_parts" 457 211,eR P "check_noughts" 463 216,eR P "_law_cell" 473 223,eR P "_law_pot" 482 230,eR P "_law_take" 491 237,eR P "_law_word" 501 244,eR P "_law_names" 513 251,eR P "_law_signs" 519 256,eR P "_law_drawn" 530 263,eR P "_law_leaf" 536 268,eR P "_law_heads" 542 273,eR P "_law_term" 560 280,eR P "_law_sort" 567 287,eR P "_law_ahead" 577 294,eR P "_law_opened" 588 301,eR P "_law_flat" 594 306,eR P "_law_leaves" 603 313,eR P "_law_are_told" 609 318,eR P "law" 623 325] 58) ::
 (nat_lit 23,dO [eO P "__module__" 196 (.str "likefill.errors" 187),eO P "__firstlineno__" 200 (.int 2 199),eR P "__static_attributes__" 201 22,eR P "__weakref__" 203 25,eO P "__doc__" 204 .none] 3) ::
 (nat_lit 24,⟨.type "type",none,.cls ⟨"LikeError",[(.type "ValueError")],[(.ref 24),(.type "ValueError"),(.type "Exception"),(.type "BaseException"),(.type "object")],23,"LikeError",true,[],[(.ref 37),(.ref 49)],false,none,false⟩,#[some (.ref 15),none,some (.str "LikeError" 189),some (.str "LikeError" 197),some (.builtin "ValueError.__new__"),some (.bool true)]⟩) ::
 (nat_lit 36,dO [eO P "__module__" 214 (.str "likefill.errors" 187),eO P "__firstlineno__" 218 (.int 4 217),eR P "__static_attributes__" 219 35,eO P "__doc__" 220 .none] 2) ::
 (nat_lit 37,⟨.type "type",none,.cls ⟨"NoSigns",[(.ref 24)],[(.ref 37),(.ref 24),(.type "ValueError"),(.type "Exception"),(.type "BaseException"),(.type "object")],36,"NoSigns",true,[],[],false,none,false⟩,#[some (.ref 28),none,some (.str "NoSigns" 207),some (.str "NoSigns" 215),some (.builtin "ValueError.__new__"),some (.bool true)]⟩) ::
 (nat_lit 48,dO [eO P "__module__" 230 (.str "likefill.errors" 187),eO P "__firstlineno__" 234 (.int 6 233),eR P "__static_attributes__" 235 47,eO P "__doc__" 236 .none] 2) ::
 (nat_lit 49,⟨.type "type",none,.cls ⟨"NoTerm",[(.ref 24)],[(.ref 49),(.ref 24),(.type "ValueError"),(.type "Exception"),(.type "BaseException"),(.type "object")],48,"NoTerm",true,[],[],false,none,false⟩,#[some (.ref 40),none,some (.str "NoTerm" 223),some (.str "NoTerm" 231),some (.builtin "ValueError.__new__"),some (.bool true)]⟩) ::
 (nat_lit 55,cO "is_wish" "is_wish" 247 248 249 12 1 3 52 true 181 53 .none .none .none 54 250 251) ::
 (nat_lit 56,fO "is_wish" "is_wish" eS "likefill.terms" 239 55) ::
 (nat_lit 62,cO "is_built" "is_built" 253 254 255 16 2 3 57 true 181 58 .none (.ref 59) (.ref 60) 61 258 259) ::
 (nat_lit 63,fO "is_built" "is_built" fC "likefill.terms" 239 62) ::
 (nat_lit 67,cO "check_term" "check_term" 261 262 263 24 2 3 64 true 181 65 .none .none .none 66 264 265) ::
 (nat_lit 68,fO "check_term" "check_term" dF "likefill.terms" 239 67) ::
 (nat_lit 74,cO "walked" "walked" 267 268 269 32 1 3 69 true 181 70 .none (.ref 71) (.ref 72) 73 274 275) ::
 (nat_lit 75,fO "walked" "walked" iJ "likefill.terms" 239 74) ::
 (nat_lit 81,cO "order_mark" "order_mark" 277 278 279 41 1 3 76 true 181 77 .none (.ref 78) (.ref 79) 80 281 282) ::
 (nat_lit 82,fO "order_mark" "order_mark" dX "likefill.terms" 239 81) ::
 (nat_lit 86,cO "order_key" "order_key" 284 285 286 45 1 3 83 true 181 84 .none .none .none 85 287 288) ::
 (nat_lit 87,fO "order_key" "order_key" dS "likefill.terms" 239 86) ::
 (nat_lit 93,cO "opened" "opened" 290 291 292 49 2 3 88 true 181 89 .none (.ref 90) (.ref 91) 92 295 296) ::
 (nat_lit 94,fO "opened" "opened" iK "likefill.terms" 239 93) ::
 (nat_lit 100,cO "flat_sum" "flat_sum" 298 299 300 53 3 3 95 true 181 96 .none (.ref 97) (.ref 98) 99 306 307) ::
 (nat_lit 101,fO "flat_sum" "flat_sum" fE "likefill.terms" 239 100) ::
 (nat_lit 107,cO "flat_of_parts" "flat_of_parts" 309 310 311 63 3 3 102 true 181 103 .none (.ref 104) (.ref 105) 106 316 317) ::
 (nat_lit 108,fO "flat_of_parts" "flat_of_parts" cK "likefill.terms" 239 107) ::
 (nat_lit 112,cO "from_within" "from_within" 319 320 321 68 3 3 109 true 181 110 .none .none .none 111 322 323) ::
 (nat_lit 113,fO "from_within" "from_within" cY "likefill.terms" 239 112) ::
 (nat_lit 119,cO "put_in" "put_in" 325 326 327 77 3 3 114 true 181 115 .none (.ref 116) (.ref 117) 118 332 333) ::
 (nat_lit 120,fO "put_in" "put_in" cP "likefill.terms" 239 119) ::
 (nat_lit 126,cO "flat" "flat" 335 336 337 79 2 3 121 true 181 122 .none (.ref 123) (.ref 124) 125 340 341) ::
 (nat_lit 127,fO "flat" "flat" mK "likefill.terms" 239 126) ::
 (nat_lit 131,cO "leaves" "leaves" 343 344 345 82 2 3 128 true 181 129 .none .none .none 130 346 347) ::
 (nat_lit 132,fO "leaves" "leaves" gQ "likefill.terms" 239 131) ::
 (nat_lit 136,cO "wishes" "wishes" 349 350 351 85 2 3 133 true 181 134 .none .none .none 135 352 353) ::
 (nat_lit 137,fO "wishes" "wishes" gO "likefill.terms" 239 136) ::
 (nat_lit 148,cO "__init__" "Signs.__init__" 379 380 381 96 3 3 145 true 181 146 .none .none .none 147 382 383) ::
 (nat_lit 149,fO "__init__" "Signs.__init__" bT "likefill.signs" 355 148) ::
 (nat_lit 169,cO "many" "Signs.many" 399 400 401 113 2 3 164 true 181 165 .none (.ref 166) (.ref 167) 168 404 405) ::
 (nat_lit 170,fO "many" "Signs.many" d5 "likefill.signs" 355 169) ::
 (nat_lit 176,cO "nought" "Signs.nought" 407 408 409 116 2 3 171 true 181 172 .none (.ref 173) (.ref 174) 175 412 413) ::
 (nat_lit 177,fO "nought" "Signs.nought" dB "likefill.signs" 355 176) ::
 (nat_lit 179,dO [eO P "__module__" 374 (.str "likefill.signs" 355),eO P "__firstlineno__" 378 (.int 94 377),eR P "__init__" 384 149,eR P "fixed" 391 156,eR P "sums" 398 163,eR P "many" 406 170,eR P "nought" 414 177,eR P "__static_attributes__" 419 178,eR P "__dict__" 421 181,eR P "__weakref__" 423 182,eO P "__doc__" 424 .none] 4) ::
 (nat_lit 180,⟨.type "type",none,.cls ⟨"Signs",[(.type "object")],[(.ref 180),(.type "object")],179,"Signs",true,[],[],false,none,false⟩,#[none,none,some (.str "Signs" 367),some (.str "Signs" 375),some (.builtin "object.__new__"),some (.bool true)]⟩) ::
 (nat_lit 188,cO "is_name" "is_name" 427 428 429 118 1 3 185 true 181 186 .none .none .none 187 430 431) ::
 (nat_lit 189,fO "is_name" "is_name" fJ "likefill.signs" 355 188) ::
 (nat_lit 195,cO "is_whole" "is_whole" 433 434 435 122 1 3 190 true 181 191 .none (.ref 192) (.ref 193) 194 437 438) ::
 (nat_lit 196,fO "is_whole" "is_whole" fB "likefill.signs" 355 195) ::
 (nat_lit 200,cO "checked_pairs" "checked_pairs" 440 441 442 124 3 3 197 true 181 198 .none .none .none 199 443 444) ::
 (nat_lit 201,fO "checked_pairs" "checked_pairs" cA "likefill.signs" 355 200) ::
 (nat_lit 205,cO "check_names" "check_names" 446 447 448 131 1 3 202 true 181 203 .none .none .none 204 449 450) ::
 (nat_lit 206,fO "check_names" "check_names" cF "likefill.signs" 355 205) ::
 (nat_lit 210,cO "check_parts" "check_parts" 452 453 454 137 1 3 207 true 181 208 .none .none .none 209 455 456) ::
 (nat_lit 211,fO "check_parts" "check_parts" cZ "likefill.signs" 355 210) ::
 (nat_lit 215,cO "check_noughts" "check_noughts" 458 459 460 143 2 3 212 true 181 213 .none .none .none 214 461 462) ::
 (nat_lit 216,fO "check_noughts" "check_noughts" cB "likefill.signs" 355 215) ::
 (nat_lit 222,cO "_law_cell" "_law_cell" 466 467 468 151 2 3 217 true 181 218 .none (.ref 219) (.ref 220) 221 471 472) ::
 (nat_lit 223,fO "_law_cell" "_law_cell" eM "law_likefill_k16_leaves_and_wishes" 464 222) ::
 (nat_lit 229,cO "_law_pot" "_law_pot" 474 475 476 155 2 3 224 true 181 225 .none (.ref 226) (.ref 227) 228 480 481) ::
 (nat_lit 230,fO "_law_pot" "_law_pot" fF "law_likefill_k16_leaves_and_wishes" 464 229) ::
 (nat_lit 236,cO "_law_take" "_law_take" 483 484 485 158 2 3 231 true 181 232 .none (.ref 233) (.ref 234) 235 489 490) ::
 (nat_lit 237,fO "_law_take" "_law_take" eK "law_likefill_k16_leaves_and_wishes" 464 236) ::
 (nat_lit 243,cO "_law_word" "_law_word" 492 493 494 165 2 3 238 true 181 239 .none (.ref 240) (.ref 241) 242 499 500) ::
 (nat_lit 244,fO "_law_word" "_law_word" eJ "law_likefill_k16_leaves_and_wishes" 464 243) ::
 (nat_lit 250,cO "_law_names" "_law_names" 502 503 504 171 2 3 245 true 181 246 .none (.ref 247) (.ref 248) 249 511 512) ::
 (nat_lit 251,fO "_law_names" "_law_names" dY "law_likefill_k16_leaves_and_wishes" 464 250) ::
 (nat_lit 255,cO "_law_signs" "_law_signs" 514 515 516 180 1 3 252 true 181 253 .none .none .none 254 517 518) ::
 (nat_lit 256,fO "_law_signs" "_law_signs" cT "law_likefill_k16_leaves_and_wishes" 464 255) ::
 (nat_lit 262,cO "_law_drawn" "_law_drawn" 520 521 522 194 1 3 257 true 181 258 .none (.ref 259) (.ref 260) 261 528 529) ::
 (nat_lit 263,fO "_law_drawn" "_law_drawn" dZ "law_likefill_k16_leaves_and_wishes" 464 262) ::
 (nat_lit 267,cO "_law_leaf" "_law_leaf" 531 532 533 202 3 3 264 true 181 265 .none .none .none 266 534 535) ::
 (nat_lit 268,fO "_law_leaf" "_law_leaf" dU "law_likefill_k16_leaves_and_wishes" 464 267) ::
 (nat_lit 272,cO "_law_heads" "_law_heads" 537 538 539 206 2 3 269 true 181 270 .none .none .none 271 540 541) ::
 (nat_lit 273,fO "_law_heads" "_law_heads" cU "law_likefill_k16_leaves_and_wishes" 464 272) ::
 (nat_lit 279,cO "_law_term" "_law_term" 543 544 545 211 5 3 274 true 181 275 .none (.ref 276) (.ref 277) 278 558 559) ::
 (nat_lit 280,fO "_law_term" "_law_term" dG "law_likefill_k16_leaves_and_wishes" 464 279) ::
 (nat_lit 286,cO "_law_sort" "_law_sort" 561 562 563 225 1 3 281 true 181 282 .none (.ref 283) (.ref 284) 285 565 566) ::
 (nat_lit 287,fO "_law_sort" "_law_sort" eL "law_likefill_k16_leaves_and_wishes" 464 286) ::
 (nat_lit 293,cO "_law_ahead" "_law_ahead" 568 569 570 229 2 3 288 true 181 289 .none (.ref 290) (.ref 291) 292 575 576) ::
 (nat_lit 294,fO "_law_ahead" "_law_ahead" cV "law_likefill_k16_leaves_and_wishes" 464 293) ::
 (nat_lit 300,cO "_law_opened" "_law_opened" 578 579 580 242 3 3 295 true 181 296 .none (.ref 297) (.ref 298) 299 586 587) ::
 (nat_lit 301,fO "_law_opened" "_law_opened" dL "law_likefill_k16_leaves_and_wishes" 464 300) ::
 (nat_lit 305,cO "_law_flat" "_law_flat" 589 590 591 250 2 3 302 true 181 303 .none .none .none 304 592 593) ::
 (nat_lit 306,fO "_law_flat" "_law_flat" dA "law_likefill_k16_leaves_and_wishes" 464 305) ::
 (nat_lit 312,cO "_law_leaves" "_law_leaves" 595 596 597 266 1 3 307 true 181 308 .none (.ref 309) (.ref 310) 311 601 602) ::
 (nat_lit 313,fO "_law_leaves" "_law_leaves" cG "law_likefill_k16_leaves_and_wishes" 464 312) ::
 (nat_lit 317,cO "_law_are_told" "_law_are_told" 604 605 606 273 2 3 314 true 181 315 .none .none .none 316 607 608) ::
 (nat_lit 318,fO "_law_are_told" "_law_are_told" cC "law_likefill_k16_leaves_and_wishes" 464 317) ::
 (nat_lit 324,cO "law" "law" 610 611 612 284 1 3 319 true 181 320 .none (.ref 321) (.ref 322) 323 621 622) ::
 (nat_lit 325,fO "law" "law" lZ "law_likefill_k16_leaves_and_wishes" 464 324) :: []
noncomputable def as0:List Addr:=[3,23,24,36,37,48,49,55,56,62,63,67,68,74,75,81,82,86,87,93,94,100,101,107,108,112,113,119,120,126,127,131,132,136,137,148,149,169,170,176,177,179,180,188,189,195,196,200,201,205,206,210,211,215,216,222,223,229,230,236,237,243,244,250,251,255,256,262,263,267,268,272,273,279,280,286,287,293,294,300,301,305,306,312,313,317,318,324,325]
noncomputable def without (ks:List Nat):Nat->List Stmt->List Stmt
 | _,[]=>[]
 | i,s :: r=>if i ∈ ks then without ks (i + 1) r else s :: without ks (i + 1) r
noncomputable def q0:Program:={ PySem.Challenge.pw_likefill_k16_leaves_and_wishes with main:={ PySem.Challenge.pw_likefill_k16_leaves_and_wishes.main with body:=without [0,4,22,35] 0 PySem.Challenge.pw_likefill_k16_leaves_and_wishes.main.body } }
noncomputable def O9:Shared->Bool:=fun s=>xlAt q0 [] s && recOk (RowW.records PySem.Challenge.rw_likefill_k16_leaves_and_wishes.row.toRowW) s
theorem KU {p q:Program}{Xt:Shared->Bool}{α:Type}{Yf:Shared->α}{Ya:World->α}{N:Nat}
  (e:opening p=plainProg p.main.scope.names) (n:Nat.ble 600 N=true) (fm:∀ s,fenceModules? p s=some s)
  (h:∀ w os,(topFrom treeTable p w N ⟨boot_heap w.params,⟨[]⟩,boot_drawn,boot_toks,os⟩).map (fun s=>(openSeen q [] (importedModules p.main.body) Xt true s,Yf s))=some (openGood q [],Ya w)):LeftO p q [] Xt Yf Ya N:=fun w=>by
 obtain ⟨s,e1,e2⟩:=Option.map_eq_some_iff.mp (boot_open e n fm w)
 obtain ⟨h1,h2,h3,h4,os⟩:=s
 cases e2
 unfold openEnds
 rw [e1]
 exact h w os
theorem left0:LeftO PySem.Challenge.rw_likefill_k16_leaves_and_wishes.row.prog q0 [] O9 (fun s=>as0.map s.heap.get?) (fun w=>(K0 w.params).map fun p=>some p.2) 4430 :=
 KU (by kernel_rfl) (by kernel_rfl) (fun s=>by kernel_rfl) (fun w os=>by unfold topFrom;rw [PySem.W.Fast.te14082659384304107361,PySem.W.Fast.te4187177175401517315,PySem.W.Fast.te14364793385576792824];kernel_rfl)
theorem keys0:∀ P,as0=(K0 P).map (·.1):=fun P=>by kernel_rfl
end Lw
namespace L2
open PySem PySem.Spec PyProof.Rows
noncomputable abbrev fZ:=Sum Int Str
noncomputable def keyIs:fZ->Value->Bool
 | .inl k,v=>Value.isInt k v
 | .inr x,v=>Value.isStrOf x v
noncomputable def keyH (w:World):fZ->Int
 | .inl k=>hashInt k
 | .inr x=>hashStr w x
theorem dI:∀ {k:fZ} {v:Value},keyIs k v=true->(∃ i t,k=Sum.inl i/\v=Value.int i t)∨(∃ x t,k=Sum.inr x/\v=Value.str x t)
 | .inl i,v,h=>by
  obtain ⟨t,e⟩:=Value.isInt_shape (k:=i) (v:=v) h
  exact .inl ⟨i,t,rfl,e⟩
 | .inr x,v,h=>by
  obtain ⟨t,e⟩:=Value.isStrOf_shape (x:=x) (v:=v) h
  exact .inr ⟨x,t,rfl,e⟩
theorem EA (i:Int)(t:Tok):keyIs (.inl i) (.int i t)=true:=by simp [keyIs,Value.isInt]
theorem uE (x:Str)(t:Tok):keyIs (.inr x) (.str x t)=true:=by simp [keyIs,Value.isStrOf]
theorem NH (a b:Int):decide ((Sum.inl a:fZ)=Sum.inl b)=(a == b):=by
 by_cases e:a=b
 ·subst e;simp
 ·have h:¬ (Sum.inl a:fZ)=Sum.inl b:=fun q=>e (Sum.inl.inj q)
  rw [decide_eq_false h]
  exact (beq_eq_false_iff_ne.mpr e).symm
theorem NE (a b:Str):decide ((Sum.inr a:fZ)=Sum.inr b)=decide (a=b):=by
 by_cases e:a=b
 ·subst e;simp
 ·have h:¬ (Sum.inr a:fZ)=Sum.inr b:=fun q=>e (Sum.inr.inj q)
  rw [decide_eq_false h,decide_eq_false e]
theorem NG (a:Int)(b:Str):decide ((Sum.inl a:fZ)=Sum.inr b)=false:=decide_eq_false (fun q=>nomatch q)
theorem NF (a:Str)(b:Int):decide ((Sum.inr a:fZ)=Sum.inl b)=false:=decide_eq_false (fun q=>nomatch q)
noncomputable def cJ (prog:Program)(w:World):PySem.KeyKind prog w fZ where
 is:=keyIs
 hash:=keyH w
 inj:=fun v a b ha hb=>by
  rcases dI ha with ⟨i,t,rfl,rfl⟩ | ⟨x,t,rfl,rfl⟩
  ·rcases dI hb with ⟨j,u,rfl,e⟩ | ⟨y,u,rfl,e⟩
   ·injection e with e1 _;rw [e1]
   ·exact nomatch e
  ·rcases dI hb with ⟨j,u,rfl,e⟩ | ⟨y,u,rfl,e⟩
   ·exact nomatch e
   ·injection e with e1 _;rw [e1]
 byValue:=fun k v h=>by
  rcases dI h with ⟨i,t,rfl,rfl⟩ | ⟨x,t,rfl,rfl⟩ <;> rfl
 pyHash:=fun hv h=>by
  rcases dI hv with ⟨i,t,rfl,rfl⟩ | ⟨x,t,rfl,rfl⟩
  ·exact wpAny_pyHash_int h
  ·exact wpAny_pyHash_str h
 eqBool:=fun hu hv h=>by
  rcases dI hu with ⟨i,t,rfl,rfl⟩ | ⟨x,t,rfl,rfl⟩
  ·rcases dI hv with ⟨j,u,rfl,rfl⟩ | ⟨y,u,rfl,rfl⟩
   ·rw [NH] at h;exact wpAny_eqBool_int h
   ·rw [NG] at h;exact SeqAt.EqAt.int_str i t y u _ _ _ _ h
  ·rcases dI hv with ⟨j,u,rfl,rfl⟩ | ⟨y,u,rfl,rfl⟩
   ·rw [NF] at h;exact SeqAt.EqAt.str_int x t j u _ _ _ _ h
   ·rw [NE] at h;exact wpAny_eqBool_str h
 «strs»:=fun k x t v h=>by
  rcases dI h with ⟨i,u,rfl,e⟩ | ⟨y,u,rfl,e⟩
  ·exact nomatch e
  ·injection e with e1 _
   subst e1
   cases v <;> rfl
theorem yC (prog:Program)(w:World)(i:Int)(t:Tok):(cJ prog w).is (.inl i) (.int i t)=true:=EA i t
theorem yB (prog:Program)(w:World)(x:Str)(t:Tok):(cJ prog w).is (.inr x) (.str x t)=true:=uE x t
inductive V where
 | non | bl (b:Bool) | int (i:Int) | str (x:Str) | byt (b:Array UInt8) | flt (b:UInt64) | ref (a:Addr) | ty (n:String)
 deriving DecidableEq
noncomputable def aX:V->Value->Prop
 | .non,u=>u=Value.none
 | .bl b,u=>u=Value.bool b
 | .int i,u=>∃ t,u=Value.int i t
 | .str x,u=>∃ t,u=Value.str x t
 | .byt b,u=>∃ t,u=Value.bytes b t
 | .flt b,u=>∃ t,u=Value.float b t
 | .ref a,u=>u=Value.ref a
 | .ty n,u=>u=Value.type n
noncomputable abbrev aU:List V->bP->Prop:=Paired aX
theorem aU.length {xs:List V}{us:bP}(r:aU xs us):xs.length=us.length:=Paired.length r
theorem aU.get:∀ {xs:List V} {us:bP} {i:Nat} {x:V},aU xs us->xs[i]?=some x->∃ u,us[i]?=some u/\aX x u
 | _,_,_,_,.nil,e=>by simp at e
 | _,_,0,_,.cons r _,e=>by simp at e;subst e;exact ⟨_,rfl,r⟩
 | _,_,i + 1,x,.cons _ t,e=>by
  obtain ⟨u,h1,h2⟩:=aU.get (i:=i) (x:=x) t (by simpa using e)
  exact ⟨u,by simpa using h1,h2⟩
theorem aU.set {x:V}{u:Value}(r:aX x u):∀ {xs:List V} {us:bP} (i:Nat),aU xs us->aU (xs.set i x) (us.set i u)
 | _,_,_,.nil=>.nil
 | _,_,0,.cons _ t=>.cons r t
 | _,_,i + 1,.cons q t=>.cons q (aU.set r i t)
theorem aU.append:∀ {xs ys:List V} {us ws:bP},aU xs us->aU ys ws->aU (xs ++ ys) (us ++ ws)
 | _,_,_,_,.nil,s=>s
 | _,_,_,_,.cons r t,s=>.cons r (aU.append t s)
theorem aU.take:∀ {xs:List V} {us:bP} (n:Nat),aU xs us->aU (xs.take n) (us.take n)
 | _,_,0,_=>.nil
 | _,_,_ + 1,.nil=>.nil
 | _,_,n + 1,.cons r t=>.cons r (aU.take n t)
theorem aU.drop:∀ {xs:List V} {us:bP} (n:Nat),aU xs us->aU (xs.drop n) (us.drop n)
 | _,_,0,r=>r
 | _,_,_ + 1,.nil=>.nil
 | _,_,n + 1,.cons _ t=>aU.drop n t
noncomputable def kF:Option V->Option Value->Prop
 | some v,some u=>aX v u
 | none,none=>True
 | _,_=>False
noncomputable def KV {κ:Type}:List (κ×V)->List (κ×Value)->Prop:=Paired fun (p:κ×V) (q:κ×Value)=>p.1=q.1/\aX p.2 q.2
noncomputable def kV:fZ->V
 | .inl i=>.int i
 | .inr x=>.str x
inductive HO where
 /-- a list -/
 | lst (xs:List V)
 /-- a tuple (never changes) -/
 | tup (xs:List V)
 /-- a dict whose keys are ints and texts;one whose keys are tuples of ints and texts (the empty one is both) -/
 | dK (kvs:List (fZ×V)) | dT (kvs:List (List fZ×V))
 /-- a set of ints: its members,its size -/
 | set (S:Int->Bool) (n:Nat)
 /-- an instance of the class at C,its dict at dx,its attributes -/
 | ins (C dx:Addr) (fs:List (Str×V))
 /-- the dict of the instance at x -/
 | own (x:Addr)
 /-- the dict of an exception -/
 | xd (fs:List (Str×V))
 /-- a bound method,f of x -/
 | met (f x:Addr)
 /-- a range object lo,lo + 1,.. below hi -/
 | rng (lo hi:Int)
 /-- a thing that is known to the object (the script;a dict while a loop walks it): read,never written while it is so -/
 | frz (o:Obj) (u:HO)
 /-- a code object's table -/
 | tbl (ps:iA)
 /-- any other thing,by what is true of its one object (a def of one's own: SetO a S n:=HO.ext fun h=>..) -/
 | ext (φ:Heap->Prop)
noncomputable abbrev Hp:=Addr->Option HO
noncomputable def upd (H:Hp)(a:Addr)(o:HO):Hp:=fun b=>if b=a then some o else H b
theorem upd_same {H:Hp}{a:Addr}{o:HO}:upd H a o a=some o:=by unfold upd;rw [if_pos rfl]
theorem aC {H:Hp}{a b:Addr}{o:HO}(h:b≠a):upd H a o b=H b:=by unfold upd;rw [if_neg h]
theorem upd_upd {H:Hp}{a:Addr}{o u:HO}:upd (upd H a o) a u=upd H a u:=by
 funext b;unfold upd;split <;> rfl
theorem aD {H:Hp}{a b:Addr}{o:HO}(h:H a=some o)(h':H b=none):a≠b:=by
 intro e;subst e;rw [h] at h';cases h'
section
variable (P:Program)(w:World)
noncomputable def cE (H:Hp)(h:Heap)(a:Addr):HO->Prop
 | .lst xs=>xs.length<=sizeLine/\∃ (its:bP) (n:Nat),aU xs its/\h.get? a=some { cls:=.type "list",data:=.seq its.toArray n }
 | .tup xs=>xs.length<=sizeLine/\∃ its:bP,aU xs its/\IsTup h a its.toArray
 | .dK kvs=>kvs.length<=sizeLine/\(a == sysModules)=false/\∃ vs,KV kvs vs/\h.DictOf (cJ P w) a vs
 | .dT kvs=>kvs.length<=sizeLine/\(a == sysModules)=false/\∃ xs:List (List fZ×Addr×Value),
   Paired (fun (p:List fZ×V) (q:List fZ×Addr×Value)=>p.1=q.1/\H q.2.1=some (.tup (p.1.map kV))/\aX p.2 q.2.2) kvs xs /\
   ∃ o es ep,h.get? a=some o/\o.ExactDict/\o.data = .dict es ep/\es.toList=xs.map (entryOfKey (tupleKind (cJ P w)))/\(xs.map (·.1)).Nodup
 | .set S n=>h.SetOf (intKind P w) a S n
 | .ins C dx fs=>H dx=some (.own a)/\fs.length<=1000/\dx≠a/\h.get? a=some (PySem.W.instObj C dx) /\
   ∃ mA,h.Ns1 dx mA/\(∀ f,kF (fs.lookup f) (mA f))/\PySem.Within mA (fs.map (·.1))
 | .own _=>∃ o,h.get? a=some o
 | .xd fs=>∃ mA,h.Ns1 a mA/\∀ f,kF (fs.lookup f) (mA f)
 | .rng lo hi=>∃ t u v,h.get? a=some { cls:=.type "range",data:=.fields #[.int lo t,.int hi u,.int 1 v] }
 | .frz o u=>h.get? a=some o/\cE H h a u
 | .tbl ps=>h.get? a=some { cls:=.none,data:=.fields ps }
 | .met f x=>h.get? a=some (PySem.W.methodObj (.ref f) (.ref x))
 | .ext φ=>φ h/\(∃ o,h.get? a=some o)/\∀ h1 h2:Heap,φ h1->(∀ o,h1.get? a=some o->h2.get? a=some o)->φ h2
noncomputable def gX (H:Hp)(h:Heap):Prop:=∀ a o,H a=some o->cE P w H h a o
end
section
variable {P:Program}{w:World}{H H':Hp}{h h':Heap}{a:Addr}{o:HO}
theorem cE.lt (x:cE P w H h a o):a < h.objs.size:=by
 cases o with
 | lst xs=>obtain ⟨_,_,_,_,e⟩:=x;exact Heap.lt_size e
 | tup xs=>obtain ⟨_,_,_,p⟩:=x;exact p.lt
 | dK kvs=>obtain ⟨_,_,_,_,o,_,_,e,_⟩:=x;exact Heap.lt_size e
 | dT kvs=>obtain ⟨_,_,_,_,o,_,_,e,_⟩:=x;exact Heap.lt_size e
 | set S n=>obtain ⟨o,_,_,_,e,_⟩:=x;exact Heap.lt_size e
 | ins C dx fs=>obtain ⟨_,_,_,e,_⟩:=x;exact Heap.lt_size e
 | own y=>obtain ⟨_,e⟩:=x;exact Heap.lt_size e
 | xd fs=>obtain ⟨_,⟨_,_,_,e,_⟩,_⟩:=x;exact Heap.lt_size e
 | rng lo hi=>obtain ⟨_,_,_,e⟩:=x;exact Heap.lt_size e
 | frz ob u=>obtain ⟨e,_⟩:=x;exact Heap.lt_size e
 | tbl ps=>exact Heap.lt_size (show h.get? a=some _ from x)
 | met f y=>exact Heap.lt_size (show h.get? a=some _ from x)
 | ext φ=>obtain ⟨_,⟨_,e⟩,_⟩:=x;exact Heap.lt_size e
theorem Paired.mapP {α β:Type}{F G:α->β->Prop}:∀ {l₁:List α} {l₂:List β},Paired F l₁ l₂->(∀ a b,F a b->G a b)->Paired G l₁ l₂
 | _,_,.nil,_=>.nil
 | _,_,.cons r t,f=>.cons (f _ _ r) (Paired.mapP t f)
theorem cE.stay (x:cE P w H h a o)(k:∀ b u,(b=a∨H b=some (.own a))->h.get? b=some u->h'.get? b=some u)
  (ho:∀ b,H b=some (.own a)->H' b=some (.own a)) (ht:∀ b xs,H b=some (.tup xs)->H' b=some (.tup xs)):cE P w H' h' a o:=by
 induction o with
 | lst xs=>obtain ⟨z,its,n,r,e⟩:=x;exact ⟨z,its,n,r,k _ _ (.inl rfl) e⟩
 | tup xs=>obtain ⟨z,its,r,ob,e,c⟩:=x;exact ⟨z,its,r,ob,k _ _ (.inl rfl) e,c⟩
 | dK kvs=>obtain ⟨z,y,vs,r,ob,es,ep,e,c⟩:=x;exact ⟨z,y,vs,r,ob,es,ep,k _ _ (.inl rfl) e,c⟩
 | dT kvs =>
  obtain ⟨z,y,xs,r,ob,es,ep,e,c⟩:=x
  exact ⟨z,y,xs,Paired.mapP r fun p q z=>⟨z.1,ht _ _ z.2.1,z.2.2⟩,ob,es,ep,k _ _ (.inl rfl) e,c⟩
 | set S n=>obtain ⟨ob,es,ep,t,e,c⟩:=x;exact ⟨ob,es,ep,t,k _ _ (.inl rfl) e,c⟩
 | ins C dx fs =>
  obtain ⟨d,z,ne,e,mA,⟨od,es,ep,e2,c⟩,r⟩:=x
  exact ⟨ho _ d,z,ne,k _ _ (.inl rfl) e,mA,⟨od,es,ep,k _ _ (.inr d) e2,c⟩,r⟩
 | own y=>obtain ⟨ob,e⟩:=x;exact ⟨ob,k _ _ (.inl rfl) e⟩
 | xd fs=>obtain ⟨mA,⟨od,es,ep,e,c⟩,r⟩:=x;exact ⟨mA,⟨od,es,ep,k _ _ (.inl rfl) e,c⟩,r⟩
 | rng lo hi=>obtain ⟨t,u,v,e⟩:=x;exact ⟨t,u,v,k _ _ (.inl rfl) e⟩
 | frz ob u ih=>obtain ⟨e,q⟩:=x;exact ⟨k _ _ (.inl rfl) e,ih q⟩
 | tbl ps =>
  have e:h.get? a=some { cls:=.none,data:=.fields ps }:=x
  show h'.get? a=some { cls:=.none,data:=.fields ps }
  exact k a _ (.inl rfl) e
 | met f y =>
  have e:h.get? a=some (PySem.W.methodObj (.ref f) (.ref y)):=x
  show h'.get? a=some (PySem.W.methodObj (.ref f) (.ref y))
  exact k a _ (.inl rfl) e
 | ext φ=>obtain ⟨p,⟨o,e⟩,st⟩:=x;exact ⟨st _ _ p fun o q=>k _ _ (.inl rfl) q,⟨o,k _ _ (.inl rfl) e⟩,st⟩
theorem gX.lt (x:gX P w H h)(e:H a=some o):a < h.objs.size:=(x a o e).lt
theorem gX.fresh (x:gX P w H h)(e:h.objs.size<=a):H a=none:=by
 cases q:H a with
 | none=>rfl
 | some u=>exact absurd (Nat.lt_of_lt_of_le (x.lt q) e) (Nat.lt_irrefl _)
theorem gX.kept (x:gX P w H h)(k:∀ b u,h.get? b=some u->h'.get? b=some u):gX P w H h':=fun a o e =>
 (x a o e).stay (fun b u _ q=>k b u q) (fun _ q=>q) fun _ _ q=>q
theorem gX.laid (x:gX P w H h)(k:∀ b u,h.get? b=some u->h'.get? b=some u)(hp:h.objs.size<=a)(new:cE P w (upd H a o) h' a o):gX P w (upd H a o) h':=fun b u e=>by
 have hn:=x.fresh hp
 by_cases hb:b=a
 ·subst hb;rw [upd_same] at e;cases e;exact new
 ·rw [aC hb] at e
  exact (x b u e).stay (fun c v _ q=>k c v q) (fun c q=>by rw [aC (aD q hn)];exact q) fun c xs q=>by rw [aC (aD q hn)];exact q
end
noncomputable def Rd (H:Hp)(a:Addr)(u:HO):Prop:=H a=some u∨∃ o,H a=some (.frz o u)
theorem Rd.ok {P:Program}{w:World}{H:Hp}{h:Heap}{a:Addr}{u:HO}(r:Rd H a u)(x:gX P w H h):cE P w H h a u:=by
 rcases r with r | ⟨o,r⟩
 ·exact x a u r
 ·obtain ⟨_,q⟩:=x a _ r
  exact q
noncomputable def OV:Option HO->Prop
 | some (.lst _)=>True
 | some (.dK _)=>True
 | some (.dT _)=>True
 | some (.set _ _)=>True
 | some (.ins _ _ _)=>True
 | some (.ext _)=>True
 | _=>False
section
variable {P:Program}{w:World}{H:Hp}{h h':Heap}{x e:Addr}{o':HO}
theorem gX.write (ok:gX P w H h)(mu:OV (H x))(he:e=x∨H e=some (.own x))(k:∀ b u,b≠e->h.get? b=some u->h'.get? b=some u)(heo:∃ u,h'.get? e=some u)
  (new:cE P w (upd H x o') h' x o'):gX P w (upd H x o') h':=fun b u q=>by
 have nown:∀ c y,H c=some (.own y)->c≠x:=fun c y r z=>by subst z;rw [r] at mu;exact mu
 have ntup:∀ c xs,H c=some (.tup xs)->c≠x:=fun c xs r z=>by subst z;rw [r] at mu;exact mu
 by_cases hb:b=x
 ·subst hb;rw [upd_same] at q;cases q;exact new
 ·rw [aC hb] at q
  by_cases hbe:b=e
  ·have q':H b=some (.own x):=by
    rcases he with z | z
    ·exact absurd (hbe.trans z) hb
    ·rw [hbe];exact z
   rw [q] at q';cases q'
   obtain ⟨v,hv⟩:=heo
   exact ⟨v,by rw [hbe];exact hv⟩
  ·refine (ok b u q).stay (fun c v hc r=>k c v ?_ r) (fun c r=>by rw [aC (nown c b r)];exact r) fun c xs r=>by rw [aC (ntup c xs r)];exact r
   rcases hc with rfl | hc
   ·exact hbe
   ·rintro rfl
    rcases he with z | z
    ·exact nown c b hc z
    ·rw [hc] at z;cases z;exact hb rfl
end
structure Un (fs ex:List Addr)(H H':Hp)(h h':Heap):Prop where
 keep:∀ b o,h.get? b=some o->H b=none->b ∉ fs->b ∉ ex->h'.get? b=some o
 slot:∀ b o,h.get? b=some o->H b=none->b ∈ fs->b ∉ ex->∃ sl,h'.get? b=some { o with slots:=sl }
 free:∀ b o,h.get? b=some o->H b=none->b ∉ ex->H' b=none
 there:∀ b o,h.get? b=some o->b ∉ ex->∃ o',h'.get? b=some o'
 tups:∀ b xs,H b=some (.tup xs)->H' b=some (.tup xs)
 frzs:∀ b o u,H b=some (.frz o u)->H' b=some (.frz o u)
 tbls:∀ b ps,H b=some (.tbl ps)->∃ more,H' b=some (.tbl (ps ++ more))
section
variable {fs fs' ex ex':List Addr}{H H1 H2:Hp}{h h1 h2 h':Heap}{a x e:Addr}{o:HO}
theorem Un.any (u:Un fs ex H H1 h h1){b:Addr}{ob:Obj}(q:h.get? b=some ob)(n:H b=none)(hx:b ∉ ex):∃ sl,h1.get? b=some { ob with slots:=sl }:=by
 by_cases hb:b ∈ fs
 ·exact u.slot b ob q n hb hx
 ·exact ⟨ob.slots,u.keep b ob q n hb hx⟩
theorem Un.kept (k:∀ b u,h.get? b=some u->h'.get? b=some u):Un fs ex H H h h' :=
 ⟨fun b ob q _ _ _=>k b ob q,fun b ob q _ _ _=>⟨ob.slots,k b ob q⟩,fun _ _ _ n _=>n,fun b ob q _=>⟨ob,k b ob q⟩,fun _ _ q=>q,fun _ _ _ q=>q,fun _ ps q=>⟨#[],by rw [q];simp⟩⟩
theorem Un.refl:Un fs ex H H h h:=Un.kept fun _ _ q=>q
theorem Un.laid (k:∀ b u,h.get? b=some u->h'.get? b=some u)(hp:h.objs.size<=a)(hn:H a=none):Un fs ex H (upd H a o) h h' where
 keep:=fun b u q _ _ _=>k b u q
 slot:=fun b u q _ _ _=>⟨u.slots,k b u q⟩
 free:=fun b u q n _=>by rw [aC (Nat.ne_of_lt (Nat.lt_of_lt_of_le (Heap.lt_size q) hp))];exact n
 there:=fun b u q _=>⟨u,k b u q⟩
 tups:=fun b xs q=>by rw [aC (aD q hn)];exact q
 frzs:=fun b u xs q=>by rw [aC (aD q hn)];exact q
 tbls:=fun b ps q=>⟨#[],by rw [aC (aD q hn),q];simp⟩
theorem Un.write (mu:OV (H x))(he:e=x∨H e=some (.own x))(k:∀ b u,b≠e->h.get? b=some u->h'.get? b=some u)(heo:∃ u,h'.get? e=some u):Un fs ex H (upd H x o) h h':=by
 have hx:∀ b,H b=none->b≠x:=fun b n z=>by subst z;rw [n] at mu;exact mu
 have hb:∀ b,H b=none->b≠e:=fun b n z=>by
  subst z
  rcases he with r | r
  ·exact hx b n r
  ·rw [n] at r;cases r
 have hm:∀ b u,H b=some u->¬ OV (some u)->b≠x:=fun b u q nm z=>by subst z;rw [q] at mu;exact nm mu
 refine ⟨fun b u q n _ _=>k b u (hb b n) q,fun b u q n _ _=>⟨u.slots,k b u (hb b n) q⟩,fun b u q n _=>by rw [aC (hx b n)];exact n,fun b u q _=>?_,
  fun b xs q=>by rw [aC (hm b _ q fun z=>z)];exact q,fun b u xs q=>by rw [aC (hm b _ q fun z=>z)];exact q,fun b ps q=>⟨#[],by rw [aC (hm b _ q fun z=>z),q];simp⟩⟩
 by_cases hbe:b=e
 ·subst hbe;exact heo
 ·exact ⟨u,k b u hbe q⟩
end
noncomputable def trk (h:Heap)(H:Hp):List Addr:=(List.range h.objs.size).filter fun a=>(H a).isSome
noncomputable def hidT (h:Heap)(H:Hp):Heap:=PySem.W.hideAll h (trk h H)
theorem EC (h:Heap)(H:Hp):(hidT h H).objs.size=h.objs.size:=PySem.W.hideAll_size _ _
theorem rQ {h:Heap}{H:Hp}{b:Addr}{o:Obj}(e:h.get? b=some o)(n:H b=none):(hidT h H).get? b=some o :=
 PySem.W.hideAll_get _ e fun hm=>by
  have q:(H b).isSome=true:=(List.mem_filter.mp hm).2
  rw [n] at q;simp at q
theorem KO {h:Heap}{H:Hp}{b:Addr}{o:Obj}(e:(hidT h H).get? b=some o):h.get? b=some o/\H b=none:=by
 have e':h.get? b=some o:=PySem.W.of_hideAll (trk h H) e
 refine ⟨e',?_⟩
 cases q:H b with
 | none=>rfl
 | some x =>
  have hm:b ∈ trk h H:=List.mem_filter.mpr ⟨List.mem_range.mpr (Heap.lt_size e'),by simp [q]⟩
  have z:(hidT h H).get? b=none:=PySem.W.hideAll_none (trk h H) hm
  rw [z] at e;cases e
noncomputable def LF (g h:Heap)(L:Addr):dE:=(List.range h.objs.size).filterMap fun a=>if a=L∨(g.get? a).isSome=true then none else (h.get? a).map fun o=>(a,o)
noncomputable def rest (g h:Heap)(L d:Addr):dE:=(LF g h L).filter fun p=>decide (p.1≠d)
structure Mod (K:PySem.W.Frag)(mg:gA)(base:Heap):Prop where
 kin:K.In base
 glob:base.Ns mainGlobals mg
 blt:∃ mb,base.Ns builtinsNs mb/\∀ x:Str,x≠"__name__"->mb x=bootBuiltins x
 nolimit:base.NoLimit
structure Cx where
 prog:Program
 w:World
 K:PySem.W.Frag
 mg:gA
 base:Heap
 A:Around
 N:aQ
 s₀:Shared
 H₀:Hp
 env:Env
 outer:List Env
 stack:List Env
 ex:List Addr
 fn:Str->Bool
 calm:Bool
 pn:dE
 xe:bX
noncomputable def frs (l:List Env):List Addr:=l.filterMap (·.frame)
noncomputable abbrev Cx.fs (X:Cx):List Addr:=frs X.outer
noncomputable def OT (sc:Scope)(x:Str):Prop:=sc.names.lookup x=some .local∨sc.names.lookup x=some .cell∨sc.names.lookup x=some .free
noncomputable def OW (sc:Scope)(x:Str):Prop:=sc.names.lookup x=some .local∨sc.names.lookup x=some .cell
noncomputable def O3 (env:Env)(h:Heap)(m:gA)(x:Str)(u:Value):Prop :=
 (env.kindOf x=some .local/\m x=some u)∨((env.kindOf x=some .cell∨env.kindOf x=some .free)/\∃ c,env.cells.lookup x=some c/\h.IsCell c (some u))
structure Cx.Ok (X:Cx):Prop where
 mod:Mod X.K X.mg X.base
 kind:X.env.scope.kind = .function
 glob:X.env.globals=mainGlobals
 blt:X.env.builtins=builtinsNs
 above:X.s₀.heap.objs.size<=X.env.locals
 inj:∀ x y c,X.env.cells.lookup x=some c->X.env.cells.lookup y=some c->x=y
 has:∀ x,(X.env.kindOf x=some .cell∨X.env.kindOf x=some .free)->∃ c,X.env.cells.lookup x=some c
 cab:∀ x c,X.fn x=true->X.env.cells.lookup x=some c->X.s₀.heap.objs.size<=c
 hd:X.calm=true->X.A.handled=none
 frames:X.A.frames=some X.stack
 stk:X.stack=X.outer∨(X.stack=X.env :: X.outer/\X.env.frame=some X.env.locals)
 exf:∀ b ∈ X.ex,b≠X.env.locals/\∀ x c,X.env.cells.lookup x=some c->c≠b
 bs:∀ b o,X.base.get? b=some o->X.s₀.heap.get? b=some o/\X.H₀ b=none
 bsz:X.base.objs.size<=X.s₀.heap.objs.size
 noex:∀ b o,X.base.get? b=some o->b ∉ X.ex
 exfs:∀ b ∈ X.ex,b ∉ X.fs
 funs:X.s₀.heap.FunFrames X.base X.outer
 frf:∀ b ∈ X.fs,X.H₀ b=none
structure aO (X:Cx)(pins:dE)(σ:List (Option V))(H:Hp)(s:Shared):Prop where
 ok:X.Ok
 os:s.os=X.s₀.os
 bare:AllBare s.gens
 base:Un X.fs X.ex X.H₀ H X.s₀.heap s.heap
 loc:∃ m,s.heap.Ns X.env.locals m/\∀ (i:Nat) (x:Str) (v:V),X.N[i]?=some x->σ[i]?=some (some v)->OT X.env.scope x->∃ u,aX v u/\O3 X.env s.heap m x u
 cell:∀ x c,X.env.cells.lookup x=some c->∃ v,s.heap.IsCell c v
 free:H X.env.locals=none
 freeC:∀ x c,X.env.cells.lookup x=some c->H c=none
 pin:∀ p ∈ X.pn ++ pins,s.heap.get? p.1=some p.2/\H p.1=none/\p.1≠X.env.locals/\p.1 ∉ X.fs/\∀ v,p.2.data≠.cell v
 hok:gX X.prog X.w H s.heap
 len:σ.length=X.N.length
section
variable {X:Cx}{pins:dE}{σ:List (Option V)}{H H':Hp}{s:Shared}{h':Heap}
theorem Cx.Ok.nofr (ok:X.Ok){b:Addr}{o:Obj}(e:X.base.get? b=some o):b ∉ X.fs:=fun hb=>by
 have:=(ok.funs.mem hb).1
 rw [e] at this;cases this
theorem aO.bs (I:aO X pins σ H s):∀ b o,X.base.get? b=some o->s.heap.get? b=some o/\H b=none:=fun b o e =>
 ⟨I.base.keep b o (I.ok.bs b o e).1 (I.ok.bs b o e).2 (I.ok.nofr e) (I.ok.noex b o e),I.base.free b o (I.ok.bs b o e).1 (I.ok.bs b o e).2 (I.ok.noex b o e)⟩
theorem aO.bk (I:aO X pins σ H s):∀ b o,X.base.get? b=some o->s.heap.get? b=some o:=fun b o e=>(I.bs b o e).1
theorem aO.mod (I:aO X pins σ H s):Mod X.K X.mg X.base:=I.ok.mod
theorem aO.kIn (I:aO X pins σ H s):X.K.In s.heap:=I.ok.mod.kin.keeps I.bk
theorem aO.lt (I:aO X pins σ H s):X.env.locals < s.heap.objs.size:=let ⟨_,hn,_⟩:=I.loc;hn.lt
theorem aO.sz (I:aO X pins σ H s):X.s₀.heap.objs.size<=s.heap.objs.size:=Nat.le_trans I.ok.above (Nat.le_of_lt I.lt)
theorem aO.nofs (I:aO X pins σ H s){a:Addr}(h:s.heap.objs.size<=a):a ∉ X.fs:=fun hb=>by
 obtain ⟨_,o,ho,_⟩:=I.ok.funs.mem hb
 exact absurd (Nat.lt_of_lt_of_le (Heap.lt_size ho) (Nat.le_trans I.sz h)) (Nat.lt_irrefl _)
theorem aO.cne (I:aO X pins σ H s):∀ x c,X.env.cells.lookup x=some c->c≠X.env.locals:=fun x c e z=>by
 obtain ⟨v,o,ho,hd⟩:=I.cell x c e
 obtain ⟨m,⟨o',es,ep,ho',hd',_⟩,_⟩:=I.loc
 rw [z,ho'] at ho;cases ho;rw [hd'] at hd;cases hd
theorem aO.funs (I:aO X pins σ H s):s.heap.FunFrames X.base X.outer:=by
 have all:∀ (l:List Env),(∀ b ∈ frs l,b ∈ X.fs)->X.s₀.heap.FunFrames X.base l->s.heap.FunFrames X.base l:=by
  intro l
  induction l with
  | nil=>intro _ _;trivial
  | cons env r ih =>
   intro hs hl
   obtain ⟨hk,⟨L,o,hf,hn,ho,hd⟩,hr⟩:=hl
   have hL:L ∈ X.fs:=hs L (by unfold frs;rw [List.filterMap_cons,hf];exact List.mem_cons_self)
   obtain ⟨sl,e⟩:=I.base.slot L o ho (I.ok.frf L hL) hL fun z=>I.ok.exfs L z hL
   exact ⟨hk,⟨L,_,hf,hn,e,hd⟩,ih (fun b hb=>hs b (by unfold frs;rw [List.filterMap_cons,hf];exact List.mem_cons_of_mem _ hb)) hr⟩
 exact all X.outer (fun _ hb=>hb) I.ok.funs
theorem aO.stack (I:aO X pins σ H s):s.heap.FunFrames X.base X.stack:=by
 rcases I.ok.stk with e | ⟨e,hf⟩
 ·rw [e];exact I.funs
 ·rw [e]
  obtain ⟨m,hn,_⟩:=I.loc
  refine .cons (by rw [I.ok.kind];decide) hf hn ?_ I.funs
  exact Heap.get?_none_of_le (Nat.le_trans I.ok.bsz I.ok.above)
theorem aO.stkSub (I:aO X pins σ H s):∀ b ∈ frs X.stack,b ∈ X.env.locals :: X.fs:=fun b hb=>by
 rcases I.ok.stk with e | ⟨e,hf⟩
 ·rw [e] at hb;exact List.mem_cons_of_mem _ hb
 ·rw [e] at hb
  unfold frs at hb
  rw [List.filterMap_cons,hf] at hb
  exact hb
theorem aO.stkFree (I:aO X pins σ H s):∀ b ∈ frs X.stack,H b=none:=fun b hb=>by
 rcases List.mem_cons.mp (I.stkSub b hb) with e | hb
 ·rw [e];exact I.free
 ·obtain ⟨_,o,ho,_⟩:=I.ok.funs.mem hb
  exact I.base.free b o ho (I.ok.frf b hb) fun z=>I.ok.exfs b z hb
theorem aO.step {g':Array GenState}{t':Nat}{d':Drawn}{ch:List Addr}(I:aO X pins σ H s)
  (hch:∀ b ∈ ch,(b ∈ X.ex∨X.s₀.heap.objs.size<=b)/\b≠X.env.locals/\(∀ x c,X.env.cells.lookup x=some c->c≠b)/\∀ p ∈ X.pn ++ pins,p.1≠b)
  (keep:∀ b o,b≠X.env.locals->b ∉ X.fs->b ∉ ch->s.heap.get? b=some o->H b=none->h'.get? b=some o)
  (slot:∀ b o,b≠X.env.locals->b ∈ X.fs->b ∉ ch->s.heap.get? b=some o->H b=none->∃ sl,h'.get? b=some { o with slots:=sl }) (free:∀ b o,b ∉ ch->s.heap.get? b=some o->H b=none->H' b=none)
  (there:∀ b o,b ∉ ch->s.heap.get? b=some o->∃ o',h'.get? b=some o')
  (tups:∀ b xs,H b=some (.tup xs)->H' b=some (.tup xs)) (frzs:∀ b o u,H b=some (.frz o u)->H' b=some (.frz o u)) (tbls:∀ b ps,H b=some (.tbl ps)->∃ more,H' b=some (.tbl (ps ++ more)))
  (ns:∀ m,s.heap.Ns X.env.locals m->h'.Ns X.env.locals m) (hok:gX X.prog X.w H' h') (hg:AllBare g') :
  aO X pins σ H' { s with heap:=h',gens:=g',drawn:=d',toks:=t' }:=by
 have neL:∀ b o,X.s₀.heap.get? b=some o->b≠X.env.locals:=fun b o e=>Nat.ne_of_lt (Nat.lt_of_lt_of_le (Heap.lt_size e) I.ok.above)
 have neC:∀ b o,X.s₀.heap.get? b=some o->b ∉ X.ex->b ∉ ch:=fun b o e hx hb=>by
  rcases (hch b hb).1 with z | z
  ·exact hx z
  ·exact absurd (Nat.lt_of_lt_of_le (Heap.lt_size e) z) (Nat.lt_irrefl _)
 have cellK:∀ x c,X.env.cells.lookup x=some c->∀ v,s.heap.IsCell c v->h'.IsCell c v:=fun x c e v ⟨o,ho,hd⟩=>by
  have nch:c ∉ ch:=fun z=>(hch c z).2.2.1 x c e rfl
  by_cases hc:c ∈ X.fs
  ·obtain ⟨sl,q⟩:=slot c o (I.cne x c e) hc nch ho (I.freeC x c e)
   exact ⟨_,q,hd⟩
  ·exact ⟨o,keep c o (I.cne x c e) hc nch ho (I.freeC x c e),hd⟩
 refine ⟨I.ok,I.os,hg,⟨fun b o e n hb hx=>?_,fun b o e n hb hx=>?_,fun b o e n hx=>?_,fun b o e hx=>?_,fun b xs e=>tups b xs (I.base.tups b xs e),fun b o xs e=>frzs b o xs (I.base.frzs b o xs e),fun b ps e=>?_⟩,?_,fun x c e=>?_,?_,fun x c e=>?_,fun p hp=>?_,hok,I.len⟩
 ·exact keep b o (neL b o e) hb (neC b o e hx) (I.base.keep b o e n hb hx) (I.base.free b o e n hx)
 ·obtain ⟨sl,e1⟩:=I.base.slot b o e n hb hx
  obtain ⟨sl',e2⟩:=slot b _ (neL b o e) hb (neC b o e hx) e1 (I.base.free b o e n hx)
  exact ⟨sl',e2⟩
 ·obtain ⟨o',e1⟩:=I.base.there b o e hx
  exact free b o' (neC b o e hx) e1 (I.base.free b o e n hx)
 ·obtain ⟨o',e1⟩:=I.base.there b o e hx
  exact there b o' (neC b o e hx) e1
 ·obtain ⟨m1,e1⟩:=I.base.tbls b ps e
  obtain ⟨m2,e2⟩:=tbls b _ e1
  exact ⟨m1 ++ m2,by rw [e2,Array.append_assoc]⟩
 ·obtain ⟨m,hn,hl⟩:=I.loc
  refine ⟨m,ns m hn,fun i x v e1 e2 e3=>?_⟩
  obtain ⟨u,r,l⟩:=hl i x v e1 e2 e3
  refine ⟨u,r,?_⟩
  rcases l with l | ⟨k,c,e,z⟩
  ·exact .inl l
  ·exact .inr ⟨k,c,e,cellK x c e _ z⟩
 ·obtain ⟨v,z⟩:=I.cell x c e
  exact ⟨v,cellK x c e v z⟩
 ·obtain ⟨m,⟨o,_,_,ho,_⟩,_⟩:=I.loc
  exact free _ o (fun z=>(hch _ z).2.1 rfl) ho I.free
 ·obtain ⟨v,o,ho,hd⟩:=I.cell x c e
  exact free c o (fun z=>(hch c z).2.2.1 x c e rfl) ho (I.freeC x c e)
 ·obtain ⟨e,n,ne,nf,d⟩:=I.pin p hp
  have nch:p.1 ∉ ch:=fun z=>(hch p.1 z).2.2.2 p hp rfl
  exact ⟨keep p.1 p.2 ne nf nch e n,free p.1 p.2 nch e n,ne,nf,d⟩
theorem aO.un {t':Nat}(I:aO X pins σ H s)(u:Un X.fs [] H H' s.heap h')(hok:gX X.prog X.w H' h'):aO X pins σ H' { s with heap:=h',toks:=t' }:=by
 obtain ⟨m,⟨o,es,ep,ho,r⟩,_⟩:=id I.loc
 obtain ⟨sl,hL⟩:=u.any ho I.free (by simp)
 exact I.step (g':=s.gens) (d':=s.drawn) (ch:=[]) (fun _ z=>nomatch z) (fun b o _ hb _ e n=>u.keep b o e n hb (by simp)) (fun b o _ hb _ e n=>u.slot b o e n hb (by simp)) (fun b o _ e n=>u.free b o e n (by simp)) (fun b o _ e=>u.there b o e (by simp)) u.tups u.frzs u.tbls (fun m' hm=>by
  obtain ⟨o',es',ep',ho',r'⟩:=hm
  rw [ho] at ho';cases ho'
  exact ⟨_,es',ep',hL,r'⟩) hok I.bare
theorem aO.call {g':Array GenState}{t':Nat}{d':Drawn}{ch:List Addr}(I:aO X pins σ H s)(u:Un (frs X.stack) ch H H' s.heap h')(hok:gX X.prog X.w H' h')(hg:AllBare g')
  (hch:∀ b ∈ ch,(b ∈ X.ex∨X.s₀.heap.objs.size<=b)/\b≠X.env.locals/\(∀ x c,X.env.cells.lookup x=some c->c≠b)/\∀ p ∈ X.pn ++ pins,p.1≠b) :
  aO X pins σ H' { s with heap:=h',gens:=g',drawn:=d',toks:=t' }:=by
 obtain ⟨m,⟨o,es,ep,ho,r⟩,_⟩:=id I.loc
 obtain ⟨sl,hL⟩:=u.any ho I.free fun z=>(hch _ z).2.1 rfl
 exact I.step (ch:=ch) hch (fun b o hL hb hc e n=>u.keep b o e n (fun z=>(List.mem_cons.mp (I.stkSub b z)).elim hL hb) hc) (fun b o _ _ hc e n=>u.any e n hc) (fun b o hc e n=>u.free b o e n hc) (fun b o hc e=>u.there b o e hc) u.tups u.frzs u.tbls (fun m' hm=>by
  obtain ⟨o',es',ep',ho',r'⟩:=hm
  rw [ho] at ho';cases ho'
  exact ⟨_,es',ep',hL,r'⟩) hok hg
theorem aO.turned {t':Nat}{it:Addr}(I:aO X pins σ H s)(k:∀ b o,b≠it->s.heap.get? b=some o->h'.get? b=some o)(hn:H it=none)(hL:it≠X.env.locals)
  (h1:it ∈ X.ex∨X.s₀.heap.objs.size<=it) (h2:∀ x c,X.env.cells.lookup x=some c->c≠it) (h3:∀ p ∈ X.pn ++ pins,p.1≠it):aO X pins σ H { s with heap:=h',toks:=t' }:=by
 have nit:∀ b u,H b=some u->b≠it:=fun b u e z=>by rw [z,hn] at e;cases e
 refine I.step (g':=s.gens) (d':=s.drawn) (ch:=[it]) (fun b hb=>?_) (fun b o _ _ hc e _=>k b o (fun z=>hc (by simp [z])) e) (fun b o _ _ hc e _=>⟨o.slots,k b o (fun z=>hc (by simp [z])) e⟩) (fun _ _ _ _ n=>n)
  (fun b o hc e=>⟨o,k b o (fun z=>hc (by simp [z])) e⟩) (fun _ _ e=>e) (fun _ _ _ e=>e) (fun b ps e=>⟨#[],by rw [e];simp⟩) (fun m hm=>?_) (fun b u e=>?_) I.bare
 ·have e:b=it:=by simpa using hb
  subst e
  exact ⟨h1,hL,h2,h3⟩
 ·obtain ⟨o,es,ep,ho,r⟩:=hm
  exact ⟨o,es,ep,k _ o (Ne.symm hL) ho,r⟩
 ·refine (I.hok b u e).stay (fun c v hc q=>k c v ?_ q) (fun _ q=>q) fun _ _ q=>q
  rcases hc with z | z
  ·rw [z];exact nit b u e
  ·exact nit c _ z
theorem aO.tok (I:aO X pins σ H s)(t:Nat):aO X pins σ H { s with toks:=t }:=I.un (h':=s.heap) (t':=t) Un.refl I.hok
theorem aO.kept {t':Nat}(I:aO X pins σ H s)(k:∀ b u,s.heap.get? b=some u->h'.get? b=some u):aO X pins σ H { s with heap:=h',toks:=t' }:=I.un (Un.kept k) (I.hok.kept k)
theorem aO.laid {a:Addr}{o:HO}{t':Nat}(I:aO X pins σ H s)(k:∀ b u,s.heap.get? b=some u->h'.get? b=some u)(hp:s.heap.objs.size<=a)(new:cE X.prog X.w (upd H a o) h' a o) :
  aO X pins σ (upd H a o) { s with heap:=h',toks:=t' }:=I.un (Un.laid k hp (I.hok.fresh hp)) (I.hok.laid k hp new)
theorem aO.write {x e:Addr}{o:HO}{t':Nat}(I:aO X pins σ H s)(mu:OV (H x))(he:e=x∨H e=some (.own x))(k:∀ b u,b≠e->s.heap.get? b=some u->h'.get? b=some u)(heo:∃ u,h'.get? e=some u)
  (new:cE X.prog X.w (upd H x o) h' x o):aO X pins σ (upd H x o) { s with heap:=h',toks:=t' }:=I.un (Un.write mu he k heo) (I.hok.write mu he k heo new)
theorem aO.pins_of {pins':dE}(I:aO X pins σ H s)(h:∀ p ∈ pins',s.heap.get? p.1=some p.2/\H p.1=none/\p.1≠X.env.locals/\p.1 ∉ X.fs/\∀ v,p.2.data≠.cell v):aO X pins' σ H s :=
 ⟨I.ok,I.os,I.bare,I.base,I.loc,I.cell,I.free,I.freeC,fun p hp=>(List.mem_append.mp hp).elim (fun z=>I.pin p (List.mem_append_left _ z)) (h p),I.hok,I.len⟩
theorem x9 {N:aQ}(hN:N.Nodup){i j:Nat}{x:Str}(a:N[i]?=some x)(b:N[j]?=some x):i=j:=by
 obtain ⟨h1,e1⟩:=List.getElem?_eq_some_iff.mp a
 obtain ⟨h2,e2⟩:=List.getElem?_eq_some_iff.mp b
 exact (List.getElem_inj hN).mp (e1.trans e2.symm)
theorem tM {M:Model}{A:Around}{E:bX}{i:Nat}{x:Str}{v:V}{u:Value}{Q:Unit->Shared->Prop}(I:aO X pins σ H s)(hN:X.N.Nodup)(hi:X.N[i]?=some x)(hx:OW X.env.scope x)(r:aX v u)
  (h:∀ s',aO X pins (σ.set i (some v)) H s'->(∃ a,Heap.SameBut a s.heap s'.heap/\(a=X.env.locals∨X.env.cells.lookup x=some a))->Q () s') (hf:X.fn x=true∨X.env.scope.names.lookup x=some .local:=by first | exact .inl rfl | exact .inr rfl | assumption):wpAny M A (storeName X.env x u) Q E s:=by
 obtain ⟨m,hn,hl⟩:=id I.loc
 have hcls:(X.env.scope.kind == .class || (X.env.scope.kind == .module && X.env.locals != X.env.globals))=false:=by rw [I.ok.kind];rfl
 have hiσ:i < σ.length:=by rw [I.len];exact (List.getElem?_eq_some_iff.mp hi).1
 have cne:=I.cne
 have tracked:∀ {a:Addr} {h':Heap},(∃ o,s.heap.get? a=some o/\H a=none)->Heap.SameBut a s.heap h'->gX X.prog X.w H h':=fun {a h'} ha hs b ob e=>by
  obtain ⟨_,_,hfree⟩:=ha
  refine (I.hok b ob e).stay (fun c w' hc q=>(hs.2 c ?_).trans q) (fun _ q=>q) fun _ _ q=>q
  rintro rfl
  rcases hc with rfl | hc
  ·rw [hfree] at e;cases e
  ·rw [hfree] at hc;cases hc
 rcases hx with hk | hk
 ·refine wpAny_storeName_local hk hn (fun h' hn' hs=>?_) hcls
  obtain ⟨oL,_,_,hoL,_⟩:=id hn
  refine h _ ⟨I.ok,I.os,I.bare,⟨fun b o e n hb hx=>?_,fun b o e n hb hx=>?_,I.base.free,fun b o e hx=>?_,I.base.tups,I.base.frzs,I.base.tbls⟩,⟨_,hn',fun j y v' e1 e2 e3=>?_⟩,fun y c e=>?_,I.free,I.freeC,fun p hp=>?_,tracked ⟨oL,hoL,I.free⟩ hs,by simpa using I.len⟩ ⟨_,hs,.inl rfl⟩
  ·exact (hs.2 b (Nat.ne_of_lt (Nat.lt_of_lt_of_le (Heap.lt_size e) I.ok.above))).trans (I.base.keep b o e n hb hx)
  ·obtain ⟨sl,e1⟩:=I.base.slot b o e n hb hx
   exact ⟨sl,(hs.2 b (Nat.ne_of_lt (Nat.lt_of_lt_of_le (Heap.lt_size e) I.ok.above))).trans e1⟩
  ·obtain ⟨o',e1⟩:=I.base.there b o e hx
   exact ⟨o',(hs.2 b (Nat.ne_of_lt (Nat.lt_of_lt_of_le (Heap.lt_size e) I.ok.above))).trans e1⟩
  ·by_cases hj:j=i
   ·subst hj
    rw [hi] at e1;cases e1
    rw [List.getElem?_set_self hiσ] at e2
    cases e2
    exact ⟨u,r,.inl ⟨hk,by simp⟩⟩
   ·rw [List.getElem?_set_ne (Ne.symm hj)] at e2
    obtain ⟨u',r',q⟩:=hl j y v' e1 e2 e3
    refine ⟨u',r',?_⟩
    rcases q with ⟨k,e⟩ | ⟨k,c,e,z⟩
    ·refine .inl ⟨k,?_⟩
     have:y≠x:=fun e=>hj (x9 hN e1 (e ▸ hi))
     simp [this,e]
    ·exact .inr ⟨k,c,e,z.sameBut hs (cne y c e)⟩
  ·obtain ⟨w',z⟩:=I.cell y c e
   exact ⟨w',z.sameBut hs (cne y c e)⟩
  ·obtain ⟨e,n,ne,nf,d⟩:=I.pin p hp
   exact ⟨(hs.2 p.1 ne).trans e,n,ne,nf,d⟩
 ·have hfn:X.fn x=true:=by
   rcases hf with z | z
   ·exact z
   ·rw [z] at hk;cases hk
  obtain ⟨c,hc⟩:=I.ok.has x (.inl hk)
  obtain ⟨w',z⟩:=I.cell x c hc
  refine wpAny_storeName_cell I.ok.kind hk hc z (fun h' hc' hs=>?_)
  obtain ⟨oc,hoc,hocd⟩:=id z
  refine h { s with heap:=h' } ⟨I.ok,I.os,I.bare,⟨fun b o e n hb hx=>?_,fun b o e n hb hx=>?_,I.base.free,fun b o e hx=>?_,I.base.tups,I.base.frzs,I.base.tbls⟩,⟨m,hn.sameBut hs (Ne.symm (cne x c hc)),fun j y v' e1 e2 e3=>?_⟩,fun y c' e=>?_,I.free,I.freeC,fun p hp=>?_,tracked ⟨oc,hoc,I.freeC x c hc⟩ hs,by simpa using I.len⟩ ⟨c,hs,.inr hc⟩
  ·exact (hs.2 b (Nat.ne_of_lt (Nat.lt_of_lt_of_le (Heap.lt_size e) (I.ok.cab x c hfn hc)))).trans (I.base.keep b o e n hb hx)
  ·obtain ⟨sl,e1⟩:=I.base.slot b o e n hb hx
   exact ⟨sl,(hs.2 b (Nat.ne_of_lt (Nat.lt_of_lt_of_le (Heap.lt_size e) (I.ok.cab x c hfn hc)))).trans e1⟩
  ·obtain ⟨o',e1⟩:=I.base.there b o e hx
   exact ⟨o',(hs.2 b (Nat.ne_of_lt (Nat.lt_of_lt_of_le (Heap.lt_size e) (I.ok.cab x c hfn hc)))).trans e1⟩
  ·by_cases hj:j=i
   ·subst hj
    rw [hi] at e1;cases e1
    rw [List.getElem?_set_self hiσ] at e2
    cases e2
    exact ⟨u,r,.inr ⟨.inl hk,c,hc,hc'⟩⟩
   ·rw [List.getElem?_set_ne (Ne.symm hj)] at e2
    obtain ⟨u',r',q⟩:=hl j y v' e1 e2 e3
    refine ⟨u',r',?_⟩
    rcases q with q | ⟨k,c',e,z'⟩
    ·exact .inl q
    ·refine .inr ⟨k,c',e,z'.sameBut hs ?_⟩
     rintro rfl
     exact hj (x9 hN e1 (I.ok.inj _ _ _ e hc ▸ hi))
  ·by_cases hcc:c'=c
   ·subst hcc;exact ⟨_,hc'⟩
   ·obtain ⟨w2,z2⟩:=I.cell y c' e
    exact ⟨w2,z2.sameBut hs hcc⟩
  ·obtain ⟨e,n,ne,nf,d⟩:=I.pin p hp
   refine ⟨(hs.2 p.1 ?_).trans e,n,ne,nf,d⟩
   intro q
   rw [q,hoc] at e
   have q':oc=p.2:=Option.some.inj e
   exact d w' (by rw [← q'];exact hocd)
theorem xJ {M:Model}{A:Around}{E:bX}{i:Nat}{x:Str}{v:V}{u:Value}{Q:Unit->Shared->Prop}(I:aO X pins σ H s)(hN:X.N.Nodup)(hi:X.N[i]?=some x)(hx:OW X.env.scope x)(r:aX v u)
  (h:∀ s',aO X pins (σ.set i (some v)) H s'->Q () s') (hf:X.fn x=true∨X.env.scope.names.lookup x=some .local:=by first | exact .inl rfl | exact .inr rfl | assumption):wpAny M A (storeName X.env x u) Q E s :=
 tM I hN hi hx r (fun s' I' _=>h s' I') hf
theorem aO.call' {s':Shared}{ch:List Addr}(I:aO X pins σ H s)(ho:s'.os=s.os)(u:Un (frs X.stack) ch H H' s.heap s'.heap)(hok:gX X.prog X.w H' s'.heap)(hg:AllBare s'.gens)
  (hch:∀ b ∈ ch,(b ∈ X.ex∨X.s₀.heap.objs.size<=b)/\b≠X.env.locals/\(∀ x c,X.env.cells.lookup x=some c->c≠b)/\∀ p ∈ X.pn ++ pins,p.1≠b):aO X pins σ H' s':=by
 obtain ⟨h',g',d',t',o'⟩:=s'
 have e:o'=s.os:=ho
 subst e
 exact I.call (g':=g') (t':=t') (d':=d') u hok hg hch
end
noncomputable abbrev XK:=Value->Option Addr->Hp->Prop
noncomputable abbrev St:=List (Option V)
noncomputable abbrev VK:=V->Hp->Prop
noncomputable abbrev TE:=St->Hp->VK->Prop
noncomputable abbrev TT:=St->Hp->(Bool->Hp->Prop)->Prop
noncomputable abbrev TA:=St->Hp->(List V->Hp->Prop)->Prop
structure jQ where
 nx:St->Hp->Prop
 rt:VK
 bk:St->Hp->Prop:=fun _ _=>False
 ct:St->Hp->Prop:=fun _ _=>False
noncomputable abbrev TS:=jQ->St->Hp->Prop
noncomputable def EP (X:Cx)(pins:dE)(σ:St)(Q:VK)(u:Value)(s':Shared):Prop:=∃ v H',aO X pins σ H' s'/\aX v u/\Q v H'
noncomputable def TP (X:Cx)(pins:dE)(σ:St)(Q:Bool->Hp->Prop)(b:Bool)(s':Shared):Prop:=∃ H',aO X pins σ H' s'/\Q b H'
noncomputable def AP (X:Cx)(pins:dE)(σ:St)(Q:List V->Hp->Prop)(us:bP)(s':Shared):Prop:=∃ vs H',aO X pins σ H' s'/\aU vs us/\Q vs H'
noncomputable def SP (X:Cx)(pins:dE)(D:jQ)(f:Flow)(s':Shared):Prop :=
 match f with
 | .next=>∃ σ' H',aO X pins σ' H' s'/\D.nx σ' H'
 | .brk=>∃ σ' H',aO X pins σ' H' s'/\D.bk σ' H'
 | .cont=>∃ σ' H',aO X pins σ' H' s'/\D.ct σ' H'
 | .ret u=>∃ v σ' H',aO X pins σ' H' s'/\aX v u/\D.rt v H'
noncomputable def PE (X:Cx)(e:Expr)(t:TE):Prop :=
 ∀ (pins:dE) (s:Shared) (σ:St) (H:Hp) (Q:VK),aO X pins σ H s->t σ H Q->wpAny (model X.prog X.w) X.A (eval e X.env) (EP X pins σ Q) X.xe s
noncomputable def PT (X:Cx)(e:Expr)(t:TT):Prop :=
 ∀ (pins:dE) (s:Shared) (σ:St) (H:Hp) (Q:Bool->Hp->Prop),aO X pins σ H s->t σ H Q->wpAny (model X.prog X.w) X.A (isTrue e X.env (eval e X.env)) (TP X pins σ Q) X.xe s
noncomputable def PW (X:Cx)(e:Expr)(t:TT):Prop :=
 ∀ (whole:Sem Value) (pins:dE) (s:Shared) (σ:St) (H:Hp) (Q:Bool->Hp->Prop),aO X pins σ H s->t σ H Q->wpAny (model X.prog X.w) X.A (isTrue e X.env whole) (TP X pins σ Q) X.xe s
theorem PW.pt {X:Cx}{e:Expr}{t:TT}(h:PW X e t):PT X e t:=h _
noncomputable def PA (X:Cx)(es:lW)(t:TA):Prop :=
 ∀ (pos:Pos) (pins:dE) (s:Shared) (σ:St) (H:Hp) (Q:List V->Hp->Prop),aO X pins σ H s->t σ H Q->wpAny (model X.prog X.w) X.A (spliced (backTo pos (starEach es X.env))) (AP X pins σ Q) X.xe s
noncomputable def PS (X:Cx)(st:Stmt)(t:TS):Prop :=
 ∀ (pins:dE) (s:Shared) (σ:St) (H:Hp) (D:jQ),aO X pins σ H s->t D σ H->wpAny (model X.prog X.w) X.A (exec st X.env) (SP X pins D) X.xe s
noncomputable def C0 (X:Cx)(st:List Stmt)(t:TS):Prop :=
 ∀ (pins:dE) (s:Shared) (σ:St) (H:Hp) (D:jQ),aO X pins σ H s->t D σ H->wpAny (model X.prog X.w) X.A (execs st X.env) (SP X pins D) X.xe s
theorem thn {α:Type}{t:Sem α}{Q Q':α->Shared->Prop}{M:Model}{A:Around}{E:bX}{s:Shared}(h:wpAny M A t Q E s)(hQ:∀ a s,Q a s->Q' a s):wpAny M A t Q' E s:=wpAny_mono h hQ fun _ _ x=>x
section
variable {X:Cx}
theorem bin {a b:Expr}{ta tb:TE}(ha:PE X a ta)(hb:PE X b tb){pins:dE}{s:Shared}{σ:St}{H:Hp}{R:V->V->Hp->Prop}(I:aO X pins σ H s)(h:ta σ H fun x H1=>tb σ H1 fun y H2=>R x y H2)
  {α:Type} {Q:α->Shared->Prop} {f:Value->Value->Sem α}
  (hf:∀ v u s2 x y H2,aO X pins σ H2 s2->aX x v->aX y u->R x y H2->wpAny (model X.prog X.w) X.A (f v u) Q X.xe s2) :
  wpAny (model X.prog X.w) X.A (eval a X.env) (fun v s₁=>wpAny (model X.prog X.w) X.A (eval b X.env) (fun u s₂=>wpAny (model X.prog X.w) X.A (f v u) Q X.xe s₂) X.xe s₁) X.xe s:=by
 refine thn (ha pins s σ H _ I h) fun v s1 ⟨x,H1,I1,r1,q1⟩=>?_
 refine thn (hb pins s1 σ H1 _ I1 q1) fun u s2 ⟨y,H2,I2,r2,q2⟩=>?_
 exact hf v u s2 x y H2 I2 r1 r2 q2
noncomputable def tVar (i:Nat):TE:=fun σ H Q=>∃ v,σ[i]?=some (some v)/\Q v H
noncomputable def tC (v:V):TE:=fun _ H Q=>Q v H
theorem GC {i:Nat}{x:Str}{pos:Pos}(hN:X.N[i]?=some x)(hv:OT X.env.scope x)(hd:(x == ("__debug__" : Str))=false:=by decide)(hcd:(x == ("__classdict__" : Str))=false:=by decide):PE X (.Name x pos) (tVar i):=by
 intro pins s σ H Q I h
 obtain ⟨v,e,h⟩:=h
 obtain ⟨m,hn,hl⟩:=I.loc
 obtain ⟨u,r,l⟩:=hl i x v hN e hv
 have fin:EP X pins σ Q u s:=⟨v,H,I,r,h⟩
 rcases l with ⟨hk,hm⟩ | ⟨hk,c,hc,hcell⟩
 ·exact wpAny_Name (wpAny_loadName_local I.ok.kind hk hn hm fin) hd
 ·rcases hk with hk | hk
  ·exact wpAny_Name (wpAny_loadName_cell I.ok.kind hk hc hcell fin) hd
  ·exact wpAny_Name (wpAny_loadName_free I.ok.kind hk hc hcell fin hcd) hd
theorem aJ {i j pos}:PE X (.Constant (.int i) j pos) (tC (.int i)):=fun _ _ _ H _ I h=>wpAny_Constant_int ⟨.int i,H,I.tok _,⟨_,rfl⟩,h⟩
theorem mB {b j pos}:PE X (.Constant (.bool b) j pos) (tC (.bl b)):=fun _ _ _ H _ I h=>Constant_bool ⟨.bl b,H,I,rfl,h⟩
theorem vX {j pos}:PE X (.Constant .none j pos) (tC .non):=fun _ _ _ H _ I h=>Constant_none ⟨.non,H,I,rfl,h⟩
theorem gH {x j pos}:PE X (.Constant (.str x) j pos) (tC (.str x)):=fun _ _ _ H _ I h=>Calls.Constant_str ⟨.str x,H,I.tok _,⟨_,rfl⟩,h⟩
noncomputable def Gl (X:Cx)(x:Str):Prop:=X.env.kindOf x=some .globalImplicit
theorem qI {E:bX}{pins:dE}{s:Shared}{σ:St}{H:Hp}{x:Str}{u:Value}{pos:Pos}{Q:bX}(I:aO X pins σ H s)(hg:Gl X x)(hm:X.mg x=some u)(h:Q u s)
  (hd:(x == ("__debug__" : Str))=false:=by decide):wpAny (model X.prog X.w) X.A (eval (.Name x pos) X.env) Q E s :=
 Calls.Name_function_global I.ok.kind hg (Calls.loadGlobal_global (by rw [I.ok.glob];exact I.mod.glob.keeps I.bk) hm h) hd
theorem kO {E:bX}{pins:dE}{s:Shared}{σ:St}{H:Hp}{x:Str}{u:Value}{pos:Pos}{Q:bX}(I:aO X pins σ H s)(hg:Gl X x)(hm:X.mg x=none)(hv:bootBuiltins x=some u)(h:Q u s)
  (hn:x≠"__name__":=by decide) (hd:(x == ("__debug__" : Str))=false:=by decide):wpAny (model X.prog X.w) X.A (eval (.Name x pos) X.env) Q E s:=by
 obtain ⟨mb,h1,h2⟩:=I.mod.blt
 exact Calls.Name_function_global I.ok.kind hg (Calls.loadGlobal_builtin (by rw [I.ok.glob];exact I.mod.glob.keeps I.bk) hm (by rw [I.ok.blt];exact h1.keeps I.bk) ((h2 x hn).trans hv) h) hd
theorem JW {x:Str}{v:V}{u:Value}{pos:Pos}(hg:Gl X x)(hm:X.mg x=some u)(r:aX v u)(hd:(x == ("__debug__" : Str))=false:=by decide):PE X (.Name x pos) (tC v) :=
 fun _ _ _ H _ I h=>qI I hg hm ⟨v,H,I,r,h⟩ hd
theorem bH {x:Str}{v:V}{u:Value}{pos:Pos}(hg:Gl X x)(hm:X.mg x=none)(hv:bootBuiltins x=some u)(r:aX v u)(hn:x≠"__name__":=by decide)(hd:(x == ("__debug__" : Str))=false:=by decide):PE X (.Name x pos) (tC v) :=
 fun _ _ _ H _ I h=>kO I hg hm hv ⟨v,H,I,r,h⟩ hn hd
variable {a b:Expr}{ta tb:TE}{pos:Pos}
variable {tA tB':TT}{rest:lW}
noncomputable def tAnd (t u:TT):TT:=fun σ H Q=>t σ H fun c H1=>if c=true then u σ H1 Q else Q false H1
noncomputable def tOr (t u:TT):TT:=fun σ H Q=>t σ H fun c H1=>if c=true then Q true H1 else u σ H1 Q
noncomputable def tNot (t:TT):TT:=fun σ H Q=>t σ H fun c H1=>Q (!c) H1
theorem lK (ha:PT X a tA):PW X (.BoolOp .And [a] pos) tA:=by
 intro wh pins s σ H Q I h
 refine isTrue_and (thn (ha pins s σ H Q I h) fun c s1 e=>?_)
 cases c with
 | true=>exact isTrue_and_nil e
 | false=>exact e
theorem gF (ha:PT X a tA):PW X (.BoolOp .Or [a] pos) tA:=by
 intro wh pins s σ H Q I h
 refine isTrue_or (thn (ha pins s σ H Q I h) fun c s1 e=>?_)
 cases c with
 | false=>exact isTrue_or_nil e
 | true=>exact e
theorem oV (ha:PT X a tA)(hb:PW X (.BoolOp .And (b :: rest) pos) tB'):PW X (.BoolOp .And (a :: b :: rest) pos) (tAnd tA tB'):=by
 intro wh pins s σ H Q I h
 refine isTrue_and (thn (ha pins s σ H _ I h) fun c s1 ⟨H1,I1,q1⟩=>?_)
 cases c with
 | true=>exact hb wh pins s1 σ H1 Q I1 q1
 | false=>exact ⟨H1,I1,q1⟩
theorem iL (ha:PT X a tA)(hb:PW X (.BoolOp .Or (b :: rest) pos) tB'):PW X (.BoolOp .Or (a :: b :: rest) pos) (tOr tA tB'):=by
 intro wh pins s σ H Q I h
 refine isTrue_or (thn (ha pins s σ H _ I h) fun c s1 ⟨H1,I1,q1⟩=>?_)
 cases c with
 | true=>exact ⟨H1,I1,q1⟩
 | false=>exact hb wh pins s1 σ H1 Q I1 q1
theorem cL (ha:PT X a tA):PT X (.UnaryOp .Not a pos) (tNot tA):=by
 intro pins s σ H Q I h
 exact isTrue_not (ha pins s σ H (fun c H1=>Q (!c) H1) I h)
noncomputable def tAndV (ta tb:TE):TE:=fun σ H Q=>ta σ H fun x H1=>∃ c,x = .bl c/\if c=true then tb σ H1 Q else Q (.bl false) H1
noncomputable def tOrV (ta tb:TE):TE:=fun σ H Q=>ta σ H fun x H1=>∃ c,x = .bl c/\if c=true then Q (.bl true) H1 else tb σ H1 Q
noncomputable def tNotV (ta:TE):TE:=fun σ H Q=>ta σ H fun x H1=>∃ c,x = .bl c/\Q (.bl (!c)) H1
theorem vW {op}{t:TE}(h:PE X a t):PE X (.BoolOp op [a] pos) t:=fun pins s σ H Q I hw=>BoolOp_one (h pins s σ H Q I hw)
theorem AF (ha:PE X a ta)(hb:PE X (.BoolOp .And (b :: rest) pos) tb):PE X (.BoolOp .And (a :: b :: rest) pos) (tAndV ta tb):=by
 intro pins s σ H Q I h
 refine BoolOp_and (thn (ha pins s σ H _ I h) fun v s1 ⟨x,H1,I1,r1,q1⟩=>?_)
 obtain ⟨c,rfl,q1⟩:=q1
 cases r1
 refine wpAny_truthy_bool ?_
 cases c with
 | true=>exact hb pins s1 σ H1 Q I1 q1
 | false=>exact ⟨.bl false,H1,I1,rfl,q1⟩
theorem OB (ha:PE X a ta)(hb:PE X (.BoolOp .Or (b :: rest) pos) tb):PE X (.BoolOp .Or (a :: b :: rest) pos) (tOrV ta tb):=by
 intro pins s σ H Q I h
 refine BoolOp_or (thn (ha pins s σ H _ I h) fun v s1 ⟨x,H1,I1,r1,q1⟩=>?_)
 obtain ⟨c,rfl,q1⟩:=q1
 cases r1
 refine wpAny_truthy_bool ?_
 cases c with
 | false=>exact hb pins s1 σ H1 Q I1 q1
 | true=>exact ⟨.bl true,H1,I1,rfl,q1⟩
theorem MR (ha:PE X a ta):PE X (.UnaryOp .Not a pos) (tNotV ta):=by
 intro pins s σ H Q I h
 refine UnaryOp_ (thn (ha pins s σ H _ I h) fun v s1 ⟨x,H1,I1,r1,q1⟩=>?_)
 obtain ⟨c,rfl,q1⟩:=q1
 cases r1
 exact not_of (wpAny_truthy_bool ⟨.bl (!c),H1,I1,rfl,q1⟩)
noncomputable def tIf (t:TT)(ta tb:TE):TE:=fun σ H Q=>t σ H fun c H1=>if c=true then ta σ H1 Q else tb σ H1 Q
theorem q8 {c:Expr}(hc:PT X c tA)(ha:PE X a ta)(hb:PE X b tb):PE X (.IfExp c a b pos) (tIf tA ta tb):=by
 intro pins s σ H Q I h
 refine wpAny_IfExp (thn (hc pins s σ H _ I h) fun d s1 ⟨H1,I1,q1⟩=>?_)
 cases d with
 | true=>exact ha pins s1 σ H1 Q I1 q1
 | false=>exact hb pins s1 σ H1 Q I1 q1
end
noncomputable def eA (K:PySem.W.Frag)(H:Hp)(a:Addr)(xs:List V):Prop :=
 Rd H a (.lst xs) ∨
  ∃ (o:Obj) (its:iA) (n:Nat),K.lookup a=some o/\o.cls = .type "list"/\o.dict=none/\o.data = .seq its n/\its.size<=sizeLine/\aU xs its.toList
noncomputable def h8 (K:PySem.W.Frag)(H:Hp)(a:Addr)(xs:List V):Prop :=
 Rd H a (.tup xs) ∨
  ∃ (o:Obj) (its:iA) (n:Nat),K.lookup a=some o/\o.cls = .type "tuple"/\o.data = .seq its n/\its.size<=sizeLine/\aU xs its.toList
noncomputable def absV:Value->Option V
 | .none=>some .non
 | .bool b=>some (.bl b)
 | .int i _=>some (.int i)
 | .str x _=>some (.str x)
 | .bytes b _=>some (.byt b)
 | .float b _=>some (.flt b)
 | .ref a=>some (.ref a)
 | .type n=>some (.ty n)
 | _=>none
theorem aX.abs {x:V}{u:Value}(r:aX x u):absV u=some x:=by
 cases x with
 | non=>cases r;rfl
 | bl _=>cases r;rfl
 | int _=>obtain ⟨t,rfl⟩:=r;rfl
 | str _=>obtain ⟨t,rfl⟩:=r;rfl
 | byt _=>obtain ⟨t,rfl⟩:=r;rfl
 | flt _=>obtain ⟨t,rfl⟩:=r;rfl
 | ref _=>cases r;rfl
 | ty _=>cases r;rfl
theorem aX.inj {x y:V}{u:Value}(r:aX x u)(q:aX y u):x=y:=Option.some.inj (r.abs.symm.trans q.abs)
theorem aU.inj:∀ {xs ys:List V} {us:bP},aU xs us->aU ys us->xs=ys
 | _,_,_,.nil,.nil=>rfl
 | _,_,_,.cons r t,.cons r' t'=>by rw [r.inj r',aU.inj t t']
section
variable {X:Cx}{pins:dE}{σ:St}{H:Hp}{s:Shared}{a:Addr}{xs ys:List V}
theorem eA.of {K:PySem.W.Frag}(h:H a=some (.lst xs)):eA K H a xs:=.inl (.inl h)
theorem h8.of {K:PySem.W.Frag}(h:H a=some (.tup xs)):h8 K H a xs:=.inl (.inl h)
theorem aO.list (I:aO X pins σ H s)(h:eA X.K H a xs):∃ its:bP,aU xs its/\PlainL s.heap a its.toArray/\xs.length<=sizeLine:=by
 rcases h with h | ⟨o,its,n,hk,hc,hd,hs,hz,r⟩
 ·obtain ⟨z,its,n,r,e⟩:=h.ok I.hok
  exact ⟨its,r,⟨_,n,e,rfl,rfl,rfl⟩,z⟩
 ·refine ⟨its.toList,r,⟨o,n,I.kIn a o hk,hc,hd,by simpa using hs⟩,?_⟩
  have e:=r.length
  simp only [Array.length_toList] at e
  omega
theorem aO.tuple (I:aO X pins σ H s)(h:h8 X.K H a xs):∃ its:bP,aU xs its/\IsTup s.heap a its.toArray/\xs.length<=sizeLine:=by
 rcases h with h | ⟨o,its,n,hk,hc,hs,hz,r⟩
 ·obtain ⟨z,its,r,p⟩:=h.ok I.hok
  exact ⟨its,r,p,z⟩
 ·refine ⟨its.toList,r,⟨o,I.kIn a o hk,hc,n,by simpa using hs⟩,?_⟩
  have e:=r.length
  simp only [Array.length_toList] at e
  omega
theorem aO.list_inj (I:aO X pins σ H s)(h:eA X.K H a xs)(h':eA X.K H a ys):xs=ys:=by
 obtain ⟨its,r,⟨o,n,e,_,_,d⟩,_⟩:=I.list h
 obtain ⟨its',r',⟨o',n',e',_,_,d'⟩,_⟩:=I.list h'
 rw [e] at e';cases e'
 rw [d] at d'
 injection d' with d1 _
 have:its=its':=by simpa using congrArg Array.toList d1
 subst this
 exact r.inj r'
theorem aO.tuple_inj (I:aO X pins σ H s)(h:h8 X.K H a xs)(h':h8 X.K H a ys):xs=ys:=by
 obtain ⟨its,r,⟨o,e,_,n,d⟩,_⟩:=I.tuple h
 obtain ⟨its',r',⟨o',e',_,n',d'⟩,_⟩:=I.tuple h'
 rw [e] at e';cases e'
 rw [d] at d'
 injection d' with d1 _
 have:its=its':=by simpa using congrArg Array.toList d1
 subst this
 exact r.inj r'
end
noncomputable abbrev Cx.wish (X:Cx)(E:bX):Cx:={ X with xe:=E }
noncomputable abbrev Cx.nox (X:Cx):Cx:=X.wish fun _ _=>False
theorem Cx.Ok.wish {X:Cx}(ok:X.Ok)(E:bX):(X.wish E).Ok :=
 ⟨ok.mod,ok.kind,ok.glob,ok.blt,ok.above,ok.inj,ok.has,ok.cab,ok.hd,ok.frames,ok.stk,ok.exf,ok.bs,ok.bsz,ok.noex,ok.exfs,ok.funs,ok.frf⟩
theorem Cx.Ok.unwish {X:Cx}{E:bX}(ok:(X.wish E).Ok):X.Ok :=
 ⟨ok.mod,ok.kind,ok.glob,ok.blt,ok.above,ok.inj,ok.has,ok.cab,ok.hd,ok.frames,ok.stk,ok.exf,ok.bs,ok.bsz,ok.noex,ok.exfs,ok.funs,ok.frf⟩
section
variable {X:Cx}{pins:dE}{σ:St}{H:Hp}{s:Shared}{E:bX}
theorem aO.wish (I:aO X pins σ H s)(E:bX):aO (X.wish E) pins σ H s:=⟨I.ok.wish E,I.os,I.bare,I.base,I.loc,I.cell,I.free,I.freeC,I.pin,I.hok,I.len⟩
theorem aO.unwish (I:aO (X.wish E) pins σ H s):aO X pins σ H s:=⟨I.ok.unwish,I.os,I.bare,I.base,I.loc,I.cell,I.free,I.freeC,I.pin,I.hok,I.len⟩
theorem SP.unwish {D:jQ}{f:Flow}{s':Shared}(h:SP (X.wish E) pins D f s'):SP X pins D f s':=by
 cases f with
 | next=>obtain ⟨σ',H',I,q⟩:=h;exact ⟨σ',H',I.unwish,q⟩
 | brk=>obtain ⟨σ',H',I,q⟩:=h;exact ⟨σ',H',I.unwish,q⟩
 | cont=>obtain ⟨σ',H',I,q⟩:=h;exact ⟨σ',H',I.unwish,q⟩
 | ret u=>obtain ⟨v,σ',H',I,r,q⟩:=h;exact ⟨v,σ',H',I.unwish,r,q⟩
theorem C0.nox {st:List Stmt}{t:TS}(h:C0 X.nox st t):C0 X st t:=fun pins s σ H D I hw =>
 wpAny_mono (h pins s σ H D (I.wish _) hw) (fun _ _ q=>q.unwish) fun _ _ z=>False.elim z
end
section
variable {X:Cx}{st:Stmt}{rest:List Stmt}{t u:TS}{e:Expr}{te:TE}{pos:Pos}
noncomputable def tNext:TS:=fun D σ H=>D.nx σ H
noncomputable def tSeq (t u:TS):TS:=fun D σ H=>t { D with nx:=u D } σ H
theorem aW:C0 X [] tNext:=fun _ _ σ H _ I h=>wpAny_execs_nil ⟨σ,H,I,h⟩
theorem aE (h1:PS X st t)(h2:C0 X rest u):C0 X (st :: rest) (tSeq t u):=by
 intro pins s σ H D I h
 refine wpAny_execs_cons (thn (h1 pins s σ H { D with nx:=u D } I h) fun f s1 q=>?_)
 cases f with
 | next =>
  obtain ⟨σ',H',I',q⟩:=q
  exact h2 pins s1 σ' H' D I' q
 | ret v=>exact q
 | brk=>exact q
 | cont=>exact q
theorem aH (h1:PS X st t):C0 X [st] t:=by
 intro pins s σ H D I h
 refine wpAny_execs_cons (thn (h1 pins s σ H D I h) fun f s1 q=>?_)
 cases f with
 | next=>exact wpAny_execs_nil q
 | ret v=>exact q
 | brk=>exact q
 | cont=>exact q
theorem aO.quiet {pins:dE}{σ:St}{H:Hp}{s:Shared}(I:aO X pins σ H s):interactive X.env=false:=by simp [interactive,I.ok.kind]
noncomputable def tDrop (te:TE):TS:=fun D σ H=>te σ H fun _ H1=>D.nx σ H1
theorem cW (he:PE X e te)(hs:swapsWith e none pos.line X.env=pure false:=by rfl):PS X (.Expr e pos) (tDrop te):=by
 intro pins s σ H D I h
 exact wpAny_Expr_any (thn (he pins s σ H _ I h) fun v s1 ⟨x,H1,I1,r1,q1⟩=>⟨σ,H1,I1,q1⟩) I.quiet hs
noncomputable def tRet (te:TE):TS:=fun D σ H=>te σ H D.rt
theorem aP (he:PE X e te):PS X (.Return (some e) pos) (tRet te):=by
 intro pins s σ H D I h
 exact wpAny_Return_some (thn (he pins s σ H _ I h) fun v s1 ⟨x,H1,I1,r1,q1⟩=>⟨x,σ,H1,I1,r1,q1⟩)
noncomputable def tIfS (c:TT)(t u:TS):TS:=fun D σ H=>c σ H fun b H1=>if b=true then t D σ H1 else u D σ H1
theorem bK {c:Expr}{a b:List Stmt}{tc:TT}(hc:PT X c tc)(ha:C0 X a t)(hb:C0 X b u):PS X (.If c a b pos) (tIfS tc t u):=by
 intro pins s σ H D I h
 refine wpAny_If (thn (hc pins s σ H _ I h) fun d s1 ⟨H1,I1,q1⟩=>?_)
 cases d with
 | true=>exact ha pins s1 σ H1 D I1 q1
 | false=>exact hb pins s1 σ H1 D I1 q1
noncomputable def tNever:TS:=fun _ _ _=>False
theorem fV:PS X st tNever:=fun _ _ _ _ _ _ h=>h.elim
end
noncomputable abbrev TG:=V->St->Hp->(St->Hp->Prop)->Prop
noncomputable abbrev NX:=List V->St->Hp->(St->Hp->Prop)->Prop
noncomputable def PG (X:Cx)(target:Expr)(t:TG):Prop :=
 ∀ (pins:dE) (s:Shared) (σ:St) (H:Hp) (v:V) (u:Value) (Q:St->Hp->Prop),aO X pins σ H s->aX v u->t v σ H Q ->
  wpAny (model X.prog X.w) X.A (assign target X.env u) (fun _ s'=>∃ σ' H',aO X pins σ' H' s'/\Q σ' H') X.xe s
noncomputable def OU (X:Cx)(ts:lW)(t:NX):Prop :=
 ∀ (pins:dE) (s:Shared) (σ:St) (H:Hp) (vs:List V) (us:bP) (Q:St->Hp->Prop),aO X pins σ H s->aU vs us->t vs σ H Q ->
  wpAny (model X.prog X.w) X.A (assignInOrder ((assignEach ts X.env).map (·.2)) us) (fun _ s'=>∃ σ' H',aO X pins σ' H' s'/\Q σ' H') X.xe s
noncomputable abbrev NW:=V->V->V->Hp->(Hp->Prop)->Prop
noncomputable def ON (X:Cx)(t:NW):Prop :=
 ∀ (pins:dE) (s:Shared) (σ:St) (H:Hp) (o i v:V) (ov iv u:Value) (Q:Hp->Prop),aO X pins σ H s->aX o ov->aX i iv->aX v u->t o i v H Q ->
  wpAny (model X.prog X.w) X.A (setItem ov iv u) (fun _ s'=>∃ H',aO X pins σ H' s'/\Q H') X.xe s
section
variable {X:Cx}{pos:Pos}
noncomputable def gName (i:Nat):TG:=fun v σ H Q=>Q (σ.set i (some v)) H
theorem bJ {i:Nat}{x:Str}(hN:X.N.Nodup)(hi:X.N[i]?=some x)(hx:OW X.env.scope x)(hf:X.fn x=true∨X.env.scope.names.lookup x=some .local:=by first | exact .inl rfl | exact .inr rfl | assumption):PG X (.Name x pos) (gName i):=by
 intro pins s σ H v u Q I r h
 exact wpAny_assign_Name (xJ I hN hi hx r (fun s' I'=>⟨_,H,I',h⟩) hf)
noncomputable def gNil:NX:=fun vs σ H Q=>vs=[]/\Q σ H
noncomputable def gCons (t:TG)(u:NX):NX:=fun vs σ H Q=>∃ v r,vs=v :: r/\t v σ H fun σ' H'=>u r σ' H' Q
theorem B0:OU X [] gNil:=by
 intro pins s σ H vs us Q I r h
 obtain ⟨e,h⟩:=h
 subst e
 cases r
 exact assignInOrder_nil ⟨σ,H,I,h⟩
theorem nN {e:Expr}{es:lW}{t:TG}{u:NX}(h1:PG X e t)(h2:OU X es u)
  (hs:(assignEach (e :: es) X.env).map (·.2)=assign e X.env :: (assignEach es X.env).map (·.2):=by rfl):OU X (e :: es) (gCons t u):=by
 intro pins s σ H vs us Q I r h
 obtain ⟨v,vr,e1,h⟩:=h
 subst e1
 cases r with
 | cons r rr =>
  rw [hs]
  refine assignInOrder_cons (thn (h1 pins s σ H _ _ _ I r h) fun _ s1 ⟨σ1,H1,I1,q1⟩=>?_)
  exact h2 pins s1 σ1 H1 _ _ Q I1 rr q1
noncomputable def gTup (K:PySem.W.Frag)(n:Nat)(t:NX):TG:=fun v σ H Q=>∃ a xs,v = .ref a/\h8 K H a xs/\xs.length=n/\t xs σ H Q
theorem GA {es:lW}{k:Nat}{t:NX}{n:Nat}(hc:X.calm=true)(h:OU X es t)
  (hn:(assignEach es X.env).length=n:=by rfl) (hst:(assignEach es X.env).findIdx? (·.1)=none:=by rfl):PG X (.Tuple es k pos) (gTup X.K n t):=by
 intro pins s σ H v u Q I r hw
 obtain ⟨a,xs,e1,hq,hl,hw⟩:=hw
 subst e1
 cases r
 obtain ⟨its,rv,ht,hz⟩:=I.tuple hq
 refine assign_Tuple_tuple (I.ok.hd hc) ht (by simp [hn,← hl,rv.length]) hst fun h' hx=>?_
 have I1:aO X pins σ H { s with heap:=h' }:=I.kept (t':=s.toks) fun b o e=>hx b o (Nat.ne_of_lt (Heap.lt_size e)) e
 exact h pins _ σ H xs _ Q I1 (by simpa using rv) hw
noncomputable def gSub (to ti:TE)(t:NW):TG:=fun v σ H Q=>to σ H fun o H1=>ti σ H1 fun i H2=>t o i v H2 fun H3=>Q σ H3
theorem GB {o i:Expr}{to ti:TE}{t:NW}(ho:PE X o to)(hi:PE X i ti)(hs:ON X t)
  (ha:∀ v,assign (.Subscript o i pos) X.env v=(do
   let ov ← holding [v] (eval o X.env)
   let iv ← holding [v,ov] (eval i X.env)
   standAt pos
   holding [v,ov,iv] (setItem ov iv v)
   release [v,ov,iv] []):=by intro _;rfl):PG X (.Subscript o i pos) (gSub to ti t):=by
 intro pins s σ H v u Q I r h
 rw [ha]
 refine wpAny_bind (wpAny_holding (thn (ho pins s σ H _ I h) fun ov s1 ⟨x,H1,I1,r1,q1⟩=>?_))
 refine wpAny_bind (wpAny_holding (thn (hi pins s1 σ H1 _ I1 q1) fun iv s2 ⟨y,H2,I2,r2,q2⟩=>?_))
 refine wpAny_bind (wpAny_standAt (wpAny_bind (wpAny_holding (thn (hs pins s2 σ H2 x y v ov iv u _ I2 r1 r2 r q2) fun _ s3 ⟨H3,I3,q3⟩=>?_))))
 exact wpAny_release ⟨σ,H3,I3,q3⟩
noncomputable def tAsg (te:TE)(g:TG):TS:=fun D σ H=>te σ H fun x H1=>g x σ H1 D.nx
theorem vS {tg e:Expr}{te:TE}{g:TG}(he:PE X e te)(hg:PG X tg g)(hs:swapsWithSole [tg] e pos.line X.env=pure false:=by rfl)(hw:swappedStores [tg] e X.env=pure none:=by rfl)
  (h1:(assignEach [tg] X.env).map (·.2)=[assign tg X.env]:=by rfl):PS X (.Assign [tg] e pos) (tAsg te g):=by
 intro pins s σ H D I h
 refine wpAny_Assign_stores (thn (he pins s σ H _ I h) fun v s1 ⟨x,H1,I1,r1,q1⟩=>?_) hs hw
 rw [h1]
 exact thn (hg pins s1 σ H1 x v _ I1 r1 q1) fun _ s2 q=>q
theorem aZ {i:Nat}{x:Str}{e:Expr}{te:TE}{pos':Pos}(hN:X.N.Nodup)(hi:X.N[i]?=some x)(hx:OW X.env.scope x)(he:PE X e te)(hs:swapsWith e (some (.Name x pos')) pos.line X.env=pure false:=by rfl)(hf:X.fn x=true∨X.env.scope.names.lookup x=some .local:=by first | exact .inl rfl | exact .inr rfl | assumption) :
  PS X (.Assign [.Name x pos'] e pos) (tAsg te (gName i)):=by
 intro pins s σ H D I h
 refine wpAny_Assign_Name (thn (he pins s σ H _ I h) fun v s1 ⟨y,H1,I1,r1,q1⟩=>?_) hs
 exact xJ I1 hN hi hx r1 (fun s2 I2=>⟨_,H1,I2,q1⟩) hf
noncomputable def vA (c:TT)(tb:TS):TS:=fun D σ H=>∃ W:Nat->St->Hp->Prop,(∃ m,W m σ H)/\∀ m σ H,W m σ H ->
 c σ H fun b H1=>if b=true then ∃ N:St->Hp->Prop,(∀ σ' H',N σ' H'->∃ m',m' < m/\W m' σ' H')/\tb { D with nx:=N,ct:=N,bk:=D.nx } σ H1 else D.nx σ H1
theorem nL {c:Expr}{body:List Stmt}{tc:TT}{tb:TS}(hp:PassesOwn (model X.prog X.w) X.A X.env X.xe)(hc:PT X c tc)(hb:C0 X body tb):PS X (.While c body [] pos) (vA tc tb):=by
 intro pins s σ H D I h
 obtain ⟨W,⟨m0,w0⟩,turn⟩:=h
 refine wpAny_While (codeAny_whileLoop (fun n s'=>∃ σ' H',aO X pins σ' H' s'/\W n σ' H') ?_ m0 ⟨σ,H,I,w0⟩)
 rintro n s1 ⟨σ1,H1,I1,w1⟩
 refine wpAny_passesOwn hp (thn (hc pins s1 σ1 H1 _ I1 (turn n σ1 H1 w1)) fun b s2 ⟨H2,I2,q2⟩=>?_)
 cases b with
 | true =>
  obtain ⟨N,hN,q2⟩:=q2
  rw [if_pos rfl]
  refine wpAny_passesOwn hp (thn (hb pins s2 σ1 H2 _ I2 q2) fun f s3 q3=>?_)
  cases f with
  | next =>
   obtain ⟨σ3,H3,I3,n3⟩:=q3
   obtain ⟨m',hm,w3⟩:=hN σ3 H3 n3
   exact ⟨m',hm,σ3,H3,I3,w3⟩
  | cont =>
   obtain ⟨σ3,H3,I3,n3⟩:=q3
   obtain ⟨m',hm,w3⟩:=hN σ3 H3 n3
   exact ⟨m',hm,σ3,H3,I3,w3⟩
  | brk=>exact q3
  | ret v=>exact q3
 | false =>
  rw [if_neg Bool.false_ne_true]
  exact wpAny_execs_nil ⟨σ1,H2,I2,q2⟩
end
structure It where
 go:Nat->Hp->Prop
 yld:Nat->Hp->V->Hp->Prop
 stop:Nat->Hp->Prop
noncomputable def fI (X:Cx)(pins:dE)(H:Hp)(b:Addr):Prop :=
 H b=none/\b≠X.env.locals/\b ∉ X.fs/\(b ∈ X.ex∨X.s₀.heap.objs.size<=b)/\(∀ x c,X.env.cells.lookup x=some c->c≠b)/\∀ p ∈ X.pn ++ pins,p.1≠b
theorem aO.fpOk {X:Cx}{pins:dE}{σ:St}{H H':Hp}{s:Shared}{b:Addr}(I:aO X pins σ H s)(hb:s.heap.objs.size<=b)(hn:H' b=none):fI X pins H' b:=by
 refine ⟨hn,Nat.ne_of_gt (Nat.lt_of_lt_of_le I.lt hb),I.nofs hb,.inr (Nat.le_trans I.sz hb),fun x c e z=>?_,fun p hp z=>?_⟩
 ·obtain ⟨v,q⟩:=I.cell x c e
  exact absurd (Nat.lt_of_lt_of_le q.lt (by rw [z];exact hb)) (Nat.lt_irrefl _)
 ·exact absurd (Nat.lt_of_lt_of_le (Heap.lt_size (I.pin p hp).1) (by rw [z];exact hb)) (Nat.lt_irrefl _)
structure pH (P:Program)(w:World)(K:PySem.W.Frag)(tg:Expr)(J:It)(fp:List Addr)(it:Addr)(tn:N1):Prop where
 mem:it ∈ fp
 obj:∀ i h,tn i h->∀ b ∈ fp,∃ o,h.get? b=some o/\∀ v,o.data≠.cell v
 keep:∀ i h h',tn i h->(∀ b ∈ fp,∀ o,h.get? b=some o->h'.get? b=some o)->tn i h'
 item:∀ (X:Cx),X.prog=P->X.w=w->X.K=K->X.calm=true->∀ (i:Nat) (pins:dE) (s:Shared) (σ:St) (H:Hp) (E:bX),aO X pins σ H s->(∀ b ∈ fp,fI X pins H b)->tn i s.heap->J.go i H ->
  wpAny (model P w) X.A (pyNext (.ref it)) (fun r s1=>∃ u,r=some u /\
   wpAny (model P w) X.A (letOwnedTupleGo tg (.ref it) u) (fun _ s2=>∃ x H',aO X pins σ H' s2/\aX x u/\J.yld i H x H'/\tn (i + 1) s2.heap/\∀ b ∈ fp,H' b=none) E s1) E s
 done:∀ (X:Cx),X.prog=P->X.w=w->X.K=K->X.calm=true->∀ (i:Nat) (pins:dE) (s:Shared) (σ:St) (H:Hp) (E:bX),aO X pins σ H s->(∀ b ∈ fp,fI X pins H b)->tn i s.heap->J.stop i H ->
  wpAny (model P w) X.A (pyNext (.ref it)) (fun r s1=>r=none/\aO X pins σ H s1) E s
 self:∀ (A:Around) (i:Nat) (s:Shared) (Q:bX) (E:bX),tn i s.heap->Q (.ref it) s->wpAny (model P w) A (pyIter (.ref it)) Q E s
noncomputable abbrev TI:=St->Hp->(It->Hp->Prop)->Prop
noncomputable def PB (X:Cx)(pins:dE)(σ:St)(tg:Expr)(R:It->Hp->Prop)(itv:Value)(s2:Shared):Prop :=
 ∃ (it:Addr) (fp:List Addr) (tn:N1) (J:It) (H':Hp),itv = .ref it/\aO X pins σ H' s2/\pH X.prog X.w X.K tg J fp it tn/\tn 0 s2.heap/\(∀ b ∈ fp,fI X pins H' b)/\R J H'
noncomputable def PI (X:Cx)(tg iter:Expr)(wi:TI):Prop :=
 ∀ (pins:dE) (s:Shared) (σ:St) (H:Hp) (R:It->Hp->Prop),aO X pins σ H s->wi σ H R ->
  wpAny (model X.prog X.w) X.A (eval iter X.env) (fun v s1=>wpAny (model X.prog X.w) X.A (pyIter v) (PB X pins σ tg R) X.xe s1) X.xe s
theorem yR {M:Model}{A:Around}{E:bX}{s:Shared}{tg:Expr}{it:Addr}{u:Value}{o:Obj}{n:String}{vs:iA}{Q:Unit->Shared->Prop}(ho:s.heap.get? it=some o)(hc:o.cls = .type n)(hd:o.data = .fields vs)
  (hn:["enumerate","zip","dict_itemiterator","dict_reverseitemiterator","odict_iterator","itertools.zip_longest","itertools.pairwise"].contains n=false) (hQ:Q () s):wpAny M A (letOwnedTupleGo tg (.ref it) u) Q E s:=by
 unfold letOwnedTupleGo
 cases tg <;> first
  | exact wpAny_pure hQ
  | (cases u <;> first
    | exact wpAny_pure hQ
    | (refine wpAny_bind (wpAny_load ho ?_);rw [hc,hd];show wpAny M A (if (["enumerate","zip","dict_itemiterator","dict_reverseitemiterator","odict_iterator","itertools.zip_longest","itertools.pairwise"].contains n && vs[0]? == some (rawInt _))=true then _ else _) Q E s;rw [if_neg (by intro h;rw [hn,Bool.false_and] at h;cases h)];exact wpAny_pure hQ))
noncomputable def L5 (K:PySem.W.Frag)(a:Addr):It :=
 ⟨fun i H=>∃ xs x,eA K H a xs/\xs[i]?=some x,fun i H x H'=>H'=H/\∀ xs,eA K H a xs->xs[i]?=some x,fun i H=>∃ xs,eA K H a xs/\xs.length<=i⟩
noncomputable def L4 (K:PySem.W.Frag)(a:Addr):It :=
 ⟨fun i H=>∃ xs x,h8 K H a xs/\xs[i]?=some x,fun i H x H'=>H'=H/\∀ xs,h8 K H a xs->xs[i]?=some x,fun i H=>∃ xs,h8 K H a xs/\xs.length<=i⟩
noncomputable def IT (lo:Int)(n:Nat):It:=⟨fun i _=>i < n,fun i H x H'=>H'=H/\x = .int (lo + i),fun i _=>n<=i⟩
theorem C8 {P:Program}{w:World}{K:PySem.W.Frag}{tg:Expr}(a it:Addr):pH P w K tg (L5 K a) [it] it (fun i h=>h.IsListIter it a i) where
 mem:=by simp
 obj:=fun i h st b hb=>by
  have e:b=it:=by simpa using hb
  subst e
  obtain ⟨o,e,c,d⟩:=st
  exact ⟨o,e,fun v z=>by rw [d] at z;cases z⟩
 keep:=fun i h h' st k=>st.at fun o e=>k it (by simp) o e
 item:=by
  intro X hP hw hK hc i pins s σ H E I hf st hg
  subst hP hw hK
  obtain ⟨xs,x,hq,hx⟩:=hg
  obtain ⟨its,rv,p,hz⟩:=I.list hq
  obtain ⟨u,hu,ru⟩:=rv.get hx
  obtain ⟨f0,f1,f2,f3,f4,f5⟩:=hf it (by simp)
  refine wpAny_pyNext_list_item st p.isList (x:=u) (by simpa using hu) fun h' st' sb=>?_
  have I1:aO X pins σ H { s with heap:=h' }:=I.turned (t':=s.toks) (fun b o hb e=>(sb.2 b hb).trans e) f0 f1 f3 f4 f5
  obtain ⟨o,e,c,d⟩:=id st'
  exact ⟨u,rfl,yR (s:={ s with heap:=h' }) e c d (by decide) ⟨x,H,I1,ru,⟨rfl,fun ys hy=>by rw [I.list_inj hy hq];exact hx⟩,st',fun b hb=>(hf b hb).1⟩⟩
 done:=by
  intro X hP hw hK hc i pins s σ H E I hf st hg
  subst hP hw hK
  obtain ⟨xs,hq,hx⟩:=hg
  obtain ⟨its,rv,p,hz⟩:=I.list hq
  obtain ⟨f0,f1,f2,f3,f4,f5⟩:=hf it (by simp)
  have hl:=rv.length
  exact wpAny_pyNext_list_end (I.ok.hd hc) st p.isList (by simp;omega) fun h' eb=>⟨rfl,I.turned (t':=s.toks) (fun b o hb e=>eb b o hb e) f0 f1 f3 f4 f5⟩
 self:=fun _ _ _ _ _ st h=>wpAny_pyIter_listiter st h
theorem zJ {P:Program}{w:World}{K:PySem.W.Frag}{tg:Expr}(a it:Addr):pH P w K tg (L4 K a) [it] it (fun i h=>h.IsTupleIter it a i) where
 mem:=by simp
 obj:=fun i h st b hb=>by
  have e:b=it:=by simpa using hb
  subst e
  obtain ⟨o,e,c,d⟩:=st
  exact ⟨o,e,fun v z=>by rw [d] at z;cases z⟩
 keep:=fun i h h' st k=>st.at fun o e=>k it (by simp) o e
 item:=by
  intro X hP hw hK hc i pins s σ H E I hf st hg
  subst hP hw hK
  obtain ⟨xs,x,hq,hx⟩:=hg
  obtain ⟨its,rv,p,hz⟩:=I.tuple hq
  obtain ⟨u,hu,ru⟩:=rv.get hx
  obtain ⟨f0,f1,f2,f3,f4,f5⟩:=hf it (by simp)
  refine wpAny_pyNext_tuple_item st (show s.heap.IsTuple a its.toArray from p) (x:=u) (by simpa using hu) fun h' st' sb=>?_
  have I1:aO X pins σ H { s with heap:=h' }:=I.turned (t':=s.toks) (fun b o hb e=>(sb.2 b hb).trans e) f0 f1 f3 f4 f5
  obtain ⟨o,e,c,d⟩:=id st'
  exact ⟨u,rfl,yR (s:={ s with heap:=h' }) e c d (by decide) ⟨x,H,I1,ru,⟨rfl,fun ys hy=>by rw [I.tuple_inj hy hq];exact hx⟩,st',fun b hb=>(hf b hb).1⟩⟩
 done:=by
  intro X hP hw hK hc i pins s σ H E I hf st hg
  subst hP hw hK
  obtain ⟨xs,hq,hx⟩:=hg
  obtain ⟨its,rv,p,hz⟩:=I.tuple hq
  obtain ⟨f0,f1,f2,f3,f4,f5⟩:=hf it (by simp)
  have hl:=rv.length
  exact wpAny_pyNext_tuple_end (I.ok.hd hc) st (show s.heap.IsTuple a its.toArray from p) (by simp;omega) fun h' eb=>⟨rfl,I.turned (t':=s.toks) (fun b o hb e=>eb b o hb e) f0 f1 f3 f4 f5⟩
 self:=fun _ _ _ _ _ st h=>wpAny_pyIter_tupleiter st h
theorem zK {P:Program}{w:World}{K:PySem.W.Frag}{tg:Expr}(it:Addr)(lo:Int)(n:Nat):pH P w K tg (IT lo n) [it] it (fun i h=>IsRangeIter h it (lo + (i:Nat) * 1) ((n:Int) - (i:Nat)) 1) where
 mem:=by simp
 obj:=fun i h st b hb=>by
  have e:b=it:=by simpa using hb
  subst e
  exact ⟨_,st,fun v z=>by
   have z':Data.fields _=Data.cell v:=z
   cases z'⟩
 keep:=fun i h h' st k=>k it (by simp) _ st
 item:=by
  intro X hP hw hK hc i pins s σ H E I hf st hg
  subst hP hw hK
  obtain ⟨f0,f1,f2,f3,f4,f5⟩:=hf it (by simp)
  have W:=Walks.range (prog:=X.prog) (w:=X.w) (I.ok.hd hc) it lo 1 n
  refine W.item i s _ _ hg st fun v h' tk hv st' kk=>?_
  obtain ⟨t,rfl⟩:=hv
  have I1:aO X pins σ H { s with heap:=h',toks:=tk }:=I.turned (fun b o hb e=>kk b o (by simpa using hb) e) f0 f1 f3 f4 f5
  refine ⟨_,rfl,yR (s:={ s with heap:=h',toks:=tk }) (n:="range_iterator") st' rfl rfl (by decide) ⟨.int (lo + i),H,I1,⟨t,?_⟩,⟨rfl,rfl⟩,st',fun b hb=>(hf b hb).1⟩⟩
  rw [Int.mul_one]
 done:=by
  intro X hP hw hK hc i pins s σ H E I hf st hg
  subst hP hw hK
  obtain ⟨f0,f1,f2,f3,f4,f5⟩:=hf it (by simp)
  exact wpAny_pyNext_range_end (I.ok.hd hc) st (by have:n<=i:=hg;omega) fun h' eb=>⟨rfl,I.turned (t':=s.toks) (fun b o hb e=>eb b o hb e) f0 f1 f3 f4 f5⟩
 self:=fun _ _ _ _ _ st h=>wpAny_pyIter_rangeiter st h
section
variable {X:Cx}{tg:Expr}
theorem FY {pins:dE}{σ:St}{H:Hp}{s:Shared}{R:It->Hp->Prop}{E:bX}{lo hi:Int}{t u v:Tok}{tk:Nat}(I:aO X pins σ H s)(h1 : -(2 ^ 62)<=lo)(h2:lo < 2 ^ 62)(h3 : -(2 ^ 62)<=hi)(h4:hi < 2 ^ 62)
  (q:R (IT lo (hi - lo).toNat) H):wpAny (model X.prog X.w) X.A (pyIter (.ref s.heap.objs.size)) (PB X pins σ tg R) E { s with heap:=s.heap.push { cls:=.type "range",data:=.fields #[.int lo t,.int hi u,.int 1 v] },toks:=tk }:=by
 refine wpAny_pyIter_range (IsRange.new ..) (small_one h1 h2 h3 h4) ?_
 have I1:aO X pins σ H { s with heap:=s.heap.push { cls:=.type "range",data:=.fields #[.int lo t,.int hi u,.int 1 v] },toks:=tk }:=I.kept fun b o e=>Heap.get?_push_of_some _ e
 refine ⟨(s.heap.push { cls:=.type "range",data:=.fields #[.int lo t,.int hi u,.int 1 v] }).objs.size,[(s.heap.push { cls:=.type "range",data:=.fields #[.int lo t,.int hi u,.int 1 v] }).objs.size],_,_,H,rfl,
  I1.kept (t':=tk) fun b o e=>Heap.get?_push_of_some _ e,zK _ lo (hi - lo).toNat,?_,fun b hb=>?_,q⟩
 ·have e1:lo + ((0:Nat):Int) * 1=lo:=by simp
  have e2:(((hi - lo).toNat:Nat):Int) - ((0:Nat):Int)=Builtin.Range.rangeSize lo hi 1:=by rw [rangeSize_one];split <;> omega
  show IsRangeIter _ _ (lo + ((0:Nat):Int) * 1) ((((hi - lo).toNat:Nat):Int) - ((0:Nat):Int)) 1
  rw [e1,e2]
  exact Heap.get?_push_size _ rfl
 ·have e:b=(s.heap.push { cls:=.type "range",data:=.fields #[.int lo t,.int hi u,.int 1 v] }).objs.size:=by simpa using hb
  subst e
  exact I1.fpOk (Nat.le_refl _) (I1.hok.fresh (Nat.le_refl _))
noncomputable def iRng1 (ta:TA):TI:=fun σ H R=>ta σ H fun vs H1=>∃ j:Int,vs=[.int j]/\-(2 ^ 62)<=j/\j < 2 ^ 62/\R (IT 0 j.toNat) H1
noncomputable def iRng2 (ta:TA):TI:=fun σ H R=>ta σ H fun vs H1=>∃ i j:Int,vs=[.int i,.int j]/\(-(2 ^ 62)<=i/\i < 2 ^ 62/\-(2 ^ 62)<=j/\j < 2 ^ 62)/\R (IT i (j - i).toNat) H1
theorem gG {a:Expr}{ta:TA}{p pos:Pos}(hg:Gl X "range")(hm:X.mg "range" = none)(ha:PA X [a] ta)(hs:starEach [a] X.env=[(false,eval a X.env)]:=by rfl):PI X tg (.Call (.Name "range" p) [a] [] pos) (iRng1 ta):=by
 intro pins s σ H R I h
 refine Call_ (kO I hg hm boot_range (PyProof.Rows.callWith_type1 (thn (ha pos pins s σ H _ I h) fun us s1 ⟨vs,H1,I1,r1,q1⟩=>?_) hs rfl))
 obtain ⟨j,e,q1,q2,q⟩:=q1
 subst e
 cases r1 with
 | cons r rr =>
  cases rr
  obtain ⟨t,rfl⟩:=r
  exact call_range_1 (FY I1 (by omega) (by omega) q1 q2 (by simpa using q))
noncomputable def tFor (wi:TI)(g:TG)(tb:TS):TS:=fun D σ H=>wi σ H fun J H1=>∃ W:Nat->Nat->St->Hp->Prop,(∃ m,W 0 m σ H1)/\∀ i m σ H,W i m σ H ->
 (J.stop i H/\D.nx σ H)∨(J.go i H/\∃ N:St->Hp->Prop,(∀ σ' H',N σ' H'->∃ m',m' < m/\W (i + 1) m' σ' H')/\∀ x H',J.yld i H x H'->g x σ H' fun σ2 H2=>tb { D with nx:=N,ct:=N,bk:=D.nx } σ2 H2)
noncomputable def qZ (fp:List Addr)(h:Heap):dE:=fp.filterMap fun b=>(h.get? b).map fun o=>(b,o)
theorem mN {fp:List Addr}{h:Heap}{b:Addr}{o:Obj}(hb:b ∈ fp)(e:h.get? b=some o):(b,o) ∈ qZ fp h:=List.mem_filterMap.mpr ⟨b,hb,by rw [e];rfl⟩
theorem tT {fp:List Addr}{h:Heap}{p:Addr×Obj}(hp:p ∈ qZ fp h):p.1 ∈ fp/\h.get? p.1=some p.2:=by
 obtain ⟨b,hb,e⟩:=List.mem_filterMap.mp hp
 cases q:h.get? b with
 | none=>rw [q] at e;cases e
 | some o =>
  rw [q] at e
  have e':(b,o)=p:=Option.some.inj e
  subst e'
  exact ⟨hb,q⟩
theorem aO.pinned {pins:dE}{σ:St}{H:Hp}{s:Shared}{fp:List Addr}(I:aO X pins σ H s)(hf:∀ b ∈ fp,fI X pins H b)(ho:∀ b ∈ fp,∃ o,s.heap.get? b=some o/\∀ v,o.data≠.cell v):aO X (pins ++ qZ fp s.heap) σ H s :=
 I.pins_of fun p hp=>(List.mem_append.mp hp).elim (fun z=>I.pin p (List.mem_append_right _ z)) fun z=>by
  obtain ⟨hb,e⟩:=tT z
  obtain ⟨f0,f1,f2,_⟩:=hf p.1 hb
  obtain ⟨o,e',d⟩:=ho p.1 hb
  rw [e] at e';cases e'
  exact ⟨e,f0,f1,f2,d⟩
theorem aO.unpinned {pins pl:dE}{σ:St}{H:Hp}{s:Shared}(I:aO X (pins ++ pl) σ H s):aO X pins σ H s:=I.pins_of fun p hp=>I.pin p (List.mem_append_right _ (List.mem_append_left _ hp))
theorem eY {iter:Expr}{body:List Stmt}{wi:TI}{g:TG}{tb:TS}{pos:Pos}(hp:PassesOwn (model X.prog X.w) X.A X.env X.xe)(hc:X.calm=true)(hi:PI X tg iter wi)(hg:PG X tg g)(hb:C0 X body tb)
  (hs:∀ x,foldedSetIterable iter X.env x=pure x:=by intro _;rfl):PS X (.For tg iter body [] pos) (tFor wi g tb):=by
 intro pins s σ H D I h
 refine wpAny_For (thn (hi pins s σ H _ I h) fun v s1 h1=>thn h1 fun itv s2 h2=>?_) hs
 obtain ⟨it,fp,tn,J,H2,e,I2,T,st2,f2,W,⟨m0,w0⟩,turn⟩:=h2
 subst e
 -- what stays true of the iterator's objects through the loop
 have stat:∀ {H':Hp},(∀ b ∈ fp,H' b=none)->∀ b ∈ fp,fI X pins H' b:=fun hn b hb=>⟨hn b hb,(f2 b hb).2⟩
 refine codeAny_forLoop_any (fun n s'=>∃ i σ' H',aO X pins σ' H' s'/\tn i s'.heap/\(∀ b ∈ fp,H' b=none)/\W i n σ' H') ?_ m0 ⟨0,σ,H2,I2,st2,fun b hb=>(f2 b hb).1,w0⟩
 rintro n s3 ⟨i,σ3,H3,I3,st3,fr3,w3⟩
 rcases turn i n σ3 H3 w3 with ⟨stop,qn⟩ | ⟨go,N,hN,step⟩
 ·refine wpAny_passesOwn hp (thn (T.done X rfl rfl rfl hc i pins s3 σ3 H3 X.xe I3 (stat fr3) st3 stop) fun r s4 ⟨hr,I4⟩=>?_)
  subst hr
  exact wpAny_execs_nil ⟨σ3,H3,I4,qn⟩
 ·refine wpAny_passesOwn hp (thn (T.item X rfl rfl rfl hc i pins s3 σ3 H3 X.xe I3 (stat fr3) st3 go) fun r s4 ⟨u,hr,h4⟩=>?_)
  subst hr
  refine wpAny_passesOwn hp (thn h4 fun _ s5 ⟨x,H5,I5,r5,y5,st5,fr5⟩=>?_)
  have I5':=I5.pinned (stat fr5) (T.obj _ _ st5)
  refine wpAny_passesOwn hp (thn (hg _ s5 σ3 H5 x u _ I5' r5 (step x H5 y5)) fun _ s6 ⟨σ6,H6,I6,q6⟩=>?_)
  refine wpAny_passesOwn hp (thn (hb _ s6 σ6 H6 _ I6 q6) fun f s7 q7=>?_)
  have again:∀ {σ7:St} {H7:Hp},aO X (pins ++ qZ fp s5.heap) σ7 H7 s7->N σ7 H7->∃ m,m < n/\∃ i σ' H',aO X pins σ' H' s7/\tn i s7.heap/\(∀ b ∈ fp,H' b=none)/\W i m σ' H':=fun {σ7 H7} I7 n7=>by
   obtain ⟨m',hm,w7⟩:=hN σ7 H7 n7
   refine ⟨m',hm,i + 1,σ7,H7,I7.unpinned,T.keep _ _ _ st5 fun b hb o e=>(I7.pin (b,o) (List.mem_append_right _ (List.mem_append_right _ (mN hb e)))).1,fun b hb=>?_,w7⟩
   obtain ⟨o,e,d⟩:=T.obj _ _ st5 b hb
   exact (I7.pin (b,o) (List.mem_append_right _ (List.mem_append_right _ (mN hb e)))).2.1
  cases f with
  | next=>obtain ⟨σ7,H7,I7,n7⟩:=q7;exact again I7 n7
  | cont=>obtain ⟨σ7,H7,I7,n7⟩:=q7;exact again I7 n7
  | brk=>obtain ⟨σ7,H7,I7,q7⟩:=q7;exact ⟨σ7,H7,I7.unpinned,q7⟩
  | ret v=>obtain ⟨x7,σ7,H7,I7,r7,q7⟩:=q7;exact ⟨x7,σ7,H7,I7.unpinned,r7,q7⟩
end
theorem HK {K:PySem.W.Frag}{a:Addr}{xs:List V}{g:TG}{tb:TS}{D:jQ}{σ:St}{H:Hp}(Pv:Nat->St->Hp->Prop)(h0:Pv 0 σ H)(hl:∀ i σ H,i<=xs.length->Pv i σ H->eA K H a xs)
  (hs:∀ i x σ H,xs[i]?=some x->Pv i σ H->g x σ H fun σ2 H2=>tb { D with nx:=Pv (i + 1),ct:=Pv (i + 1),bk:=D.nx } σ2 H2) (hd:∀ σ H,Pv xs.length σ H->D.nx σ H) :
  ∃ W:Nat->Nat->St->Hp->Prop,(∃ m,W 0 m σ H)/\∀ i m σ H,W i m σ H ->
   ((L5 K a).stop i H/\D.nx σ H)∨((L5 K a).go i H/\∃ N:St->Hp->Prop,(∀ σ' H',N σ' H'->∃ m',m' < m/\W (i + 1) m' σ' H')/\∀ x H',(L5 K a).yld i H x H'->g x σ H' fun σ2 H2=>tb { D with nx:=N,ct:=N,bk:=D.nx } σ2 H2):=by
 refine ⟨fun i m σ H=>m=xs.length - i/\i<=xs.length/\Pv i σ H,⟨xs.length,by simp,Nat.zero_le _,h0⟩,?_⟩
 rintro i m σ H ⟨rfl,hi,p⟩
 have q:=hl i σ H hi p
 by_cases hlt:i < xs.length
 ·refine .inr ⟨⟨xs,xs[i],q,by simp [hlt]⟩,Pv (i + 1),fun σ' H' p'=>⟨xs.length - (i + 1),by omega,rfl,hlt,p'⟩,fun x H' y=>?_⟩
  obtain ⟨e,y⟩:=y
  subst e
  exact hs i x σ _ (y xs q) p
 ·have e:i=xs.length:=by omega
  subst e
  exact .inl ⟨⟨xs,q,Nat.le_refl _⟩,hd σ H p⟩
theorem K4 {K:PySem.W.Frag}{a:Addr}{xs:List V}{g:TG}{tb:TS}{D:jQ}{σ:St}{H:Hp}(Pv:Nat->St->Hp->Prop)(h0:Pv 0 σ H)(hl:∀ i σ H,i<=xs.length->Pv i σ H->h8 K H a xs)
  (hs:∀ i x σ H,xs[i]?=some x->Pv i σ H->g x σ H fun σ2 H2=>tb { D with nx:=Pv (i + 1),ct:=Pv (i + 1),bk:=D.nx } σ2 H2) (hd:∀ σ H,Pv xs.length σ H->D.nx σ H) :
  ∃ W:Nat->Nat->St->Hp->Prop,(∃ m,W 0 m σ H)/\∀ i m σ H,W i m σ H ->
   ((L4 K a).stop i H/\D.nx σ H)∨((L4 K a).go i H/\∃ N:St->Hp->Prop,(∀ σ' H',N σ' H'->∃ m',m' < m/\W (i + 1) m' σ' H')/\∀ x H',(L4 K a).yld i H x H'->g x σ H' fun σ2 H2=>tb { D with nx:=N,ct:=N,bk:=D.nx } σ2 H2):=by
 refine ⟨fun i m σ H=>m=xs.length - i/\i<=xs.length/\Pv i σ H,⟨xs.length,by simp,Nat.zero_le _,h0⟩,?_⟩
 rintro i m σ H ⟨rfl,hi,p⟩
 have q:=hl i σ H hi p
 by_cases hlt:i < xs.length
 ·refine .inr ⟨⟨xs,xs[i],q,by simp [hlt]⟩,Pv (i + 1),fun σ' H' p'=>⟨xs.length - (i + 1),by omega,rfl,hlt,p'⟩,fun x H' y=>?_⟩
  obtain ⟨e,y⟩:=y
  subst e
  exact hs i x σ _ (y xs q) p
 ·have e:i=xs.length:=by omega
  subst e
  exact .inl ⟨⟨xs,q,Nat.le_refl _⟩,hd σ H p⟩
theorem EE {lo:Int}{n:Nat}{g:TG}{tb:TS}{D:jQ}{σ:St}{H:Hp}(Pv:Nat->St->Hp->Prop)(h0:Pv 0 σ H)
  (hs:∀ i σ H,i < n->Pv i σ H->g (.int (lo + i)) σ H fun σ2 H2=>tb { D with nx:=Pv (i + 1),ct:=Pv (i + 1),bk:=D.nx } σ2 H2) (hd:∀ σ H,Pv n σ H->D.nx σ H) :
  ∃ W:Nat->Nat->St->Hp->Prop,(∃ m,W 0 m σ H)/\∀ i m σ H,W i m σ H ->
   ((IT lo n).stop i H/\D.nx σ H)∨((IT lo n).go i H/\∃ N:St->Hp->Prop,(∀ σ' H',N σ' H'->∃ m',m' < m/\W (i + 1) m' σ' H')/\∀ x H',(IT lo n).yld i H x H'->g x σ H' fun σ2 H2=>tb { D with nx:=N,ct:=N,bk:=D.nx } σ2 H2):=by
 refine ⟨fun i m σ H=>m=n - i/\i<=n/\Pv i σ H,⟨n,by simp,Nat.zero_le _,h0⟩,?_⟩
 rintro i m σ H ⟨rfl,hi,p⟩
 by_cases hlt:i < n
 ·refine .inr ⟨hlt,Pv (i + 1),fun σ' H' p'=>⟨n - (i + 1),by omega,rfl,hlt,p'⟩,fun x H' y=>?_⟩
  obtain ⟨e,y⟩:=y
  subst e y
  exact hs i σ _ hlt p
 ·have e:i=n:=by omega
  subst e
  exact .inl ⟨Nat.le_refl _,hd σ H p⟩
noncomputable abbrev R2:=V->V->Hp->VK->Prop
noncomputable def iZ (X:Cx)(f:Value->Value->Sem Value)(r:R2):Prop :=
 ∀ (pins:dE) (s:Shared) (σ:St) (H:Hp) (x y:V) (v u:Value) (Q:VK),aO X pins σ H s->aX x v->aX y u->r x y H Q ->
  wpAny (model X.prog X.w) X.A (f v u) (EP X pins σ Q) X.xe s
noncomputable def OX (X:Cx)(f:Value->Sem Value)(r:V->Hp->VK->Prop):Prop :=
 ∀ (pins:dE) (s:Shared) (σ:St) (H:Hp) (x:V) (v:Value) (Q:VK),aO X pins σ H s->aX x v->r x H Q ->
  wpAny (model X.prog X.w) X.A (f v) (EP X pins σ Q) X.xe s
noncomputable def cR (X:Cx)(f:Value)(r:List V->Hp->VK->Prop):Prop :=
 ∀ (pins:dE) (s:Shared) (σ:St) (H:Hp) (xs:List V) (us:bP) (Q:VK),aO X pins σ H s->aU xs us->r xs H Q ->
  wpAny (model X.prog X.w) X.A (call f us) (EP X pins σ Q) X.xe s
noncomputable def OY (X:Cx)(r:V->Hp->(Bool->Hp->Prop)->Prop):Prop :=
 ∀ (pins:dE) (s:Shared) (σ:St) (H:Hp) (x:V) (v:Value) (Q:Bool->Hp->Prop),aO X pins σ H s->aX x v->r x H Q ->
  wpAny (model X.prog X.w) X.A (truthy v) (TP X pins σ Q) X.xe s
noncomputable def tOp (r:R2)(ta tb:TE):TE:=fun σ H Q=>ta σ H fun x H1=>tb σ H1 fun y H2=>r x y H2 Q
noncomputable def tUn (r:V->Hp->VK->Prop)(ta:TE):TE:=fun σ H Q=>ta σ H fun x H1=>r x H1 Q
noncomputable def rI (C:Int->Int->Prop)(g:Int->Int->V):R2:=fun x y H Q=>∃ i j,x = .int i/\y = .int j/\C i j/\Q (g i j) H
noncomputable def rI0 (g:Int->Int->V):R2:=fun x y H Q=>∃ i j,x = .int i/\y = .int j/\Q (g i j) H
noncomputable def rU (g:Int->V):V->Hp->VK->Prop:=fun x H Q=>∃ i,x = .int i/\Q (g i) H
section
variable {X:Cx}{a b c:Expr}{ta tb tc:TE}{pos:Pos}
theorem binT (ha:PE X a ta)(hb:PE X b tb){pins:dE}{s:Shared}{σ:St}{H:Hp}{R:V->V->Hp->Prop}(I:aO X pins σ H s)
  (h:ta σ H fun x H1=>tb σ H1 fun y H2=>R x y H2) {Q:bX} {f:Value->Value->Sem Value}
  (hf:∀ v u s2 x y H2,aO X pins σ H2 s2->aX x v->aX y u->R x y H2->wpAny (model X.prog X.w) X.A (f v u) Q X.xe s2) :
  wpAny (model X.prog X.w) X.A (eval a X.env) (fun v s₁=>wpAny (model X.prog X.w) X.A (eval b X.env) (fun u s₂=>wpAny (model X.prog X.w) X.A (f v u) Q X.xe s₂) X.xe s₁) X.xe s:=by
 refine thn (ha pins s σ H _ I h) fun v s1 ⟨x,H1,I1,r1,q1⟩=>?_
 refine thn (hb pins s1 σ H1 _ I1 q1) fun u s2 ⟨y,H2,I2,r2,q2⟩=>?_
 exact hf v u s2 x y H2 I2 r1 r2 q2
theorem bO {op:Operator}{r:R2}(ho:iZ X (binaryOp op) r)(ha:PE X a ta)(hb:PE X b tb):PE X (.BinOp a op b pos) (tOp r ta tb):=by
 intro pins s σ H Q I h
 exact wpAny_BinOp (binT ha hb I h fun v u s2 x y H2 I2 rx ry q=>ho pins s2 σ H2 x y v u Q I2 rx ry q)
theorem LV {op:UnaryOp}{r:V->Hp->VK->Prop}(ho:OX X (unaryOp op) r)(ha:PE X a ta):PE X (.UnaryOp op a pos) (tUn r ta):=by
 intro pins s σ H Q I h
 exact UnaryOp_ (thn (ha pins s σ H _ I h) fun v s1 ⟨x,H1,I1,r1,q1⟩=>ho pins s1 σ H1 x v Q I1 r1 q1)
theorem opI {f:Value->Value->Sem Value}{C:Int->Int->Prop}{g:Int->Int->Int}
  (rule:∀ (i j:Int) (t u:Tok) (s:Shared) (Q:bX) (E:bX),C i j->Q (.int (g i j) s.toks) { s with toks:=s.toks + 1 }->wpAny (model X.prog X.w) X.A (f (.int i t) (.int j u)) Q E s) :
  iZ X f (rI C fun i j=>.int (g i j)):=by
 intro pins s σ H x y v u Q I rx ry h
 obtain ⟨i,j,rfl,rfl,hc,q⟩:=h
 obtain ⟨t,rfl⟩:=rx
 obtain ⟨t',rfl⟩:=ry
 exact rule i j t t' s _ _ hc ⟨.int (g i j),H,I.tok _,⟨_,rfl⟩,q⟩
theorem opI0 {f:Value->Value->Sem Value}{g:Int->Int->Int}
  (rule:∀ (i j:Int) (t u:Tok) (s:Shared) (Q:bX) (E:bX),Q (.int (g i j) s.toks) { s with toks:=s.toks + 1 }->wpAny (model X.prog X.w) X.A (f (.int i t) (.int j u)) Q E s) :
  iZ X f (rI0 fun i j=>.int (g i j)):=by
 intro pins s σ H x y v u Q I rx ry h
 obtain ⟨i,j,rfl,rfl,q⟩:=h
 obtain ⟨t,rfl⟩:=rx
 obtain ⟨t',rfl⟩:=ry
 exact rule i j t t' s _ _ ⟨.int (g i j),H,I.tok _,⟨_,rfl⟩,q⟩
theorem opB0 {f:Value->Value->Sem Value}{g:Int->Int->Bool}
  (rule:∀ (i j:Int) (t u:Tok) (s:Shared) (Q:bX) (E:bX),Q (.bool (g i j)) s->wpAny (model X.prog X.w) X.A (f (.int i t) (.int j u)) Q E s) :
  iZ X f (rI0 fun i j=>.bl (g i j)):=by
 intro pins s σ H x y v u Q I rx ry h
 obtain ⟨i,j,rfl,rfl,q⟩:=h
 obtain ⟨t,rfl⟩:=rx
 obtain ⟨t',rfl⟩:=ry
 exact rule i j t t' s _ _ ⟨.bl (g i j),H,I,rfl,q⟩
noncomputable def O8 (i j:Int):Prop:=0 < j/\j < 1073741824
noncomputable def OR (i j:Int):Prop:=0<=j/\j<=1000000/\i.natAbs < 2 ^ 64
noncomputable def E6 (i j:Int):Prop:=(-(2 ^ 64) < i/\i < 2 ^ 64)∨(-(2 ^ 64) < j/\j < 2 ^ 64)
theorem E6.ok {i j:Int}(h:E6 i j):IntMulOk i j:=by
 rcases h with ⟨h1,h2⟩ | ⟨h1,h2⟩
 ·exact .of_left (intBits_le_64 h1 h2)
 ·exact .of_right (intBits_le_64 h1 h2)
theorem MZ:iZ X (binaryOp .Add) (rI0 fun i j=>.int (i + j)):=opI0 fun _ _ _ _ _ _ _ q=>add_int q
theorem oX:iZ X (binaryOp .Sub) (rI0 fun i j=>.int (i - j)):=opI0 fun _ _ _ _ _ _ _ q=>sub_int q
theorem oZ:iZ X (binaryOp .Mult) (rI E6 fun i j=>.int (i * j)):=opI fun _ _ _ _ _ _ _ hc q=>mul_int q hc.ok
theorem wB:iZ X (binaryOp .FloorDiv) (rI O8 fun i j=>.int (i / j)):=opI fun i j _ _ _ _ _ hc q=>by
 have h1:(0:Int) < j:=hc.1
 have h2:j < 1073741824:=hc.2
 exact floordiv_int (by omega) (by rw [Int.fdiv_eq_ediv_of_nonneg i (by omega)];exact q) (.inl (PyProof.noPylong_small (by omega)))
theorem rC:iZ X (binaryOp .Mod) (rI (fun _ j=>0 < j) fun i j=>.int (i % j)):=opI fun i j _ _ _ _ _ hc q=>by
 have h1:(0:Int) < j:=hc
 exact mod_int' (by omega) (by rw [Int.fmod_eq_emod_of_nonneg i (by omega)];exact q)
theorem MV:iZ X (binaryOp .Pow) (rI OR fun i j=>.int (i ^ j.toNat)):=opI fun _ _ _ _ _ _ _ hc q=>pow_int_small hc.1 hc.2.1 hc.2.2 q
theorem unI {f:Value->Sem Value}{g:Int->Int}
  (rule:∀ (i:Int) (t:Tok) (s:Shared) (Q:bX) (E:bX),Q (.int (g i) s.toks) { s with toks:=s.toks + 1 }->wpAny (model X.prog X.w) X.A (f (.int i t)) Q E s) :
  OX X f (rU fun i=>.int (g i)):=by
 intro pins s σ H x v Q I rx h
 obtain ⟨i,rfl,q⟩:=h
 obtain ⟨t,rfl⟩:=rx
 exact rule i t s _ _ ⟨.int (g i),H,I.tok _,⟨_,rfl⟩,q⟩
theorem FE:OX X (unaryOp .USub) (rU fun i=>.int (-i)):=unI fun _ _ _ _ _ q=>neg_int q
theorem wV {pins:dE}{σ:St}{H:Hp}{s:Shared}{Q:VK}{k k':Bool}(I:aO X pins σ H s)(q:Q (.bl k) H)(e:k=k'):EP X pins σ Q (.bool k') s:=by
 subst e
 exact ⟨.bl k,H,I,rfl,q⟩
theorem OE:iZ X (compareOp .Lt) (rI0 fun i j=>.bl (decide (i < j))):=opB0 fun _ _ _ _ _ _ _ q=>lt_int q
theorem kM:iZ X (compareOp .LtE) (rI0 fun i j=>.bl (decide (i<=j))):=opB0 fun _ _ _ _ _ _ _ q=>le_int q
theorem xY:iZ X (compareOp .Gt) (rI0 fun i j=>.bl (decide (j < i))):=opB0 fun _ _ _ _ _ _ _ q=>gt_int q
theorem LW:iZ X (compareOp .GtE) (rI0 fun i j=>.bl (decide (j<=i))):=opB0 fun _ _ _ _ _ _ _ q=>ge_int q
theorem DS:iZ X (compareOp .Lt) (fun x y H Q=>∃ i j,x = .str i/\y = .str j/\Q (.bl (decide (i.cps.toList < j.cps.toList))) H):=by
 intro pins s σ H x y v u Q I rx ry h
 obtain ⟨i,j,rfl,rfl,q⟩:=h
 obtain ⟨t,rfl⟩:=rx
 obtain ⟨t',rfl⟩:=ry
 exact lt_str (wV I q rfl)
theorem lM:iZ X (compareOp .In) (fun x y H Q=>∃ i j,x = .str i/\y = .str j/\Q (.bl (!(Builtin.Str.occurrences j i 0 j.length 1).isEmpty)) H):=by
 intro pins s σ H x y v u Q I rx ry h
 obtain ⟨i,j,rfl,rfl,q⟩:=h
 obtain ⟨t,rfl⟩:=rx
 obtain ⟨t',rfl⟩:=ry
 exact in_str (wV I q rfl)
theorem MX:iZ X (compareOp .Is) (fun x y H Q=>y = .non/\Q (.bl (decide (x = .non))) H):=by
 intro pins s σ H x y v u Q I rx ry h
 obtain ⟨rfl,q⟩:=h
 cases ry
 refine is_none_gen (wV I q ?_)
 cases x <;> first
  | (cases rx;rfl)
  | (obtain ⟨t,rfl⟩:=rx;rfl)
theorem J6:iZ X (compareOp .IsNot) (fun x y H Q=>y = .non/\Q (.bl (!decide (x = .non))) H):=by
 intro pins s σ H x y v u Q I rx ry h
 obtain ⟨rfl,q⟩:=h
 cases ry
 refine isnot_none_gen (wV I q ?_)
 cases x <;> first
  | (cases rx;rfl)
  | (obtain ⟨t,rfl⟩:=rx;rfl)
theorem iZ.or {f:Value->Value->Sem Value}{r r':R2}(h:iZ X f r)(h':iZ X f r'):iZ X f (fun x y H Q=>r x y H Q∨r' x y H Q):=by
 intro pins s σ H x y v u Q I rx ry q
 rcases q with q | q
 ·exact h pins s σ H x y v u Q I rx ry q
 ·exact h' pins s σ H x y v u Q I rx ry q
theorem nomark (b:Expr){op:CmpOp}(h:op≠.In:=by decide)(h2:op≠.NotIn:=by decide):behindInMarks op b=false:=by
 have e1:(op == CmpOp.In)=false:=by cases op <;> first | rfl | exact absurd rfl h
 have e2:(op == CmpOp.NotIn)=false:=by cases op <;> first | rfl | exact absurd rfl h2
 cases b <;> simp [behindInMarks,e1,e2]
theorem dH {op:CmpOp}{r:R2}(ho:iZ X (compareOp op) r)(ha:PE X a ta)(hb:PE X b tb)(hm:behindInMarks op b=false):PE X (.Compare a [op] [b] pos) (tOp r ta tb):=by
 intro pins s σ H Q I h
 exact wpAny_Compare1 (binT ha hb I h fun v u s2 x y H2 I2 rx ry q=>ho pins s2 σ H2 x y v u Q I2 rx ry q) hm
noncomputable def tTest (t:TE):TT:=fun σ H Q=>t σ H fun x H'=>∃ k,x = .bl k/\Q k H'
theorem a0 {op:CmpOp}{r:R2}(ho:iZ X (compareOp op) r)(ha:PE X a ta)(hb:PE X b tb)(hm:behindInMarks op b=false):PT X (.Compare a [op] [b] pos) (tTest (tOp r ta tb)):=by
 intro pins s σ H Q I h
 refine wpAny_isTrue_Compare1 (thn (ha pins s σ H _ I h) fun v s1 ⟨x,H1,I1,r1,q1⟩=>thn (hb pins s1 σ H1 _ I1 q1) fun u s2 ⟨y,H2,I2,r2,q2⟩ =>
  thn (ho pins s2 σ H2 x y v u _ I2 r1 r2 q2) fun c s3 ⟨z,H3,I3,r3,k,e,q3⟩=>?_) hm
 subst e
 cases r3
 exact wpAny_truthy_bool ⟨H3,I3,q3⟩
noncomputable def tChain (r r':R2)(ta tb tc:TE):TE:=fun σ H Q=>ta σ H fun x H1=>tb σ H1 fun y H2=>r x y H2 fun z H3=>∃ k,z = .bl k /\
 (if k=true then tc σ H3 fun w' H4=>r' y w' H4 Q else Q (.bl false) H3)
theorem jN {op op':CmpOp}{r r':R2}(ho:iZ X (compareOp op) r)(ho':iZ X (compareOp op') r')(ha:PE X a ta)(hb:PE X b tb)(hc:PE X c tc)
  (hm:lastMarks [op,op'] [b,c]=false:=by with_unfolding_all rfl):PT X (.Compare a [op,op'] [b,c] pos) (tTest (tChain r r' ta tb tc)):=by
 intro pins s σ H Q I h
 refine isTrue_chain (thn (ha pins s σ H _ I h) fun v s1 ⟨x,H1,I1,r1,q1⟩=>test_link (thn (hb pins s1 σ H1 _ I1 q1) fun u s2 ⟨y,H2,I2,r2,q2⟩ =>
  thn (ho pins s2 σ H2 x y v u _ I2 r1 r2 q2) fun d s3 ⟨z,H3,I3,r3,k,e,q3⟩=>?_)) hm
 subst e
 cases r3
 refine wpAny_truthy_bool ?_
 cases k with
 | false =>
  obtain ⟨k',e',q'⟩:=q3
  cases e'
  exact ite_ff ⟨H3,I3,q'⟩
 | true =>
  refine ite_tt (test_last (thn (hc pins s3 σ H3 _ I3 q3) fun w' s4 ⟨z',H4,I4,r4,q4⟩=>thn (ho' pins s4 σ H4 y z' u w' _ I4 r2 r4 q4) fun d' s5 ⟨z2,H5,I5,r5,k2,e2,q5⟩=>?_))
  subst e2
  cases r5
  exact wpAny_truthy_bool ⟨H5,I5,q5⟩
noncomputable def LJ (K:PySem.W.Frag)(x:V)(H:Hp)(k:Bool):Prop :=
 match x with
 | .non=>k=false
 | .bl b=>k=b
 | .int i=>k=(i != 0)
 | .str y=>y.length<=sizeLine/\k=((y.length:Int) != 0)
 | .byt y=>y.size<=sizeLine/\k=((y.size:Int) != 0)
 | .ref p=>(∃ xs,eA K H p xs/\k = !xs.isEmpty)∨(∃ xs,h8 K H p xs/\k = !xs.isEmpty)∨∃ kvs,H p=some (.dK kvs)/\k = !kvs.isEmpty
 | _=>False
theorem A0 {κ:Type}{kvs:List (κ×V)}{vs:List (κ×Value)}(r:KV kvs vs):(!vs.isEmpty) = !kvs.isEmpty:=by
 cases r <;> rfl
theorem rN {xs:List V}{its:bP}(r:aU xs its):(!its.toArray.isEmpty) = !xs.isEmpty:=by
 cases r <;> simp
theorem line63:(sizeLine:Nat) < 2 ^ 63:=by rw [sizeLine_eq];decide
theorem ME:OY X (fun x H Q=>∃ k,LJ X.K x H k/\Q k H):=by
 intro pins s σ H x v Q I rx h
 obtain ⟨k,e,q⟩:=h
 have hl:=line63
 have hs:sizeLine=16777216:=sizeLine_eq
 cases x with
 | non =>
  cases rx
  have e':k=false:=e
  subst e'
  exact truthy_none ⟨H,I,q⟩
 | bl b =>
  cases rx
  have e':k=b:=e
  subst e'
  exact wpAny_truthy_bool ⟨H,I,q⟩
 | int i =>
  obtain ⟨t,rfl⟩:=rx
  have e':k=(i != 0):=e
  subst e'
  exact PySem.P.truthy_int ⟨H,I,q⟩
 | str y =>
  obtain ⟨t,rfl⟩:=rx
  obtain ⟨hy,e'⟩:y.length<=sizeLine/\k=((y.length:Int) != 0):=e
  subst e'
  exact PySem.P.truthy_str (by omega) ⟨H,I.tok _,q⟩
 | byt y =>
  obtain ⟨t,rfl⟩:=rx
  obtain ⟨hy,e'⟩:y.size<=sizeLine/\k=((y.size:Int) != 0):=e
  subst e'
  exact PySem.W.truthy_bytes (by omega) ⟨H,I.tok _,q⟩
 | ref p =>
  cases rx
  have e':(∃ xs,eA X.K H p xs/\k = !xs.isEmpty)∨(∃ xs,h8 X.K H p xs/\k = !xs.isEmpty)∨∃ kvs,H p=some (.dK kvs)/\k = !kvs.isEmpty:=e
  rcases e' with ⟨xs,hx,e'⟩ | ⟨xs,hx,e'⟩ | ⟨kvs,hx,e'⟩
  ·subst e'
   obtain ⟨its,r,pl,hz⟩:=I.list hx
   have hlen:=r.length
   exact wpAny_truthy_list pl.isList (by simp only [List.size_toArray];omega) ⟨H,I.tok _,by rw [rN r];exact q⟩
  ·subst e'
   obtain ⟨its,r,pl,hz⟩:=I.tuple hx
   have hlen:=r.length
   exact truthy_tuple pl (by simp only [List.size_toArray];omega) ⟨H,I.tok _,by rw [rN r];exact q⟩
  ·subst e'
   obtain ⟨hz,hS,vs,r,m⟩:kvs.length<=sizeLine/\(p == sysModules)=false/\∃ vs,KV kvs vs/\s.heap.DictOf (cJ X.prog X.w) p vs:=I.hok p _ hx
   have hlen:kvs.length=vs.length:=Paired.length r
   exact wpAny_truthy_dict hS m (by omega) ⟨H,I.tok _,by rw [A0 r];exact q⟩
 | _=>exact (show False from e).elim
theorem FZ (ha:PE X a ta)(he:∀ whole,isTrue a X.env whole=(do let v ← whole;standAt a.pos;holding [v] (truthy v))) :
  PT X a (fun σ H Q=>ta σ H fun x H'=>∃ k,LJ X.K x H' k/\Q k H'):=by
 intro pins s σ H Q I h
 exact isTrue_plain (thn (ha pins s σ H _ I h) fun v s1 ⟨x,H1,I1,r1,q1⟩=>ME pins s1 σ H1 x v Q I1 r1 q1) (he _)
theorem AG:iZ X (binaryOp .Add) (fun x y H Q=>∃ i j,x = .str i/\y = .str j/\i.length + j.length<=sizeLine/\Q (.str (i ++ j)) H):=by
 intro pins s σ H x y v u Q I rx ry h
 obtain ⟨i,j,rfl,rfl,hz,q⟩:=h
 obtain ⟨t,rfl⟩:=rx
 obtain ⟨t',rfl⟩:=ry
 exact add_str (fun t' tk=>⟨.str (i ++ j),H,I.tok _,⟨_,rfl⟩,q⟩) hz
theorem vals1 {x:V}{us:bP}(r:aU [x] us):∃ u,us=[u]/\aX x u:=by
 cases r with
 | cons r1 r2=>cases r2;exact ⟨_,rfl,r1⟩
theorem vals2 {x y:V}{us:bP}(r:aU [x,y] us):∃ u w',us=[u,w']/\aX x u/\aX y w':=by
 cases r with
 | cons r1 r2 =>
  cases r2 with
  | cons r3 r4=>cases r4;exact ⟨_,_,rfl,r1,r3⟩
theorem IH:cR X (.builtin "abs") (fun xs H Q=>∃ i,xs=[.int i]/\Q (.int (if i < 0 then -i else i)) H):=by
 intro pins s σ H xs us Q I r h
 obtain ⟨i,rfl,q⟩:=h
 obtain ⟨u,rfl,t,rfl⟩:=vals1 r
 exact call_abs_int fun u tk=>⟨.int (if i < 0 then -i else i),H,I.tok _,⟨_,rfl⟩,q⟩
theorem EU (hc:X.calm=true):cR X (.builtin "max") (fun xs H Q=>∃ i j,xs=[.int i,.int j]/\Q (.int (if j > i then j else i)) H):=by
 intro pins s σ H xs us Q I r h
 obtain ⟨i,j,rfl,q⟩:=h
 obtain ⟨u,w',rfl,⟨t,rfl⟩,⟨t',rfl⟩⟩:=vals2 r
 refine max_two_ints (I.ok.hd hc) fun h' tk k=>⟨_,H,I.kept k,?_,q⟩
 by_cases hj:j > i
 ·rw [if_pos hj,if_pos hj];exact ⟨_,rfl⟩
 ·rw [if_neg hj,if_neg hj];exact ⟨_,rfl⟩
theorem ES (hc:X.calm=true):cR X (.builtin "min") (fun xs H Q=>∃ i j,xs=[.int i,.int j]/\Q (.int (if j < i then j else i)) H):=by
 intro pins s σ H xs us Q I r h
 obtain ⟨i,j,rfl,q⟩:=h
 obtain ⟨u,w',rfl,⟨t,rfl⟩,⟨t',rfl⟩⟩:=vals2 r
 refine min_two_ints (I.ok.hd hc) fun h' tk k=>⟨_,H,I.kept k,?_,q⟩
 by_cases hj:j < i
 ·rw [if_pos hj,if_pos hj];exact ⟨_,rfl⟩
 ·rw [if_neg hj,if_neg hj];exact ⟨_,rfl⟩
theorem EW:cR X (.type "int") (fun xs H Q=>(∃ i,xs=[.int i]/\Q (.int i) H)∨∃ k,xs=[.bl k]/\Q (.int (if k then 1 else 0)) H):=by
 intro pins s σ H xs us Q I r h
 rcases h with ⟨i,rfl,q⟩ | ⟨k,rfl,q⟩
 ·obtain ⟨u,rfl,t,rfl⟩:=vals1 r
  exact call_int_int ⟨.int i,H,I,⟨_,rfl⟩,q⟩
 ·obtain ⟨u,rfl,r1⟩:=vals1 r
  cases r1
  exact call_int_bool ⟨.int (if k then 1 else 0),H,I.tok _,⟨_,rfl⟩,q⟩
end
structure BH (h:Heap)(x dx C:Addr)(mA:gA):Prop where
 obj:h.get? x=some (PySem.W.instObj C dx)
 ns:h.Ns1 dx mA
 ne:dx≠x
theorem D4 {h:Heap}{dx:Addr}{mA:gA}(n:h.Ns1 dx mA):∃ od,h.get? dx=some od/\∀ name,PySem.W.lookIn name od=some (mA name):=by
 obtain ⟨o,es,ep,ho,hd,hk,_,hm⟩:=n
 refine ⟨o,ho,fun name=>?_⟩
 have e:=hm name
 unfold nsFind findBy at e
 rw [← Array.find?_toList] at e
 unfold PySem.W.lookIn
 rw [hd]
 dsimp only
 split
 ·rename_i y q
  rw [q] at e
  exact congrArg some e
 ·rename_i q
  rw [q] at e
  have a:es.toList.any (·.refKey)=false:=by
   rw [List.any_eq_false]
   intro y hy
   obtain ⟨z,t,hkey⟩:=hk y (Array.mem_toList_iff.mp hy)
   simp [DictEntry.refKey,hkey]
  have a':¬ es.toList.any (·.refKey)=true:=by rw [a];exact Bool.false_ne_true
  rw [if_neg a']
  exact congrArg some e
theorem BH.look {h:Heap}{x dx C:Addr}{mA:gA}(I:BH h x dx C mA):∃ od,PySem.W.InstAt h x (PySem.W.instObj C dx) C (some od)/\∀ name,PySem.W.lookIn name od=some (mA name) :=
 let ⟨od,ho,hl⟩:=D4 I.ns
 ⟨od,⟨I.obj,rfl,rfl,ho⟩,hl⟩
section
variable {prog:Program}{w:World}{A:Around}{E:bX}{s:Shared}{K:PySem.W.Frag}{x dx C f:Addr}{mA:gA}{name:Str}{v:Value}
theorem K2 {expr:Bool}{Q:bX}(X:K.In s.heap)(I:BH s.heap x dx C mA)(hg:PySem.W.plainGet K C name=true)(hh:PySem.W.hasDictIn K C=true)
  (ha:PySem.W.findIn K (.ref C) name=some none) (hv:mA name=some v) (hv':PySem.W.handedIn v=true) (h:Q v { s with toks:=s.toks + 1 }) :
  wpAny (model prog w) A (getAttr (.ref x) name expr) Q E s:=by
 obtain ⟨od,J,hl⟩:=I.look
 exact PySem.W.get_value X J (PySem.W.plainGet_of hg).1 (PySem.W.findObj_own hh ha rfl (by rw [hl,hv])) hv' h
theorem HG {pl:Sem Bool}{Q:Value×bP->Shared->Prop}(X:K.In s.heap)(I:BH s.heap x dx C mA)(hg:PySem.W.plainGet K C name=true)
  (hf:PySem.W.findIn K (.ref C) name=some (some (.ref f))) (ht:PySem.W.isFn K (.ref f)=true) (hv:mA name=none) (h:Q (.ref f,[.ref x]) s) :
  wpAny (model prog w) A (getMethod (.ref x) name pl) Q E s:=by
 obtain ⟨od,J,hl⟩:=I.look
 exact PySem.W.method_fn X J (PySem.W.plainGet_of hg).1 (PySem.W.plainGet_of hg).2 hf (beq_iff_eq.mp ht) (by show (PySem.W.lookIn name od).map (·.isSome)=some false;rw [hl,hv];rfl) h
theorem JC {ns:aQ}{Q:Unit->Shared->Prop}(X:K.In s.heap)(I:BH s.heap x dx C mA)
  (hs:PySem.W.findIn K (.ref C) "__setattr__" = some (some (.builtin "object.__setattr__"))) (hp:PySem.W.plainOver K C=true) (ht:PySem.W.takerIn K C name=some none) (hh:PySem.W.hasDictIn K C=true)
  (hw:PySem.Within mA ns) (hsz:ns.length<=sizeLine)
  (h:∀ h',BH h' x dx C (fun y=>if y=name then some v else mA y)->Heap.SameBut dx s.heap h'->Q () { s with heap:=h',toks:=s.toks + 2 }) :
  wpAny (model prog w) A (setAttr (.ref x) name v) Q E s:=by
 obtain ⟨od,J,hl⟩:=I.look
 refine PySem.W.set_plain X J hs (PySem.W.osa_open (s:={ s with toks:=s.toks + 1 }) (r:=none) X J hp ht fun b=>?_)
 obtain ⟨cd,hc,hd'⟩:=PySem.W.any_some hh
 have hx:s.heap.get? x=some ⟨.ref C,some dx,.plain,#[]⟩:=I.obj
 refine wpAny_bind (wpAny_pure (wpAny_bind (wpAny_bind (wpAny_loadPart hx (wpAny_bind (PySem.W.Looks.here (s:={ s with toks:=s.toks + 1 }) (PySem.W.looks_clsIn X hc) ?_))))))
 rw [hd']
 refine wpAny_pure (a:=some dx) (wpAny_bind (wpAny_pure (wpAny_bind ?_)))
 refine wpAny_nsSet1 (s:={ s with toks:=s.toks + 1 }) I.ns fun h' hn2 hs2=>?_
 obtain ⟨oD,esD,epD,hoD,hdD,hcD⟩:=hn2.count (PySem.Within.cons name v hw)
 refine wpAny_bind (wpAny_lookBehind hoD (by rw [hdD];exact pastItsLine_dict (Nat.le_trans hcD (by rw [List.length_cons];omega))) ?_)
 exact wpAny_pure (h _ ⟨(hs2.2 _ (Ne.symm I.ne)).trans I.obj,hn2,I.ne⟩ hs2)
theorem G4 {R:Result->Shared->Prop}{vs:bP}{kw:List (Str×Value)}(X:K.In s.heap)(hm:PySem.W.makesIn K C=true)
  (hi:PySem.W.findIn K (.ref C) "__init__" = some (some (.ref f))) (hf:PySem.W.typeIn K (.ref f)=some (.type "function"))
  (h:codeAny (model prog w) (A.under (.builtin "type.__call__" ⟨.ref C :: vs,kw⟩)) (.call (.ref f) ⟨.ref (s.heap.objs.size + 1) :: vs,kw⟩) (PySem.W.InitBack (s.heap.objs.size + 1) R)
   { s with heap:=(s.heap.push PySem.W.emptyDict).push (PySem.W.instObj C s.heap.objs.size) }) :
  codeAny (model prog w) A (.call (.ref C) ⟨vs,kw⟩) R s:=by
 obtain ⟨hh,g,d,t,os⟩:=s
 exact PySem.W.make_core (PySem.W.makes_of X hm) (PySem.W.looks_findIn X hi) (fun self=>PySem.W.bind_fn X self hf) (.inl rfl) h
end
noncomputable def putF (f:Str)(v:V):List (Str×V)->List (Str×V)
 | []=>[(f,v)]
 | (g,x) :: r=>if g=f then (g,v) :: r else (g,x) :: putF f v r
theorem bU (f g:Str)(v:V):∀ fs:List (Str×V),(putF f v fs).lookup g=if g=f then some v else fs.lookup g
 | []=>by
  show List.lookup g [(f,v)]=_
  by_cases h:g=f
  ·have hb:(g == f)=true:=beq_iff_eq.mpr h
   simp only [List.lookup,hb,if_pos h]
  ·have hb:(g == f)=false:=beq_eq_false_iff_ne.mpr h
   simp only [List.lookup,hb,if_neg h]
 | (k,x) :: r=>by
  have ih:=bU f g v r
  rw [show putF f v ((k,x) :: r)=(if k=f then (k,v) :: r else (k,x) :: putF f v r) from rfl]
  by_cases hk:k=f
  ·rw [if_pos hk]
   by_cases h:g=k
   ·have hb:(g == k)=true:=beq_iff_eq.mpr h
    simp only [List.lookup,hb,if_pos (h.trans hk)]
   ·have hb:(g == k)=false:=beq_eq_false_iff_ne.mpr h
    simp only [List.lookup,hb,if_neg (fun e:g=f=>h (e.trans hk.symm))]
  ·rw [if_neg hk]
   by_cases h:g=k
   ·have hb:(g == k)=true:=beq_iff_eq.mpr h
    simp only [List.lookup,hb,if_neg (fun e:g=f=>hk (h.symm.trans e))]
   ·have hb:(g == k)=false:=beq_eq_false_iff_ne.mpr h
    simp only [List.lookup,hb]
    exact ih
theorem pC (f:Str)(v:V):∀ fs:List (Str×V),f ∈ (putF f v fs).map (·.1)/\∀ g,g ∈ fs.map (·.1)->g ∈ (putF f v fs).map (·.1)
 | []=>⟨by simp [putF],fun g h=>by simp at h⟩
 | (k,x) :: r=>by
  obtain ⟨i1,i2⟩:=pC f v r
  rw [show putF f v ((k,x) :: r)=(if k=f then (k,v) :: r else (k,x) :: putF f v r) from rfl]
  by_cases hk:k=f
  ·rw [if_pos hk]
   subst hk
   exact ⟨by simp,fun g h=>by simpa using h⟩
  ·rw [if_neg hk]
   refine ⟨?_,fun g h=>?_⟩
   ·rw [List.map_cons]
    exact List.mem_cons_of_mem _ i1
   ·rw [List.map_cons] at h ⊢
    rcases List.mem_cons.mp h with e | e
    ·exact List.mem_cons.mpr (.inl e)
    ·exact List.mem_cons_of_mem _ (i2 g e)
theorem fL (f:Str)(v:V):∀ fs:List (Str×V),(putF f v fs).length<=fs.length + 1
 | []=>by simp [putF]
 | (k,x) :: r=>by
  have ih:=fL f v r
  rw [show putF f v ((k,x) :: r)=(if k=f then (k,v) :: r else (k,x) :: putF f v r) from rfl]
  by_cases hk:k=f
  ·rw [if_pos hk,List.length_cons,List.length_cons];omega
  ·rw [if_neg hk,List.length_cons,List.length_cons];omega
theorem kF.some_of {v:V}{o:Option Value}(r:kF (some v) o):∃ u,o=some u/\aX v u:=by
 cases o with
 | none=>exact (show False from r).elim
 | some u=>exact ⟨u,rfl,r⟩
theorem kF.none_of {o:Option Value}(r:kF none o):o=none:=by
 cases o with
 | none=>rfl
 | some u=>exact (show False from r).elim
theorem ED {v:V}{u:Value}(r:aX v u):PySem.W.handedIn u=true:=by
 cases v with
 | non=>cases (show u=Value.none from r);rfl
 | bl b=>cases (show u=Value.bool b from r);rfl
 | int i=>obtain ⟨t,e⟩:=(show ∃ t,u=Value.int i t from r);cases e;rfl
 | str x=>obtain ⟨t,e⟩:=(show ∃ t,u=Value.str x t from r);cases e;rfl
 | byt b=>obtain ⟨t,e⟩:=(show ∃ t,u=Value.bytes b t from r);cases e;rfl
 | flt b=>obtain ⟨t,e⟩:=(show ∃ t,u=Value.float b t from r);cases e;rfl
 | ref a=>cases (show u=Value.ref a from r);rfl
 | ty n=>cases (show u=Value.type n from r);rfl
section
variable {P:Program}{w:World}{H H':Hp}{h h':Heap}{a C dx:Addr}{fs fs':List (Str×V)}
theorem wP (hok:gX P w H h)(e:H a=some (.ins C dx fs)):∃ mA,BH h a dx C mA/\(∀ f,kF (fs.lookup f) (mA f))/\PySem.Within mA (fs.map (·.1))/\fs.length<=1000/\H dx=some (.own a):=by
 obtain ⟨d,z,ne,ob,mA,n,r,q⟩:=(show cE P w H h a (.ins C dx fs) from hok a _ e)
 exact ⟨mA,⟨ob,n,ne⟩,r,q,z,d⟩
end
structure E5 (K:PySem.W.Frag)(C:Addr):Prop where
 pg:PySem.W.plainGet K C Str.empty=true
 hd:PySem.W.hasDictIn K C=true
 po:PySem.W.plainOver K C=true
 sa:PySem.W.findIn K (.ref C) "__setattr__" = some (some (.builtin "object.__setattr__"))
theorem E5.get {K:PySem.W.Frag}{C:Addr}(c:E5 K C)(f:Str):PySem.W.plainGet K C f=true:=c.pg
noncomputable def hU (K:PySem.W.Frag)(C:Addr)(f:Str):Prop:=PySem.W.findIn K (.ref C) f=some none
theorem hU.taker {K:PySem.W.Frag}{C:Addr}{f:Str}(n:hU K C f):PySem.W.takerIn K C f=some none:=by
 unfold PySem.W.takerIn
 rw [show PySem.W.findIn K (.ref C) f=some none from n]
 rfl
structure LM (K:PySem.W.Frag)(C:Addr)(m:Str)(f:Addr):Prop where
 at_:PySem.W.findIn K (.ref C) m=some (some (.ref f))
 fn:PySem.W.isFn K (.ref f)=true
 kp:PySem.W.keepIn K (.ref f)=true
section
variable {X:Cx}{pins:dE}{σ:St}{H:Hp}{s:Shared}{a C dx:Addr}{fs:List (Str×V)}{f:Str}{v:V}{A:Around}{E:bX}
theorem A1 {b:Bool}{Q:bX}(I:aO X pins σ H s)(e:H a=some (.ins C dx fs))(c:E5 X.K C)(n:hU X.K C f)(l:fs.lookup f=some v)
  (h:∀ u s',aO X pins σ H s'->aX v u->Q u s'):wpAny (model X.prog X.w) A (getAttr (.ref a) f b) Q E s:=by
 obtain ⟨mA,O,r,_,_,_⟩:=wP I.hok e
 obtain ⟨u,hu,ru⟩:=kF.some_of (v:=v) (o:=mA f) (by rw [← l];exact r f)
 exact K2 I.kIn O (c.get f) c.hd n hu (ED ru) (h u _ (I.tok _) ru)
theorem rR {m:Str}{g:Addr}{pl:Sem Bool}{Q:Value×bP->Shared->Prop}(I:aO X pins σ H s)(e:H a=some (.ins C dx fs))(c:E5 X.K C)(k:LM X.K C m g)(l:fs.lookup m=none)
  (h:Q (.ref g,[.ref a]) s):wpAny (model X.prog X.w) A (getMethod (.ref a) m pl) Q E s:=by
 obtain ⟨mA,O,r,_,_,_⟩:=wP I.hok e
 have hn:mA m=none:=kF.none_of (by rw [← l];exact r m)
 exact HG I.kIn O (c.get m) k.at_ k.fn hn h
theorem zV {y:V}{u:Value}{Q:Unit->Shared->Prop}(I:aO X pins σ H s)(e:H a=some (.ins C dx fs))(c:E5 X.K C)(n:hU X.K C f)(hl:fs.length < 1000)(ry:aX y u)
  (h:∀ s',aO X pins σ (upd H a (.ins C dx (putF f y fs))) s'->Q () s'):wpAny (model X.prog X.w) A (setAttr (.ref a) f u) Q E s:=by
 obtain ⟨mA,O,r,wi,_,ho⟩:=wP I.hok e
 have hz:(fs.map (·.1)).length<=sizeLine:=by rw [List.length_map,sizeLine_eq];omega
 refine JC I.kIn O c.sa c.po n.taker c.hd wi hz fun h' O' sb=>h _ ?_
 have hd:∃ o,h'.get? dx=some o:=let ⟨o,_,_,e',_⟩:=O'.ns;⟨o,e'⟩
 refine I.write (x:=a) (e:=dx) (by rw [e];exact True.intro) (.inr ho) (fun b q hb z=>(sb.2 b hb).trans z) hd ?_
 refine ⟨by rw [aC O.ne];exact ho,?_,O.ne,O'.obj,_,O'.ns,fun g=>?_,fun g hg=>?_⟩
 ·have:=fL f y fs;omega
 ·show kF ((putF f y fs).lookup g) (if g=f then some u else mA g)
  rw [bU]
  by_cases q:g=f
  ·rw [if_pos q,if_pos q];exact ry
  ·rw [if_neg q,if_neg q];exact r g
 ·by_cases q:g=f
  ·rw [q];exact (pC f y fs).1
  ·refine (pC f y fs).2 g (wi g fun z=>hg ?_)
   show (if g=f then some u else mA g)=none
   rw [if_neg q];exact z
theorem aO.made (I:aO X pins σ H s):aO X pins σ (upd (upd H s.heap.objs.size (.own (s.heap.objs.size + 1))) (s.heap.objs.size + 1) (.ins C s.heap.objs.size []))
  { s with heap:=(s.heap.push PySem.W.emptyDict).push (PySem.W.instObj C s.heap.objs.size) }:=by
 have e1:(s.heap.push PySem.W.emptyDict).get? s.heap.objs.size=some PySem.W.emptyDict:=Heap.get?_push_size s.heap rfl
 have e2:((s.heap.push PySem.W.emptyDict).push (PySem.W.instObj C s.heap.objs.size)).get? (s.heap.objs.size + 1)=some (PySem.W.instObj C s.heap.objs.size):=by
  have:=Heap.get?_push_size (s.heap.push PySem.W.emptyDict) (o:=PySem.W.instObj C s.heap.objs.size) rfl
  rwa [Heap.size_push] at this
 have e3:(s.heap.push PySem.W.emptyDict).Ns s.heap.objs.size (fun _=>none):=⟨PySem.W.emptyDict,#[],_,e1,rfl,(fun e he=>absurd he (by simp)),fun _=>rfl⟩
 have I1:=I.laid (a:=s.heap.objs.size) (o:=.own (s.heap.objs.size + 1)) (h':=s.heap.push PySem.W.emptyDict) (t':=s.toks) (fun b u q=>Heap.get?_push_of_some _ q) (Nat.le_refl _) ⟨_,e1⟩
 refine I1.laid (a:=s.heap.objs.size + 1) (o:=.ins C s.heap.objs.size []) (t':=s.toks) (fun b u q=>Heap.get?_push_of_some _ q) (Nat.le_of_eq (Heap.size_push _ _)) ?_
 have ne:s.heap.objs.size≠s.heap.objs.size + 1:=Nat.ne_of_lt (Nat.lt_succ_self _)
 refine ⟨by rw [aC ne,upd_same],Nat.zero_le _,ne,e2,fun _=>none,(Heap.Ns1.of_empty e3).at fun o q=>Heap.get?_push_of_some _ q,fun _=>True.intro,fun y hy=>absurd rfl hy⟩
theorem LD {prog:Program}{w:World}{env:Env}{e:Expr}{f:Str}{pos:Pos}{s:Shared}{Q:bX}(hb:attributeBase e f env (eval e env)=eval e env)
  (h:wpAny (model prog w) A (eval e env) (fun o s₁=>wpAny (model prog w) A (getAttr o f true) Q E s₁) E s):wpAny (model prog w) A (eval (.Attribute e f pos) env) Q E s :=
 Attribute_any_ h (by rw [arm_eval_Attribute,hb])
end
noncomputable def tFld (K:PySem.W.Frag)(ta:TE)(f:Str):TE:=fun σ H Q=>ta σ H fun x H1=>∃ a C dx fs v,x = .ref a/\H1 a=some (.ins C dx fs)/\E5 K C/\hU K C f/\fs.lookup f=some v/\Q v H1
noncomputable def sFld (K:PySem.W.Frag)(ta tv:TE)(f:Str):TS:=fun D σ H=>tv σ H fun y H1=>ta σ H1 fun x H2=>∃ a C dx fs,x = .ref a/\H2 a=some (.ins C dx fs)/\E5 K C/\hU K C f/\fs.length < 1000 /\
 D.nx σ (upd H2 a (.ins C dx (putF f y fs)))
section
variable {X:Cx}{o e value:Expr}{f:Str}{pos pos' tpos:Pos}{ta tv:TE}
theorem GE (he:PE X e ta)(hb:attributeBase e f X.env (eval e X.env)=eval e X.env):PE X (.Attribute e f pos) (tFld X.K ta f):=by
 intro pins s σ H Q I h
 refine LD hb (thn (he pins s σ H _ I h) fun u s1 ⟨x,H1,I1,rx,a,C,dx,fs,v,ex,ea,c,n,l,q⟩=>?_)
 subst ex
 obtain rfl:u=Value.ref a:=rx
 exact A1 I1 ea c n l fun u' s2 I2 ru=>⟨v,H1,I2,ru,q⟩
theorem vR (ha:PE X o ta)(hv:PE X value tv)(hs:swapsWith value (some (.Attribute o f pos')) pos.line X.env=pure false):PS X (.Assign [.Attribute o f pos'] value pos) (sFld X.K ta tv f):=by
 intro pins s σ H D I h
 refine plainObj_wpAny_Assign_Attribute (thn (hv pins s σ H _ I h) fun u s1 ⟨y,H1,I1,ry,q⟩=>thn (ha pins s1 σ H1 _ I1 q) fun ov s2 ⟨x,H2,I2,rx,a,C,dx,fs,ex,ea,c,n,l,q2⟩=>?_) hs
 subst ex
 obtain rfl:ov=Value.ref a:=rx
 exact zV I2 ea c n l ry fun s3 I3=>⟨σ,_,I3,q2⟩
theorem LX {pl:Sem Bool}{m:Str}{apos:Pos}{args:lW}{pins:dE}{s:Shared}{σ:St}{H:Hp}{Q:bX}{te:TE}(he:PE X e te)(I:aO X pins σ H s)
  (h:te σ H fun x H1=>∃ a C dx fs g,x = .ref a/\H1 a=some (.ins C dx fs)/\E5 X.K C/\LM X.K C m g/\fs.lookup m=none /\
   ∀ s1,aO X pins σ H1 s1->wpAny (model X.prog X.w) X.A (callWith pos (.ref g) [.ref a] (backTo pos (starEach args X.env)) (backToKw pos (keywordEach [] X.env))) Q X.xe s1)
  (ht:eval (.Call (.Attribute e m apos) args [] pos) X.env=(do
   let ov ← eval e X.env
   standAt apos.atName
   let (f,first) ← holding [ov] (getMethod ov m pl)
   callWith pos f first (backTo pos (starEach args X.env)) (backToKw pos (keywordEach [] X.env)))) :
  wpAny (model X.prog X.w) X.A (eval (.Call (.Attribute e m apos) args [] pos) X.env) Q X.xe s:=by
 refine PySem.W.methodCall_KW (pl:=pl) (thn (he pins s σ H _ I h) fun u s1 ⟨x,H1,I1,rx,a,C,dx,fs,g,ex,ea,c,k,l,q⟩=>?_) ht
 subst ex
 obtain rfl:u=Value.ref a:=rx
 exact rR I1 ea c k l (q s1 I1)
end
structure eI (k:Nat)(A:Around):Prop where
 hd:A.handled=none
 dp:A.depth + 3 * k + 5 < recursionLimit
 un:A.units + 16 * k + 200 < cLine
theorem eI.mono {j k:Nat}{A:Around}(r:eI k A)(h:j<=k):eI j A:=⟨r.hd,by have:=r.dp;omega,by have:=r.un;omega⟩
theorem eI.deeper {k:Nat}{A:Around}(r:eI (k + 1) A)(env:Env):eI k (A.deeper env) :=
 ⟨r.hd,by have:=r.dp;show A.depth + 1 + 3 * k + 5 < _;omega,by have:=r.un;show A.units + 3 + 16 * k + 200 < _;omega⟩
theorem eI.in1 {k:Nat}{A:Around}(r:eI (k + 1) A):eI k A.in1 :=
 ⟨r.hd,by have:=r.dp;show A.depth + 3 * k + 5 < _;omega,by have:=r.un;show A.units + 1 + 16 * k + 200 < _;omega⟩
theorem AT {A:Around}{C:Addr}{us:bP}{kw:List (Str×Value)}:(A.under (.builtin "type.__call__" ⟨.ref C :: us,kw⟩)).depth=A.depth + 1:=by
 first | rfl | simp [Around.under,Code.weight,Code.isCreation,Code.isGuard,Code.isCaller,Code.frames,Code.isFrame,guardIds]
theorem AS {A:Around}{C:Addr}{us:bP}{kw:List (Str×Value)}:(A.under (.builtin "type.__call__" ⟨.ref C :: us,kw⟩)).units=A.units + 1:=by
 first | rfl | simp [Around.under,Code.cUnits,Code.frames,Code.isFrame]
theorem eI.make {k:Nat}{A:Around}(r:eI (k + 1) A)(C:Addr)(us:bP)(kw:List (Str×Value)):eI k (A.under (.builtin "type.__call__" ⟨.ref C :: us,kw⟩)) :=
 ⟨r.hd,by have:=r.dp;rw [AT];omega,by have:=r.un;rw [AS];omega⟩
theorem eI.depth {k:Nat}{A:Around}(r:eI k A):A.depth < recursionLimit:=by have:=r.dp;omega
theorem eI.units {k:Nat}{A:Around}(r:eI k A):A.units + 64 < cLine:=by have:=r.un;omega
noncomputable def tNil:TA:=fun _ H Q=>Q [] H
noncomputable def tCons (ta:TE)(tr:TA):TA:=fun σ H Q=>ta σ H fun x H1=>tr σ H1 fun xs H2=>Q (x :: xs) H2
section
variable {X:Cx}{e:Expr}{es:lW}{te:TE}{t:TA}{pos:Pos}
theorem aB:PA X [] tNil:=fun _ _ _ _ H Q I h=>Calls.spliced_nil ⟨[],H,I,.nil,h⟩
theorem aA (ha:PE X e te)(hr:PA X es t)(hs:starEach (e :: es) X.env=(false,eval e X.env) :: starEach es X.env:=by rfl):PA X (e :: es) (tCons te t):=by
 intro pos pins s σ H Q I h
 rw [hs]
 show wpAny _ _ (spliced ((false,eval e X.env) :: backTo pos (starEach es X.env))) _ _ s
 refine Calls.spliced_cons (thn (ha pins s σ H _ I h) fun u s1 ⟨x,H1,I1,r1,q1⟩=>?_)
 exact thn (hr pos pins s1 σ H1 _ I1 q1) fun us s2 ⟨xs,H2,I2,r2,q2⟩=>⟨x :: xs,H2,I2,.cons r1 r2,q2⟩
noncomputable def tTup (t:TA):TE:=fun σ H Q=>t σ H fun xs H1=>xs.length<=sizeLine/\∀ p,H1 p=none->Q (.ref p) (upd H1 p (.tup xs))
noncomputable def tLst (t:TA):TE:=fun σ H Q=>t σ H fun xs H1=>xs.length<=sizeLine/\∀ p,H1 p=none->Q (.ref p) (upd H1 p (.lst xs))
theorem fW {x1}(h:PA X es t):PE X (.Tuple es x1 pos) (tTup t):=by
 intro pins s σ H Q I hq
 refine wpAny_Tuple_spliced (thn (h pos pins s σ H _ I hq) fun us s1 ⟨xs,H1,I1,r,z,q⟩=>⟨by rw [← r.length];exact z,?_⟩)
 have hf:H1 s1.heap.objs.size=none:=I1.hok.fresh (Nat.le_refl _)
 refine ⟨.ref s1.heap.objs.size,upd H1 s1.heap.objs.size (.tup xs),I1.laid (t':=s1.toks) (fun b u e=>Heap.get?_push_of_some _ e) (Nat.le_refl _) ?_,rfl,q _ hf⟩
 exact ⟨z,us,r,⟨_,Heap.get?_push_size _ rfl,rfl,_,rfl⟩⟩
theorem cM (h:PA X es t):PE X (.List es pos) (tLst t):=by
 intro pins s σ H Q I hq
 refine wpAny_List_spliced (thn (h pos pins s σ H _ I hq) fun us s1 ⟨xs,H1,I1,r,z,q⟩=>⟨by rw [← r.length];exact z,?_⟩)
 have hf:H1 s1.heap.objs.size=none:=I1.hok.fresh (Nat.le_refl _)
 refine ⟨.ref s1.heap.objs.size,upd H1 s1.heap.objs.size (.lst xs),I1.laid (t':=s1.toks) (fun b u e=>Heap.get?_push_of_some _ e) (Nat.le_refl _) ?_,rfl,q _ hf⟩
 exact ⟨z,us,0,r,Heap.get?_push_size _ rfl⟩
end
noncomputable abbrev Sp:=List V->Hp->VK->XK->Prop
noncomputable abbrev BL:=List Env->Hp->Shared->XK->bX
structure xD (P:Program)(w:World)(K:PySem.W.Frag)(mg:gA)(base:Heap)(A:Around)(outer:List Env)(s:Shared)(H:Hp):Prop where
 frames:A.frames=some outer
 mod:Mod K mg base
 bs:∀ b o,base.get? b=some o->s.heap.get? b=some o/\H b=none
 bsz:base.objs.size<=s.heap.objs.size
 funs:s.heap.FunFrames base outer
 frf:∀ b ∈ frs outer,H b=none
 hok:gX P w H s.heap
 bare:AllBare s.gens
noncomputable def CE (outer:List Env)(P:Program)(w:World)(H:Hp)(s:Shared)(Q:VK)(u:Value)(s':Shared):Prop :=
 ∃ v H',s'.os=s.os/\AllBare s'.gens/\Un (frs outer) [] H H' s.heap s'.heap/\gX P w H' s'.heap/\aX v u/\Q v H'
noncomputable def CR (CX:BL)(outer:List Env)(P:Program)(w:World)(H:Hp)(s:Shared)(Q:VK)(E:XK)(r:Result)(s':Shared):Prop :=
 match r with
 | .ok (.ret u)=>CE outer P w H s Q u s'
 | .ok _=>False
 | .error e=>CX outer H s E e s'
structure bR (P:Program)(w:World)(K:PySem.W.Frag)(mg:gA)(base:Heap)(CX:BL)(k:Nat)(f:Addr)(fd:FuncData)(ps:aQ)(sp:Sp):Prop where
 len:∀ vs H Q E,sp vs H Q E->vs.length=ps.length
 run:∀ (A:Around) (outer:List Env) (s:Shared) (H:Hp) (args:Args) (us:bP) (vs:List V) (Q:VK) (E:XK),eI k A->xD P w K mg base A outer s H->BindsTo s fd args (ps.zip us)->aU vs us->sp vs H Q E ->
  codeAny (model P w) A (.call (.ref f) args) (CR CX outer P w H s Q E) s
theorem bR.mono {P:Program}{w:World}{K:PySem.W.Frag}{mg:gA}{base:Heap}{CX:BL}{j k:Nat}{f:Addr}{fd:FuncData}{ps:aQ}{sp:Sp}(F:bR P w K mg base CX j f fd ps sp)(h:j<=k) :
  bR P w K mg base CX k f fd ps sp:=⟨F.len,fun A outer s H args us vs Q E hr=>F.run A outer s H args us vs Q E (hr.mono h)⟩
theorem xD.make {P:Program}{w:World}{K:PySem.W.Frag}{mg:gA}{base:Heap}{A:Around}{outer:List Env}{s:Shared}{H:Hp}(e:xD P w K mg base A outer s H)(C:Addr)(us:bP)(kw:List (Str×Value)) :
  xD P w K mg base (A.under (.builtin "type.__call__" ⟨.ref C :: us,kw⟩)) outer s H:=⟨by first | exact e.frames | (simpa [Around.under,Code.envs,Code.isFrame,pushEnvs] using e.frames),e.mod,e.bs,e.bsz,e.funs,e.frf,e.hok,e.bare⟩
section
variable {X:Cx}{pins:dE}{σ:St}{H:Hp}{s s':Shared}
theorem aO.env0 (I:aO X pins σ H s):xD X.prog X.w X.K X.mg X.base X.A X.stack s H :=
 ⟨I.ok.frames,I.ok.mod,I.bs,Nat.le_trans I.ok.bsz I.sz,I.stack,I.stkFree,I.hok,I.bare⟩
theorem aO.after {Q:VK}{u:Value}(I:aO X pins σ H s)(h:CE X.stack X.prog X.w H s Q u s'):EP X pins σ Q u s':=by
 obtain ⟨v,H',os,bare,un,hok,r,q⟩:=h
 obtain ⟨hh,g,d,t,os'⟩:=s'
 obtain rfl:os'=s.os:=os
 exact ⟨v,H',I.call (h':=hh) (g':=g) (d':=d) (t':=t) (ch:=[]) un hok bare (fun b z=>absurd z (by simp)),r,q⟩
end
noncomputable def tCall (sp:Sp)(dvs:List V)(E:XK)(t:TA):TE:=fun σ H Q=>t σ H fun vs H1=>sp (vs ++ dvs) H1 Q E
noncomputable def tMeth (C:Addr)(m:Str)(sp:Sp)(dvs:List V)(E:XK)(ta:TE)(t:TA):TE:=fun σ H Q=>ta σ H fun x H1=>∃ a dx fs,x = .ref a/\H1 a=some (.ins C dx fs)/\fs.lookup m=none /\
 t σ H1 fun vs H2=>sp (x :: (vs ++ dvs)) H2 Q E
noncomputable def tMake (C:Addr)(sp:Sp)(dvs:List V)(E:XK)(t:TA):TE:=fun σ H Q=>t σ H fun vs H1=>∀ x dx,H1 x=none->H1 dx=none->dx≠x ->
 sp (.ref x :: (vs ++ dvs)) (upd (upd H1 dx (.own x)) x (.ins C dx [])) (fun v H2=>v = .non/\Q (.ref x) H2) E
noncomputable def eX (K:PySem.W.Frag)(fd:FuncData)(ps:aQ)(ds:bP):Prop :=
 ∀ (s:Shared) (us:bP),K.In s.heap->(us ++ ds).length=ps.length->BindsTo s fd ⟨us,[]⟩ (ps.zip (us ++ ds))
theorem eX.all {K:PySem.W.Frag}{fd:FuncData}{ps:aQ}(h:∀ us:bP,us.length=ps.length->bindArgs fd ⟨us,[]⟩=pure (ps.zip us)):eX K fd ps []:=fun s us _ hl=>by
 rw [List.append_nil] at hl ⊢
 exact .of_eq (h us hl)
noncomputable def j4 (CX:BL)(X:Cx)(E:XK):Prop:=∀ (pins:dE) (σ:St) (H:Hp) (s:Shared) (e:Value) (s':Shared),aO X pins σ H s->CX X.stack H s E e s'->X.xe e s'
section
variable {X:Cx}{CX:BL}{k:Nat}{f C:Addr}{fd:FuncData}{ps:aQ}{sp:Sp}{dvs:List V}{ds:bP}{E:XK}{x m:Str}{p pos apos:Pos}{e o:Expr}{es:lW}{ta:TE}{t:TA}
theorem FW {pins:dE}{σ:St}{H:Hp}{s:Shared}{Q:VK}{us:bP}{vs:List V}(F:bR X.prog X.w X.K X.mg X.base CX k f fd ps sp)(hr:eI k X.A)(hb:eX X.K fd ps ds)(hd:aU dvs ds)(hx:j4 CX X E)
  (I:aO X pins σ H s) (r:aU vs us) (h:sp (vs ++ dvs) H Q E):wpAny (model X.prog X.w) X.A (call (.ref f) us) (EP X pins σ Q) X.xe s:=by
 have r2:aU (vs ++ dvs) (us ++ ds):=r.append hd
 have hl:(us ++ ds).length=ps.length:=by rw [← r2.length];exact F.len _ _ _ _ h
 refine wpAny_call (codeAny_mono (F.run X.A X.stack s H ⟨us,[]⟩ (us ++ ds) (vs ++ dvs) Q E hr I.env0 (hb s us I.kIn hl) r2 h) fun r s' hq=>?_)
 cases r with
 | error e=>exact hx pins σ H s e s' I hq
 | ok fl =>
  cases fl with
  | ret u=>exact I.after hq
  | next=>exact False.elim hq
  | brk=>exact False.elim hq
  | cont=>exact False.elim hq
theorem JX (F:bR X.prog X.w X.K X.mg X.base CX k f fd ps sp)(hr:eI k X.A)(hg:Gl X x)(hm:X.mg x=some (.ref f))(hk:PySem.W.keepIn X.K (.ref f)=true)(hb:eX X.K fd ps ds)(hd:aU dvs ds)(hx:j4 CX X E)
  (ha:PA X (e :: es) t) (hdb:(x == ("__debug__" : Str))=false:=by decide) (he:starEach (e :: es) X.env=(false,eval e X.env) :: starEach es X.env:=by rfl) (hpl:(backTo pos (starEach es X.env)).any (·.1)=false:=by rfl) :
  PE X (.Call (.Name x p) (e :: es) [] pos) (tCall sp dvs E t):=by
 intro pins s σ H Q I h
 refine wpAny_Call_Name_kw (qI I hg hm ?_ hdb)
 refine PySem.W.callWith_K (h₀:=X.base) I.ok.mod.kin hk (thn (ha pos pins s σ H _ I h) fun us s1 ⟨vs,H1,I1,r,q⟩=>⟨I1.kIn,?_⟩) he hpl
 exact FW F hr hb hd hx I1 r q
theorem JU {pl:Sem Bool}(he:PE X o ta)(c:E5 X.K C)(hm:LM X.K C m f)(F:bR X.prog X.w X.K X.mg X.base CX k f fd ps sp)(hr:eI k X.A)(hb:eX X.K fd ps ds)(hd:aU dvs ds)(hx:j4 CX X E)(ha:PA X (e :: es) t)
  (hst:starEach (e :: es) X.env=(false,eval e X.env) :: starEach es X.env:=by rfl) (hpl:(backTo pos (starEach es X.env)).any (·.1)=false:=by rfl)
  (ht:eval (.Call (.Attribute o m apos) (e :: es) [] pos) X.env=(do
   let ov ← eval o X.env
   standAt apos.atName
   let (f,first) ← holding [ov] (getMethod ov m pl)
   callWith pos f first (backTo pos (starEach (e :: es) X.env)) (backToKw pos (keywordEach [] X.env))):=by rfl) :
  PE X (.Call (.Attribute o m apos) (e :: es) [] pos) (tMeth C m sp dvs E ta t):=by
 intro pins s σ H Q I h
 refine PySem.W.methodCall_KW (pl:=pl) (thn (he pins s σ H _ I h) fun u s1 ⟨x,H1,I1,rx,a,dx,fs,ex,ea,l,q⟩=>?_) ht
 subst ex
 obtain rfl:u=Value.ref a:=rx
 refine rR I1 ea c hm l ?_
 refine PySem.W.callWith_K (first:=[.ref a]) (h₀:=X.base) I.ok.mod.kin hm.kp (thn (ha pos pins s1 σ H1 _ I1 q) fun us s2 ⟨vs,H2,I2,r,q2⟩=>⟨I2.kIn,?_⟩) hst hpl
 exact FW (us:=.ref a :: us) (vs:=.ref a :: vs) F hr hb hd hx I2 (.cons rfl r) q2
structure Mk (K:PySem.W.Frag)(C f:Addr):Prop where
 makes:PySem.W.makesIn K C=true
 init:PySem.W.findIn K (.ref C) "__init__" = some (some (.ref f))
 fn:PySem.W.isFn K (.ref f)=true
 kp:PySem.W.keepIn K (.ref C)=true
theorem FV {pins:dE}{σ:St}{H:Hp}{s:Shared}{Q:VK}{us:bP}{vs:List V}(M:Mk X.K C f)(F:bR X.prog X.w X.K X.mg X.base CX k f fd ps sp)(hr:eI (k + 1) X.A)(hb:eX X.K fd ps ds)(hd:aU dvs ds)
  (hx:j4 CX X E) (I:aO X pins σ H s) (r:aU vs us)
  (h:∀ x dx,H x=none->H dx=none->dx≠x->sp (.ref x :: (vs ++ dvs)) (upd (upd H dx (.own x)) x (.ins C dx [])) (fun v H2=>v = .non/\Q (.ref x) H2) E) :
  wpAny (model X.prog X.w) X.A (call (.ref C) us) (EP X pins σ Q) X.xe s:=by
 have hq:=h (s.heap.objs.size + 1) s.heap.objs.size (I.hok.fresh (Nat.le_succ _)) (I.hok.fresh (Nat.le_refl _)) (Nat.ne_of_lt (Nat.lt_succ_self _))
 have I2:=aO.made (C:=C) I
 have r2:aU (V.ref (s.heap.objs.size + 1) :: (vs ++ dvs)) (Value.ref (s.heap.objs.size + 1) :: (us ++ ds)):=.cons rfl (r.append hd)
 have hl:(Value.ref (s.heap.objs.size + 1) :: us ++ ds).length=ps.length:=by
  have e:=r2.length
  rw [F.len _ _ _ _ hq] at e
  exact e.symm
 refine wpAny_call (G4 (f:=f) I.kIn M.makes M.init (beq_iff_eq.mp M.fn) (codeAny_mono (F.run _ X.stack _ _ ⟨Value.ref (s.heap.objs.size + 1) :: us,[]⟩ (Value.ref (s.heap.objs.size + 1) :: (us ++ ds)) _ _ E (hr.make C us [])
  (I2.env0.make C us []) (hb _ (Value.ref (s.heap.objs.size + 1) :: us) I2.kIn hl) r2 hq) fun r s' hq'=>?_))
 cases r with
 | error e=>exact hx pins σ _ _ e s' I2 hq'
 | ok fl =>
  cases fl with
  | ret u =>
   obtain ⟨v,H',I3,rv,ev,q3⟩:=I2.after hq'
   subst ev
   exact ⟨rv,⟨V.ref (s.heap.objs.size + 1),H',I3,rfl,q3⟩⟩
  | next=>exact False.elim hq'
  | brk=>exact False.elim hq'
  | cont=>exact False.elim hq'
theorem JV (M:Mk X.K C f)(F:bR X.prog X.w X.K X.mg X.base CX k f fd ps sp)(hr:eI (k + 1) X.A)(hg:Gl X x)(hm:X.mg x=some (.ref C))(hb:eX X.K fd ps ds)(hd:aU dvs ds)(hx:j4 CX X E)
  (ha:PA X (e :: es) t) (hdb:(x == ("__debug__" : Str))=false:=by decide) (he:starEach (e :: es) X.env=(false,eval e X.env) :: starEach es X.env:=by rfl) (hpl:(backTo pos (starEach es X.env)).any (·.1)=false:=by rfl) :
  PE X (.Call (.Name x p) (e :: es) [] pos) (tMake C sp dvs E t):=by
 intro pins s σ H Q I h
 refine wpAny_Call_Name_kw (qI I hg hm ?_ hdb)
 refine PySem.W.callWith_K (h₀:=X.base) I.ok.mod.kin M.kp (thn (ha pos pins s σ H _ I h) fun us s1 ⟨vs,H1,I1,r,q⟩=>⟨I1.kIn,?_⟩) he hpl
 exact FV M F hr hb hd hx I1 r q
end
noncomputable def PK (X:Cx)(kws:List Keyword)(t:TA):Prop :=
 ∀ (pos:Pos) (pins:dE) (s:Shared) (σ:St) (H:Hp) (Q:List V->Hp->Prop),aO X pins σ H s->t σ H Q->wpAny (model X.prog X.w) X.A (evalAll ((backToKw pos (keywordEach kws X.env)).map (·.2))) (AP X pins σ Q) X.xe s
section
variable {X:Cx}{CX:BL}{k:Nat}{f C:Addr}{fd:FuncData}{ps ks:aQ}{sp:Sp}{E:XK}{x m:Str}{p pos apos kpos:Pos}{e o:Expr}{es:lW}{kws:List Keyword}{te ta:TE}{t tk:TA}{nm:Option Str}
theorem MP:PK X [] tNil:=fun _ _ _ _ H Q I h=>wpAny_evalAll_nil ⟨[],H,I,.nil,h⟩
theorem JQ (ha:PE X e te)(hr:PK X kws t):PK X (⟨nm,e,kpos⟩ :: kws) (tCons te t):=by
 intro pos pins s σ H Q I h
 show wpAny _ _ (evalAll ((do let v ← eval e X.env;standAt pos;pure v) :: (backToKw pos (keywordEach kws X.env)).map (·.2))) _ _ s
 refine wpAny_evalAll_cons (wpAny_bind (thn (ha pins s σ H _ I h) fun u s1 ⟨x,H1,I1,r1,q1⟩=>wpAny_bind (wpAny_standAt (wpAny_pure ?_))))
 exact thn (hr pos pins s1 σ H1 _ I1 q1) fun us s2 ⟨xs,H2,I2,r2,q2⟩=>⟨x :: xs,H2,I2,.cons r1 r2,q2⟩
variable {g:bP->bP->bP}{gV:List V->List V->List V}
end
structure aY (N P:aQ)(sc:Scope):Prop where
 kind:sc.kind = .function
 co:sc.isCoroutine=false
 gen:sc.isGenerator=false
 nd:N.Nodup
 pre:N.take P.length=P
 par:∀ x ∈ P,sc.names.lookup x=some .local∨sc.names.lookup x=some .cell
 nofree:∀ y ∈ sc.names,y.2≠.free
theorem uT {kindOf:Str->Option NameKind}{x:Str}:∀ {binds:List (Str×Value)} {m:gA},(∀ v,(x,v) ∉ binds)->bindL kindOf binds m x=m x
 | [],_,_=>rfl
 | (n,v) :: r,m,h=>by
  unfold bindL
  rw [uT fun w hw=>h w (List.mem_cons_of_mem _ hw)]
  split
  ·have:x≠n:=by rintro rfl;exact h v List.mem_cons_self
   simp [this]
  ·rfl
theorem uV {kindOf:Str->Option NameKind}{x:Str}:∀ {binds:List (Str×Value)} {m:gA},(∀ v,(x,v) ∉ binds)->bindC kindOf binds m x=m x
 | [],_,_=>rfl
 | (n,v) :: r,m,h=>by
  unfold bindC
  rw [uV fun w hw=>h w (List.mem_cons_of_mem _ hw)]
  split
  ·rfl
  ·have:x≠n:=by rintro rfl;exact h v List.mem_cons_self
   simp [this]
theorem uU {kindOf:Str->Option NameKind}{x:Str}{v:Value}:∀ {P:aQ} {vs:bP} {i:Nat} {m:gA},P.Nodup->P[i]?=some x->vs[i]?=some v->kindOf x=some .local ->
  bindL kindOf (P.zip vs) m x=some v
 | [],_,_,_,_,h,_,_=>by simp at h
 | _ :: _,[],_,_,_,_,h,_=>by simp at h
 | p :: P,w :: vs,0,m,nd,h1,h2,hk=>by
  simp at h1 h2;subst h1;subst h2
  show bindL kindOf ((p,w) :: P.zip vs) m p=_
  unfold bindL
  rw [uT fun v hv=>(List.nodup_cons.mp nd).1 (List.of_mem_zip hv).1,if_pos hk]
  simp
 | p :: P,w :: vs,i + 1,m,nd,h1,h2,hk=>by
  show bindL kindOf ((p,w) :: P.zip vs) m x=_
  unfold bindL
  exact uU (i:=i) (List.nodup_cons.mp nd).2 (by simpa using h1) (by simpa using h2) hk
theorem uW {kindOf:Str->Option NameKind}{x:Str}{v:Value}:∀ {P:aQ} {vs:bP} {i:Nat} {m:gA},P.Nodup->P[i]?=some x->vs[i]?=some v->kindOf x≠some .local ->
  bindC kindOf (P.zip vs) m x=some v
 | [],_,_,_,_,h,_,_=>by simp at h
 | _ :: _,[],_,_,_,_,h,_=>by simp at h
 | p :: P,w :: vs,0,m,nd,h1,h2,hk=>by
  simp at h1 h2;subst h1;subst h2
  show bindC kindOf ((p,w) :: P.zip vs) m p=_
  unfold bindC
  rw [uV fun v hv=>(List.nodup_cons.mp nd).1 (List.of_mem_zip hv).1,if_neg hk]
  simp
 | p :: P,w :: vs,i + 1,m,nd,h1,h2,hk=>by
  show bindC kindOf ((p,w) :: P.zip vs) m x=_
  unfold bindC
  exact uW (i:=i) (List.nodup_cons.mp nd).2 (by simpa using h1) (by simpa using h2) hk
noncomputable def start (N:aQ)(vs:List V):St:=vs.map some ++ List.replicate (N.length - vs.length) none
noncomputable def cxOf (CX:BL)(P:Program)(w:World)(K:PySem.W.Frag)(mg:gA)(base:Heap)(N:aQ)(qual:Str)(scope:Scope)(f:Addr)(cd:Value)(A:Around)(outer:List Env)(s:Shared)(H:Hp)(E:XK):Cx where
 prog:=P
 w:=w
 K:=K
 mg:=mg
 base:=base
 A:=A.deeper (envOfC qual scope s.heap.objs.size f cd)
 N:=N
 s₀:=s
 H₀:=H
 env:=envOfC qual scope s.heap.objs.size f cd
 outer:=outer
 stack:=envOfC qual scope s.heap.objs.size f cd :: outer
 ex:=[]
 calm:=true
 fn:=fun _=>true
 pn:=[]
 xe:=fun e s'=>wpAny (model P w) (A.deeper (envOfC qual scope s.heap.objs.size f cd)) (leaving (envOfC qual scope s.heap.objs.size f cd) e) (fun _ s''=>CX outer H s E e s'') (fun e' s''=>CX outer H s E e' s'') s'
theorem y6 {sc:Scope}{n:Nat}{x:Str}(h:sc.names.lookup x=some .cell):∃ c,(cellsFrom n sc.names []).lookup x=some c:=by
 have q:=PySem.W.cellsFrom_some sc.names n [] (.inl h)
 exact Option.isSome_iff_exists.mp q
theorem EB {CX:BL}{P:Program}{w:World}{K:PySem.W.Frag}{mg:gA}{base:Heap}{N ps:aQ}{qual:Str}{scope:Scope}{f:Addr}{cd:Value}{A:Around}{outer:List Env}{s s1:Shared}{H:Hp}{E:XK}{us:bP}{vs:List V}
  (S:aY N ps scope) (hd:A.handled=none) (e0:xD P w K mg base A outer s H) (hl:vs.length=ps.length) (r:aU vs us)
  (x:InCallC s s.heap.objs.size (bindL (envOfC qual scope s.heap.objs.size f cd).kindOf (ps.zip us) fun _=>none) (cellsFrom (s.heap.objs.size + 1) scope.names []) (bindC (envOfC qual scope s.heap.objs.size f cd).kindOf (ps.zip us) fun _=>none) s1) :
  aO (cxOf CX P w K mg base N qual scope f cd A outer s H E) [] (start N vs) H s1:=by
 have hpl:ps.length<=N.length:=by have:=congrArg List.length S.pre;rw [List.length_take] at this;omega
 obtain ⟨h1,tk,rfl,hk⟩:=x.done
 have noA:∀ b:Addr,b ∉ (cxOf CX P w K mg base N qual scope f cd A outer s H E).ex:=fun b z=>absurd (show b ∈ ([]:List Addr) from z) (by simp)
 refine ⟨⟨e0.mod,S.kind,rfl,rfl,Nat.le_refl _,fun y z c h1 h2=>?_,fun y hy=>?_,fun y c _ h=>?_,fun _=>hd,Around.frames_deeper e0.frames,.inr ⟨rfl,rfl⟩,fun b z=>absurd z (noA b),e0.bs,e0.bsz,fun b _ _=>noA b,fun b z=>absurd z (noA b),e0.funs,e0.frf⟩,
  rfl,e0.bare,Un.kept hk,⟨_,x.toInCall.ns,fun i y v h1 h2 h3=>?_⟩,fun y c h=>⟨_,x.cell y c h⟩,e0.hok.fresh (Nat.le_refl _),fun y c h=>?_,fun p hp=>absurd (show p ∈ ([]:dE) from hp) (by simp),e0.hok.kept hk,?_⟩
 ·exact name_of_addr x.apart (PySem.mem_of_lookup h1) (PySem.mem_of_lookup h2)
 ·have hy:scope.names.lookup y=some .cell∨scope.names.lookup y=some .free:=hy
  rcases hy with hy | hy
  ·exact y6 hy
  ·exact absurd rfl (S.nofree _ (PySem.mem_of_lookup hy))
 ·exact Nat.le_of_lt (x.above y c (PySem.mem_of_lookup h))
 ·have hi:i < vs.length:=by
   unfold start at h2
   by_cases hi:i < vs.length
   ·exact hi
   ·rw [List.getElem?_append_right (by simpa using hi)] at h2
    rw [List.getElem?_replicate] at h2
    split at h2 <;> cases h2
  have ha:vs[i]?=some v:=by
   unfold start at h2
   rw [List.getElem?_append_left (by simpa using hi),List.getElem?_map] at h2
   cases e:vs[i]? with
   | none=>rw [e] at h2;cases h2
   | some a=>rw [e] at h2;cases h2;rfl
  obtain ⟨u,hu,rv⟩:=r.get ha
  have hp:ps[i]?=some y:=by
   rw [← S.pre,List.getElem?_take_of_lt (by omega)];exact h1
  have ndP:ps.Nodup:=by rw [← S.pre];exact S.nd.sublist (List.take_sublist _ _)
  refine ⟨u,rv,?_⟩
  rcases S.par y (List.mem_of_getElem? hp) with k | k
  ·exact .inl ⟨k,uU ndP hp hu k⟩
  ·obtain ⟨c,e⟩:=y6 (n:=s.heap.objs.size + 1) k
   refine .inr ⟨.inl k,c,e,?_⟩
   have q:=x.cell y c e
   rw [uW ndP hp hu (by show scope.names.lookup y≠_;rw [k];decide)] at q
   exact q
 ·exact e0.hok.fresh (Nat.le_of_lt (x.above y c (PySem.mem_of_lookup h)))
 ·unfold start
  show _=N.length
  rw [List.length_append,List.length_map,List.length_replicate]
  omega
theorem LY {CX:BL}{P:Program}{w:World}{K:PySem.W.Frag}{mg:gA}{base:Heap}{k:Nat}{f:Addr}{name qual:Str}{params:Arguments}{body:List Stmt}{scope:Scope}{dV kV doc pm cdv ct oc:Value}{an od:Option Addr}
  {osl:Array (Option Value)} {N ps:aQ} {sp:Sp} (lk:K.lookup f=some ⟨oc,od,.func (PySem.W.fnOf name qual params body scope dV kV doc pm an cdv ct),osl⟩) (hcd:PySem.W.codeIn K cdv qual=true) (S:aY N ps scope)
  (len:∀ vs H Q E,sp vs H Q E->vs.length=ps.length)
  (hbody:∀ (A:Around) (outer:List Env) (s:Shared) (H:Hp) (vs:List V) (Q:VK) (E:XK),eI k (A.deeper (envOfC qual scope s.heap.objs.size f cdv))->sp vs H Q E ->
   ∃ t,C0 (cxOf CX P w K mg base N qual scope f cdv A outer s H E) body t/\t { nx:=fun _ H'=>Q .non H',rt:=Q } (start N vs) H) :
  bR P w K mg base CX (k + 1) f (PySem.W.fnOf name qual params body scope dV kV doc pm an cdv ct) ps sp:=by
 refine ⟨len,fun A outer s H args us vs Q E hr e0 hb r hsp=>?_⟩
 have hl:=len _ _ _ _ hsp
 have KX:K.In s.heap:=e0.mod.kin.keeps fun b o e=>(e0.bs b o e).1
 have lim:s.heap.NoLimit:=e0.mod.nolimit.keeps fun b o e=>(e0.bs b o e).1
 have hkind:∀ y ∈ ps.zip us,scope.names.lookup y.1=some .local∨(scope.names.lookup y.1=some .cell/\((cellsFrom (s.heap.objs.size + 1) scope.names []).lookup y.1).isSome=true):=fun ⟨n,v⟩ hy=>by
  rcases S.par n (List.of_mem_zip hy).1 with q | q
  ·exact .inl q
  ·exact .inr ⟨q,PySem.W.cellsFrom_some _ _ _ (.inl q)⟩
 refine codeAny_call_function hr.depth (KX _ _ lk) rfl S.co S.gen rfl (PySem.W.codeRec_of KX hcd) (hb _ _ _ _ ?_)
 refine wpAny_newFunctionEnv_cells S.kind hkind fun env he s1 x=>?_
 subst he
 refine ⟨lim.keeps x.toInCall.keep,codeAny_func ?_⟩
 obtain ⟨t,ht,hq⟩:=hbody A outer s H vs Q E (hr.deeper _) hsp
 have I:aO (cxOf CX P w K mg base N qual scope f cdv A outer s H E) [] (start N vs) H s1:=EB S hr.hd e0 hl r x
 refine wpAny_mono (ht [] s1 (start N vs) H _ I hq) (fun fl s' hs=>?_) fun e s' hs=>hs
 have fin:∀ {σ':St} {H':Hp} {v:V} {u:Value},aO (cxOf CX P w K mg base N qual scope f cdv A outer s H E) [] σ' H' s'->aX v u->Q v H'->CE outer P w H s Q u s' :=
  fun {σ' H' v u} J rv q=>⟨v,H',J.os,J.bare,J.base,J.hok,rv,q⟩
 cases fl with
 | ret u =>
  obtain ⟨v,σ',H',J,rv,q⟩:=hs
  exact fin J rv q
 | next =>
  obtain ⟨σ',H',J,q⟩:=hs
  exact fin (v:=V.non) (u:=Value.none) J rfl q
 | brk =>
  obtain ⟨_,_,_,q⟩:=hs
  exact False.elim q
 | cont =>
  obtain ⟨_,_,_,q⟩:=hs
  exact False.elim q
section
variable {X:Cx}{x:Str}{p pos:Pos}{e:Expr}{es:lW}{t:TA}{id T:String}{r:List V->Hp->VK->Prop}
noncomputable def tCB (r:List V->Hp->VK->Prop)(t:TA):TE:=fun σ H Q=>t σ H fun vs H1=>r vs H1 Q
theorem aK (hc:cR X (.builtin id) r)(hg:Gl X x)(hm:X.mg x=none)(hv:bootBuiltins x=some (.builtin id))(ha:PA X (e :: es) t)(hn:x≠"__name__":=by decide)(hdb:(x == ("__debug__" : Str))=false:=by decide)
  (he:starEach (e :: es) X.env=(false,eval e X.env) :: starEach es X.env:=by rfl) (hpl:(backTo pos (starEach es X.env)).any (·.1)=false:=by rfl):PE X (.Call (.Name x p) (e :: es) [] pos) (tCB r t):=by
 intro pins s σ H Q I h
 refine wpAny_Call_Name_kw (kO I hg hm hv ?_ hn hdb)
 exact PyProof.Rows.callWith_builtin1 (thn (ha pos pins s σ H _ I h) fun us s1 ⟨vs,H1,I1,r1,q1⟩=>hc pins s1 σ H1 vs us Q I1 r1 q1) he hpl
theorem bZ (hc:cR X (.type T) r)(hg:Gl X x)(hm:X.mg x=none)(hv:bootBuiltins x=some (.type T))(ha:PA X (e :: es) t)(hn:x≠"__name__":=by decide)(hdb:(x == ("__debug__" : Str))=false:=by decide)
  (he:starEach (e :: es) X.env=(false,eval e X.env) :: starEach es X.env:=by rfl) (hpl:(backTo pos (starEach es X.env)).any (·.1)=false:=by rfl):PE X (.Call (.Name x p) (e :: es) [] pos) (tCB r t):=by
 intro pins s σ H Q I h
 refine wpAny_Call_Name_kw (kO I hg hm hv ?_ hn hdb)
 exact PyProof.Rows.callWith_type1 (thn (ha pos pins s σ H _ I h) fun us s1 ⟨vs,H1,I1,r1,q1⟩=>hc pins s1 σ H1 vs us Q I1 r1 q1) he hpl
end
end L2
namespace HT
open PySem PyProof.Rows
noncomputable def lexLt:List Int->List Int->Bool
 | [],[]=>false
 | [],_ :: _=>true
 | _ :: _,[]=>false
 | x :: xs,y :: ys=>if x=y then lexLt xs ys else decide (x < y)
theorem lexLt_cons (x y:Int)(xs ys:List Int):lexLt (x :: xs) (y :: ys)=if x=y then lexLt xs ys else decide (x < y):=rfl
theorem eqAt_int (A:Around)(s:Shared)(a:Int)(t:Tok)(c:Int)(u:Tok):∃ e,SeqAt.EqAt A s (.int a t) (.int c u) e/\(e=true ↔ a=c) :=
 ⟨(a == c),SeqAt.EqAt.int_int a t c u,by simp⟩
theorem rcLt_int (A:Around)(s:Shared)(a:Int)(t:Tok)(c:Int)(u:Tok)(prog:Program)(w:World)(E:bX)(Q:bX)(h:Q (.bool (decide (a < c))) s) :
  wpAny (model prog w) A (richCompare .Lt (.int a t) (.int c u)) Q E s :=
 (PyProof.Rows.lt_int h:wpAny (model prog w) A (compareOp .Lt (.int a t) (.int c u)) Q E s)
section
open PySem.SeqAt
open PySem.AutoSeq1 (wpAny_loadPart')
open PySem.MeetsSeq PySem.MeetsSeq2 PySem.MeetsSeq3
end
section
variable {prog:Program}{w:World}{A:Around}{E:bX}{s:Shared}
theorem cat_tup {t b:Addr}{vs ws:bP}{Q:bX}(ht:IsTup s.heap t vs.toArray)(hb:IsTup s.heap b ws.toArray)(hv:vs≠[])
  (h1:ws=[]->Q (.ref t) s) (h2:ws≠[]->Q (.ref s.heap.objs.size) { s with heap:=s.heap.push { cls:=.type "tuple",data:=.seq (vs ++ ws).toArray } })
  (hsz:vs.length + ws.length<=sizeLine):wpAny (model prog w) A (binaryOp .Add (.ref t) (.ref b)) Q E s:=by
 obtain ⟨⟨cls,dd,data,sl⟩,ho,hc,n,hd⟩:=id ht
 obtain ⟨⟨cls2,dd2,data2,sl2⟩,ho2,hc2,n2,hd2⟩:=id hb
 simp only at hc hd hc2 hd2
 subst hc hd hc2 hd2
 have e:vs.toArray ++ ws.toArray=(vs ++ ws).toArray:=by simp
 by_cases hw:ws=[]
 ·exact concat_meets ⟨_,ho,rfl⟩ ⟨_,ho2,rfl⟩ noFill_tuple_add seq_tuple_add PySem.F.slot_tuple_add PySem.F.entry_tuple_add (PySem.F.args_tuple_add_2 _ _)
   (tuple_addW1 t b vs.toArray ws.toArray n n2 dd dd2 sl sl2 (by simpa using hv) (by simp [hw])) ⟨ho,ho2,h1 hw⟩
 ·refine concat_meets ⟨_,ho,rfl⟩ ⟨_,ho2,rfl⟩ noFill_tuple_add seq_tuple_add PySem.F.slot_tuple_add PySem.F.entry_tuple_add (PySem.F.args_tuple_add_2 _ _)
   (tuple_addW2 t b vs.toArray ws.toArray n n2 dd dd2 sl sl2 (by simpa using hv) (by simpa using hw) (by rw [List.size_toArray,List.size_toArray];exact hsz)) ⟨ho,ho2,?_⟩
  rw [e]
  exact h2 hw
noncomputable def sIx (n d:Nat):Option Int->Nat
 | none=>d
 | some v=>if v < 0 then (v + (n:Int)).toNat else min v.toNat n
theorem sIx_none (n d:Nat):sIx n d none=d:=rfl
theorem sIx_nat (n d k:Nat):sIx n d (some (k:Int))=min k n:=by
 show (if (k:Int) < 0 then ((k:Int) + (n:Int)).toNat else min (k:Int).toNat n)=min k n
 rw [if_neg (by omega),Int.toNat_natCast]
theorem MN (n d:Nat)(hd:d<=n)(o:Option Int):sIx n d o<=n:=by
 cases o with
 | none=>exact hd
 | some v =>
  show (if v < 0 then (v + (n:Int)).toNat else min v.toNat n)<=n
  by_cases hv:v < 0
  ·rw [if_pos hv];omega
  ·rw [if_neg hv];exact Nat.min_le_right _ _
theorem CV (v:Int)(n d:Nat):(if v < 0 then max (v + (n:Int)) 0 else min v (n:Int))=((sIx n d (some v):Nat):Int):=by
 show (if v < 0 then max (v + (n:Int)) 0 else min v (n:Int))=(((if v < 0 then (v + (n:Int)).toNat else min v.toNat n):Nat):Int)
 by_cases hv:v < 0
 ·simp only [if_pos hv];omega
 ·simp only [if_neg hv];omega
theorem BF (lo hi:Option Int)(n:Nat):Builtin.Slice.sliceAdjust lo hi 1 (n:Int)=(((sIx n 0 lo:Nat):Int),((sIx n n hi:Nat):Int)):=by
 have h1:¬ ((1:Int) < 0):=by omega
 unfold Builtin.Slice.sliceAdjust
 simp only [h1,if_false]
 refine Prod.ext ?_ ?_
 ·cases lo with
  | none=>rfl
  | some v=>exact CV v n 0
 ·cases hi with
  | none=>rfl
  | some v=>exact CV v n n
theorem zZ (i j:Nat):Builtin.Slice.slicePlaces (i:Int) (j:Int) 1=j - i:=by
 unfold Builtin.Slice.slicePlaces
 have h1:(1:Int) > 0:=by omega
 simp only [h1,if_true,Int.ediv_one]
 split <;> omega
theorem slicePart_ {v:Value}{o:Option Int}{Q:Option Int->Shared->Prop}(p:IsPart v o)(h:Q o s):wpAny (model prog w) A (Builtin.Slice.slicePartIndex v) Q E s:=by
 cases p with
 | none=>exact slicePart_none h
 | int i t=>exact slicePart_int h
theorem oU {sl:Addr}{vl vu:Value}{lo hi:Option Int}{n:Nat}{Q:Int×Int×Nat->Shared->Prop}(hs:s.heap.IsSliceOf sl vl vu .none)(pl:IsPart vl lo)(pu:IsPart vu hi)
  (h:Q (((sIx n 0 lo:Nat):Int),1,sIx n n hi - sIx n 0 lo) s):wpAny (model prog w) A (Builtin.Slice.sliceApplied (.ref sl) (pure (n:Int))) Q E s:=by
 obtain ⟨os,hos,hcs,hds⟩:=id hs
 unfold Builtin.Slice.sliceApplied Builtin.Slice.sliceFields
 refine wpAny_bind (wpAny_bind (wpAny_field hos hds (x:=vl) rfl (wpAny_bind (wpAny_field hos hds (x:=vu) rfl (wpAny_bind (wpAny_field hos hds (x:=.none) rfl (wpAny_pure ?_)))))))
 refine wpAny_bind (slicePart_none ?_)
 show wpAny _ _ (if ((1:Int) == 0)=true then _ else _) _ _ s
 rw [if_neg (by decide)]
 refine wpAny_bind (slicePart_ pl (wpAny_bind (slicePart_ pu (wpAny_bind (wpAny_pure ?_)))))
 show wpAny _ _ (match Builtin.Slice.sliceAdjust lo hi 1 (n:Int) with | (lo,hi)=>pure (lo,(1:Int),Builtin.Slice.slicePlaces lo hi 1)) _ _ s
 rw [BF lo hi n]
 show wpAny _ _ (pure (((sIx n 0 lo:Nat):Int),(1:Int),Builtin.Slice.slicePlaces ((sIx n 0 lo:Nat):Int) ((sIx n n hi:Nat):Int) 1)) _ _ s
 rw [zZ]
 exact wpAny_pure h
theorem F0 (xs:iA)(i k:Nat):((List.range k).filterMap fun (m:Nat)=>xs[((i:Int) + (m:Int) * 1).toNat]?).toArray=((xs.toList.drop i).take k).toArray:=by
 have e:(fun (m:Nat)=>xs[((i:Int) + (m:Int) * 1).toNat]?)=fun m=>xs[i + m]?:=by
  funext m
  have:((i:Int) + (m:Int) * 1).toNat=i + m:=by omega
  rw [this]
 rw [e]
 have:=pick_run xs i k
 rw [List.filterMap_map] at this
 have e2:((fun x=>xs[x]?) ∘ fun x=>i + x)=fun m=>xs[i + m]?:=rfl
 rw [e2] at this
 rw [this]
theorem getItem_tuple_cut {t sl:Addr}{items:iA}{vl vu:Value}{lo hi:Option Int}{Q:bX}(ht:IsTup s.heap t items)(hs:s.heap.IsSliceOf sl vl vu .none)(pl:IsPart vl lo)(pu:IsPart vu hi)
  (hw:¬ (sIx items.size 0 lo=0/\sIx items.size items.size hi=items.size))
  (h:Q (.ref s.heap.objs.size) { s with heap:=s.heap.push { cls:=.type "tuple",data:=.seq ((items.toList.drop (sIx items.size 0 lo)).take (sIx items.size items.size hi - sIx items.size 0 lo)).toArray } })
  (hsz:items.size<=sizeLine):wpAny (model prog w) A (getItem (.ref t) (.ref sl)) Q E s:=by
 have htake:sizeOk (.seq ((items.toList.drop (sIx items.size 0 lo)).take (sIx items.size items.size hi - sIx items.size 0 lo)).toArray):=by
  show ((items.toList.drop (sIx items.size 0 lo)).take (sIx items.size items.size hi - sIx items.size 0 lo)).toArray.size<=sizeLine
  rw [List.size_toArray,List.length_take,List.length_drop,Array.length_toList]
  omega
 have hj:sIx items.size items.size hi<=items.size:=MN _ _ (Nat.le_refl _) hi
 obtain ⟨os,hos,hcs,hds⟩:=id hs
 have hTs:s.TypeIs (.ref sl) "slice":=⟨os,hos,hcs⟩
 unfold getItem
 try with_reducible refine wpAny_holding ?_
 first | refine wpAny_bind (wpAny_pure ?_) | skip
 refine wpAny_bind (wpAny_sequenceKey ht.typeIs (by decide) ?_)
 refine wpAny_bind (wpAny_callSpecial?_slot (name:=Str.ofString "__getitem__") ht.typeIs PyProof.Rows.slot_tuple_getitem
  (wpAny_call_entry PyProof.Rows.slot_tuple_getitem ht.typeIs entry_tuple_getitem ?_ (args_tuple_getitem _ _)))
 show wpAny _ _ (Builtin.Tuple.tupleItemsOf (.ref t) >>= _) _ _ s
 refine wpAny_bind (tupleItemsOf_ ht ?_)
 refine wpAny_bind (wpAny_typeOf hTs ?_)
 rw [if_pos (by decide)]
 refine wpAny_bind (oU hs pl pu ?_)
 have hno:¬ ((((sIx items.size 0 lo:Nat):Int) == 0 && (1:Int) == 1 && (sIx items.size items.size hi - sIx items.size 0 lo) == items.size)=true):=by
  intro q
  rw [Bool.and_eq_true,Bool.and_eq_true] at q
  have q1:((sIx items.size 0 lo:Nat):Int)=0:=eq_of_beq q.1.1
  have q2:sIx items.size items.size hi - sIx items.size 0 lo=items.size:=eq_of_beq q.2
  exact hw ⟨by omega,by omega⟩
 show wpAny _ _ (if (((sIx items.size 0 lo:Nat):Int) == 0 && (1:Int) == 1 && (sIx items.size items.size hi - sIx items.size 0 lo) == items.size)=true then _ else _) _ _ s
 rw [if_neg hno,F0]
 first
  | exact wpAny_bind (m:=Builtin.Tuple.tupleExact _) (wpAny_newObj_type (wpAny_pure ⟨_,rfl,wpAny_pure h⟩) htake)
  | exact wpAny_bind (m:=Builtin.Tuple.tupleExact _) (wpAny_newObj_type (wpAny_bind (wpAny_pure (wpAny_pure ⟨_,rfl,wpAny_pure h⟩))) htake)
  | exact wpAny_bind (wpAny_bind (m:=Builtin.Tuple.tupleExact _) (wpAny_newObj_type (wpAny_pure (wpAny_pure ⟨_,rfl,wpAny_pure h⟩)) htake))
  | exact wpAny_bind (wpAny_bind (m:=Builtin.Tuple.tupleExact _) (wpAny_newObj_type (wpAny_pure ⟨_,rfl,wpAny_pure h⟩) htake))
end
end HT
namespace L2
open PySem PySem.Spec PyProof.Rows
noncomputable abbrev TO:=St->Hp->(Option Int->Hp->Prop)->Prop
noncomputable def PO (X:Cx)(e:Option Expr)(t:TO):Prop :=
 ∀ (pins:dE) (s:Shared) (σ:St) (H:Hp) (Q:Option Int->Hp->Prop),aO X pins σ H s->t σ H Q ->
  wpAny (model X.prog X.w) X.A (evalPart e X.env) (fun u s'=>∃ o H',aO X pins σ H' s'/\IsPart u o/\Q o H') X.xe s
noncomputable def tNoPart:TO:=fun _ H Q=>Q none H
noncomputable def tPart (t:TE):TO:=fun σ H Q=>t σ H fun x H1=>∃ i,x = .int i/\Q (some i) H1
theorem rO {ns:List Int}:∀ {us:bP},aU (ns.map V.int) us->IntsAre us ns:=by
 induction ns with
 | nil=>intro us r;rw [List.map_nil] at r;cases r;exact .nil
 | cons n ns ih =>
  intro us r
  rw [List.map_cons] at r
  cases r with
  | cons r1 r2 =>
   obtain ⟨t,e⟩:=r1
   subst e
   exact .cons n t (ih r2)
section
variable {X:Cx}{e:Expr}{te:TE}{lo hi:Option Expr}{tl th:TO}{pos p2:Pos}
theorem eU:PO X none tNoPart:=by
 intro pins s σ H Q I h
 rw [evalPart_none]
 exact wpAny_pure ⟨none,H,I,.none,h⟩
theorem d8 (h:PE X e te):PO X (some e) (tPart te):=by
 intro pins s σ H Q I hw
 rw [evalPart_some]
 refine thn (h pins s σ H _ I hw) fun u s1 ⟨x,H1,I1,r1,q1⟩=>?_
 obtain ⟨i,rfl,q⟩:=q1
 obtain ⟨t,rfl⟩:=r1
 exact ⟨some i,H1,I1,.int i t,q⟩
noncomputable def OL (X:Cx)(r:V->Option Int->Option Int->Hp->VK->Prop):Prop :=
 ∀ (pins:dE) (s:Shared) (σ:St) (H:Hp) (x:V) (v vl vu:Value) (lo hi:Option Int) (sl:Addr) (Q:VK),aO X pins σ H s->aX x v->s.heap.IsSliceOf sl vl vu .none->IsPart vl lo->IsPart vu hi->r x lo hi H Q ->
  ∃ T id,typeLookup (.type T) "__getitem__" = pure (some (.builtin id))/\s.TypeIs v T/\wpAny (model X.prog X.w) X.A (getItem v (.ref sl)) (EP X pins σ Q) X.xe s
noncomputable def tSl (r:V->Option Int->Option Int->Hp->VK->Prop)(te:TE)(tl th:TO):TE:=fun σ H Q=>te σ H fun x H1=>tl σ H1 fun l H2=>th σ H2 fun u H3=>r x l u H3 Q
theorem eN {r:V->Option Int->Option Int->Hp->VK->Prop}(hr:OL X r)(he:PE X e te)(hl:PO X lo tl)(hu:PO X hi th):PE X (.Subscript e (.Slice lo hi none p2) pos) (tSl r te tl th):=by
 intro pins s σ H Q I h
 refine Subscript_ (thn (he pins s σ H _ I h) fun v s1 ⟨x,H1,I1,r1,q1⟩=>?_)
 refine wpAny_Slice (thn (hl pins s1 σ H1 _ I1 q1) fun vl s2 ⟨l,H2,I2,pl,q2⟩=>thn (hu pins s2 σ H2 _ I2 q2) fun vu s3 ⟨u,H3,I3,pu,q3⟩=>?_)
 rw [evalPart_none]
 refine wpAny_pure ?_
 have I4:aO X pins σ H3 { s3 with heap:=s3.heap.push { cls:=.type "slice",data:=.fields #[vl,vu,.none] } }:=I3.kept (t':=s3.toks) fun b ob q=>Heap.get?_push_of_some _ q
 obtain ⟨T,id,hT,ht,hg⟩:=hr pins { s3 with heap:=s3.heap.push { cls:=.type "slice",data:=.fields #[vl,vu,.none] } } σ H3 x v vl vu l u s3.heap.objs.size Q I4 r1 (Heap.IsSliceOf.new ..) pl pu q3
 show wpAny (model X.prog X.w) X.A (subscriptTail e (.Slice lo hi none p2) v (.ref s3.heap.objs.size)) (EP X pins σ Q) X.xe { s3 with heap:=s3.heap.push { cls:=.type "slice",data:=.fields #[vl,vu,.none] } }
 exact tail_any (ops:=[.ref s3.heap.objs.size,v]) ht hT hg (by with_unfolding_all rfl)
noncomputable def cutV (xs:List V)(lo hi:Option Int):List V:=(xs.drop (HT.sIx xs.length 0 lo)).take (HT.sIx xs.length xs.length hi - HT.sIx xs.length 0 lo)
theorem pV (xs:List V)(lo hi:Option Int):(cutV xs lo hi).length<=xs.length:=by
 unfold cutV
 rw [List.length_take,List.length_drop]
 omega
noncomputable def rSlT (K:PySem.W.Frag):V->Option Int->Option Int->Hp->VK->Prop:=fun x lo hi H Q=>∃ a xs,x = .ref a/\h8 K H a xs /\
 ¬ (HT.sIx xs.length 0 lo=0/\HT.sIx xs.length xs.length hi=xs.length)/\∀ p,H p=none->Q (.ref p) (upd H p (.tup (cutV xs lo hi)))
theorem ML:OL X (rSlT X.K):=by
 intro pins s σ H x v vl vu lo hi sl Q I rx hs pl pu h
 obtain ⟨a,xs,rfl,hx,hw,q⟩:=h
 cases rx
 obtain ⟨its,r,ht,hz⟩:=I.tuple hx
 have hlen:its.toArray.size=xs.length:=by rw [List.size_toArray];exact r.length.symm
 refine ⟨"tuple",_,PyProof.Rows.slot_tuple_getitem.lookup,ht.typeIs,?_⟩
 refine HT.getItem_tuple_cut ht hs pl pu (by rw [hlen];exact hw) ?_ (by rw [hlen];exact hz)
 rw [hlen]
 refine ⟨.ref s.heap.objs.size,_,I.laid (t':=s.toks) (o:=.tup (cutV xs lo hi)) (fun b ob q=>Heap.get?_push_of_some _ q) (Nat.le_refl _) ?_,rfl,q _ (I.hok.fresh (Nat.le_refl _))⟩
 exact ⟨Nat.le_trans (pV xs lo hi) hz,_,(r.drop (HT.sIx xs.length 0 lo)).take (HT.sIx xs.length xs.length hi - HT.sIx xs.length 0 lo),IsTup.new _ _⟩
noncomputable def rCatT (K:PySem.W.Frag):R2:=fun x y H Q=>∃ a b xs ys,x = .ref a/\y = .ref b/\h8 K H a xs/\h8 K H b ys/\xs≠[]/\xs.length + ys.length<=sizeLine /\
 (ys=[]->Q (.ref a) H)/\(ys≠[]->∀ p,H p=none->Q (.ref p) (upd H p (.tup (xs ++ ys))))
theorem aU.nil_iff {xs:List V}{us:bP}(r:aU xs us):us=[] ↔ xs=[]:=by
 cases r with
 | nil=>simp
 | cons _ _=>simp
theorem J7:iZ X (binaryOp .Add) (rCatT X.K):=by
 intro pins s σ H x y v u Q I rx ry h
 obtain ⟨a,b,xs,ys,rfl,rfl,ha,hb,hx,hz,q1,q2⟩:=h
 cases rx
 cases ry
 obtain ⟨its,r1,p1,_⟩:=I.tuple ha
 obtain ⟨its2,r2,p2,_⟩:=I.tuple hb
 refine HT.cat_tup p1 p2 (fun z=>hx (r1.nil_iff.mp z)) (fun z=>⟨.ref a,H,I,rfl,q1 (r2.nil_iff.mp z)⟩) (fun z=>?_) (by rw [← r1.length,← r2.length];exact hz)
 refine ⟨.ref s.heap.objs.size,_,I.laid (t':=s.toks) (o:=.tup (xs ++ ys)) (fun b ob q=>Heap.get?_push_of_some _ q) (Nat.le_refl _) ?_,rfl,q2 (fun w=>z (r2.nil_iff.mpr w)) _ (I.hok.fresh (Nat.le_refl _))⟩
 exact ⟨by rw [List.length_append];exact hz,_,r1.append r2,IsTup.new _ _⟩
end
noncomputable def ixN (n:Nat)(i:Int):Option Nat:=if 0<=i then (if i < n then some i.toNat else none) else if -(n:Int)<=i then some (i + n).toNat else none
noncomputable def atI {α:Type}(xs:List α)(i:Int):Option α:=(ixN xs.length i).bind fun j=>xs[j]?
theorem CL {n:Nat}{i:Int}{j:Nat}(h:ixN n i=some j):seqIndex? i n=some j/\j < n/\-(n:Int)<=i/\i < n:=by
 unfold ixN at h
 by_cases h0:0<=i
 ·rw [if_pos h0] at h
  by_cases h1:i < n
  ·rw [if_pos h1] at h
   have e:i.toNat=j:=Option.some.inj h
   exact ⟨by rw [seqIndex_of h0 h1,e],by omega,by omega,h1⟩
  ·rw [if_neg h1] at h;cases h
 ·rw [if_neg h0] at h
  by_cases h1 : -(n:Int)<=i
  ·rw [if_pos h1] at h
   have e:(i + n).toNat=j:=Option.some.inj h
   exact ⟨by rw [seqIndex_neg (by omega) h1,e],by omega,h1,by omega⟩
  ·rw [if_neg h1] at h;cases h
theorem w5 {α:Type}{xs:List α}{i:Int}{v:α}(h:atI xs i=some v):∃ j,seqIndex? i xs.length=some j/\xs[j]?=some v/\j < xs.length/\-(xs.length:Int)<=i/\i < xs.length:=by
 unfold atI at h
 cases e:ixN xs.length i with
 | none=>rw [e] at h;cases h
 | some j =>
  rw [e] at h
  obtain ⟨h1,h2,h3,h4⟩:=CL e
  exact ⟨j,h1,h,h2,h3,h4⟩
theorem CY {α:Type}{xs:List α}{j:Nat}{v:α}(h:xs[j]?=some v):atI xs (j:Int)=some v:=by
 have hj:j < xs.length:=(List.getElem?_eq_some_iff.mp h).1
 have e:ixN xs.length (j:Int)=some j:=by
  unfold ixN
  rw [if_pos (by omega),if_pos (by omega)];simp
 unfold atI;rw [e];exact h
noncomputable def LL (b:Expr):Prop:=∀ o i,subscripted b false o i=operate [o,i] (getItem o i)
noncomputable def IS (X:Cx)(r:R2):Prop :=
 ∀ (value slice:Expr) (pins:dE) (s:Shared) (σ:St) (H:Hp) (x y:V) (v u:Value) (Q:VK),aO X pins σ H s->aX x v->aX y u->r x y H Q ->
  subscripted slice false v u=operate [v,u] (getItem v u)->wpAny (model X.prog X.w) X.A (subscriptTail value slice v u) (EP X pins σ Q) X.xe s
noncomputable def O2 (X:Cx)(id:String)(r:V->List V->Hp->VK->Prop):Prop :=
 ∀ (pins:dE) (s:Shared) (σ:St) (H:Hp) (x:V) (xs:List V) (v:Value) (us:bP) (Q:VK),aO X pins σ H s->aX x v->aU xs us->r x xs H Q ->
  wpAny (model X.prog X.w) X.A (call (.builtin id) (v :: us)) (EP X pins σ Q) X.xe s
section
variable {X:Cx}{a b:Expr}{ta tb:TE}{pos:Pos}
theorem IS.or {r r':R2}(h:IS X r)(h':IS X r'):IS X (fun x y H Q=>r x y H Q∨r' x y H Q):=by
 intro value slice pins s σ H x y v u Q I rx ry q hs
 rcases q with q | q
 ·exact h value slice pins s σ H x y v u Q I rx ry q hs
 ·exact h' value slice pins s σ H x y v u Q I rx ry q hs
theorem bN {r:R2}(hr:IS X r)(ha:PE X a ta)(hb:PE X b tb)(hs:LL b):PE X (.Subscript a b pos) (tOp r ta tb):=by
 intro pins s σ H Q I h
 exact Subscript_ (binT ha hb I h fun v u s2 x y H2 I2 rx ry q=>hr a b pins s2 σ H2 x y v u Q I2 rx ry q (hs _ _))
noncomputable def rIxL (K:PySem.W.Frag):R2:=fun x y H Q=>∃ p xs i v,x = .ref p/\y = .int i/\eA K H p xs/\atI xs i=some v/\Q v H
noncomputable def rIxT (K:PySem.W.Frag):R2:=fun x y H Q=>∃ p xs i v,x = .ref p/\y = .int i/\h8 K H p xs/\atI xs i=some v/\Q v H
noncomputable def rIxS:R2:=fun x y H Q=>∃ z i c,x = .str z/\y = .int i/\z.length<=sizeLine/\atI z.cps.toList i=some c/\Q (.str ⟨#[c]⟩) H
theorem K1:IS X (rIxL X.K):=by
 intro value slice pins s σ H x y v u Q I rx ry h hs
 obtain ⟨p,xs,i,z,rfl,rfl,hq,he,q⟩:=h
 cases rx
 obtain ⟨t,rfl⟩:=ry
 obtain ⟨its,r,pl,hz⟩:=I.list hq
 obtain ⟨j,h1,h2,h3,h4,h5⟩:=w5 he
 obtain ⟨w,ew,rw'⟩:=r.get h2
 have hl:=r.length
 have hn:=line63
 have fin:EP X pins σ Q w s:=⟨z,H,I,rw',q⟩
 by_cases h0:0<=i
 ·have hj:i.toNat=j:=by
   rw [seqIndex_of h0 h5] at h1
   exact Option.some.inj h1
  exact item_listR pl.isList h0 (by omega) (by rw [hj];simpa using ew) fin hs
 ·have hj:(i + (its.toArray.size:Int)).toNat=j:=by
   rw [seqIndex_neg (by omega) h4] at h1
   rw [List.size_toArray,← hl]
   exact Option.some.inj h1
  exact subscriptTail_builtinR (x:=w) pl.isList.typeIs slot_list_getitem.lookup
   (wpAny_getItem_list_neg (Q:=fun r s'=>r=w/\EP X pins σ Q r s') pl.isList (by omega) (by rw [List.size_toArray] <;> omega) (by omega) (by rw [hj];simpa using ew) ⟨rfl,fin⟩) hs
theorem NK:IS X (rIxT X.K):=by
 intro value slice pins s σ H x y v u Q I rx ry h hs
 obtain ⟨p,xs,i,z,rfl,rfl,hq,he,q⟩:=h
 cases rx
 obtain ⟨t,rfl⟩:=ry
 obtain ⟨its,r,pl,hz⟩:=I.tuple hq
 obtain ⟨j,h1,h2,h3,h4,h5⟩:=w5 he
 obtain ⟨w,ew,rw'⟩:=r.get h2
 have hl:=r.length
 have hn:=line63
 have fin:EP X pins σ Q w s:=⟨z,H,I,rw',q⟩
 exact subscriptTail_builtinR (x:=w) pl.typeIs slot_tuple_getitem.lookup
  (getItem_tuple (j:=j) (Q:=fun r s'=>r=w/\EP X pins σ Q r s') pl (by omega) (by omega) (by rw [List.size_toArray,← hl];exact h1) (by simpa using ew) ⟨rfl,fin⟩) hs
theorem NL:IS X rIxS:=by
 intro value slice pins s σ H x y v u Q I rx ry h hs
 obtain ⟨z,i,c,rfl,rfl,hz,he,q⟩:=h
 obtain ⟨t,rfl⟩:=rx
 obtain ⟨t',rfl⟩:=ry
 obtain ⟨j,h1,h2,h3,h4,h5⟩:=w5 he
 have hl:z.cps.toList.length=z.length:=by simp [Str.length]
 rw [hl] at h1 h4 h5
 have hn:=line63
 exact tail_any (typeIs_str s z t) slot_str_getitem.lookup (getItem_str (c:=c) (by
  have e1:decide (i < -(2 ^ 63:Int))=false:=decide_eq_false (by omega)
  have e2:decide (i ≥ 2 ^ 63)=false:=decide_eq_false (by omega)
  rw [e1,e2,Bool.or_false]) (by rw [h1];simpa using h2) ⟨.str ⟨#[c]⟩,H,I.tok _,⟨_,rfl⟩,q⟩) hs
noncomputable def rIx (K:PySem.W.Frag):R2:=fun x y H Q=>rIxL K x y H Q∨rIxT K x y H Q∨rIxS x y H Q
theorem HA:IS X (rIx X.K):=K1.or (NK.or NL)
theorem AR (its:bP)(n j:Nat)(u:Value):Obj.mapSeq (·.setIfInBounds j u) { cls:=.type "list",data:=.seq its.toArray n }={ cls:=.type "list",data:=.seq (its.set j u).toArray n }:=by
 simp [Obj.mapSeq]
theorem aO.lst {pins:dE}{σ:St}{H:Hp}{s:Shared}{p:Addr}{xs:List V}(I:aO X pins σ H s)(h:H p=some (.lst xs)) :
  ∃ (its:bP) (n:Nat),aU xs its/\s.heap.get? p=some { cls:=.type "list",data:=.seq its.toArray n }/\xs.length<=sizeLine:=by
 obtain ⟨z,its,n,r,e⟩:=I.hok p _ h
 exact ⟨its,n,r,e,z⟩
theorem aO.lstUpd {pins:dE}{σ:St}{H:Hp}{s:Shared}{p:Addr}{xs ys:List V}{its its':bP}{n n':Nat}{f:Obj->Obj}(I:aO X pins σ H s)(h:H p=some (.lst xs))
  (ho:s.heap.get? p=some { cls:=.type "list",data:=.seq its.toArray n }) (hf:f { cls:=.type "list",data:=.seq its.toArray n }={ cls:=.type "list",data:=.seq its'.toArray n' }) (r:aU ys its') (hz:ys.length<=sizeLine) (t:Nat) :
  aO X pins σ (upd H p (.lst ys)) { s with heap:=s.heap.update p f,toks:=t }:=by
 have e:(s.heap.update p f).get? p=some { cls:=.type "list",data:=.seq its'.toArray n' }:=by
  rw [Heap.get?_update_self f ho (by rw [hf] <;> rfl),hf]
 refine I.write (x:=p) (e:=p) (by rw [h];trivial) (.inl rfl) (fun b u hb q=>(Heap.get?_update_other _ _ (Ne.symm hb)).trans q) ⟨_,e⟩ ?_
 exact ⟨hz,its',n',r,e⟩
noncomputable def rSetL:V->V->V->Hp->(Hp->Prop)->Prop:=fun o i v H Q=>∃ p xs k j,o = .ref p/\i = .int k/\H p=some (.lst xs)/\ixN xs.length k=some j/\Q (upd H p (.lst (xs.set j v)))
theorem xM:ON X rSetL:=by
 intro pins s σ H o i v ov iv u Q I ro ri rv h
 obtain ⟨p,xs,k,j,rfl,rfl,hp,hj,q⟩:=h
 cases ro
 obtain ⟨t,rfl⟩:=ri
 obtain ⟨its,n,r,ho,hz⟩:=I.lst hp
 obtain ⟨h1,h2,h3,h4⟩:=CL hj
 have hl:=r.length
 have hn:=line63
 have I':aO X pins σ (upd H p (.lst (xs.set j v))) { s with heap:=s.heap.update p (Obj.mapSeq (·.setIfInBounds j u)) } :=
  I.lstUpd hp ho (AR its n j u) (r.set rv j) (by rw [List.length_set];exact hz) s.toks
 by_cases h0:0<=k
 ·have hk:k.toNat=j:=by
   rw [seqIndex_of h0 h4] at h1
   exact Option.some.inj h1
  exact PySem.W.ki_setAt ho h0 (by omega) (by rw [List.size_toArray,← hl];exact h4) (by rw [hk];exact ⟨_,I',q⟩)
 ·have hk:(k + (its.toArray.size:Int)).toNat=j:=by
   rw [seqIndex_neg (by omega) h3] at h1
   rw [List.size_toArray,← hl]
   exact Option.some.inj h1
  exact PySem.W.ki_setBack ho (by omega) (by rw [List.size_toArray,← hl];exact h3) (by omega) (by rw [hk];exact ⟨_,I',q⟩)
theorem vN (lo hi:Option Int)(n:Nat):(sliceBounds lo hi none n).1=((HT.sIx n 0 lo:Nat):Int)/\(sliceBounds lo hi none n).2.1=((HT.sIx n n hi:Nat):Int)/\(sliceBounds lo hi none n).2.2=1:=by
 refine ⟨?_,?_,rfl⟩
 ·cases lo with
  | none=>simp [sliceBounds,HT.sIx]
  | some i =>
   simp only [sliceBounds,HT.sIx,Option.getD_none,show (1:Int) > 0 by decide,if_true]
   by_cases h:i < 0
   ·simp only [h,if_true] <;> omega
   ·simp only [h,if_false] <;> omega
 ·cases hi with
  | none=>simp [sliceBounds,HT.sIx]
  | some i =>
   simp only [sliceBounds,HT.sIx,Option.getD_none,show (1:Int) > 0 by decide,if_true]
   by_cases h:i < 0
   ·simp only [h,if_true] <;> omega
   ·simp only [h,if_false] <;> omega
theorem sR (its:bP)(lo hi:Option Int):slicePick its.toArray lo hi none=((its.drop (HT.sIx its.length 0 lo)).take (HT.sIx its.length its.length hi - HT.sIx its.length 0 lo)).toArray:=by
 obtain ⟨h1,h2,h3⟩:=vN lo hi its.toArray.size
 unfold slicePick
 rw [h1,h2,h3]
 simp only [sliceRange_one,pick_run,List.size_toArray] <;> rfl
noncomputable def rSlL (K:PySem.W.Frag):V->Option Int->Option Int->Hp->VK->Prop:=fun x lo hi H Q=>∃ a xs,x = .ref a/\eA K H a xs/\∀ p,H p=none->Q (.ref p) (upd H p (.lst (cutV xs lo hi)))
theorem JA:OL X (rSlL X.K):=by
 intro pins s σ H x v vl vu lo hi sl Q I rx hs pl pu h
 obtain ⟨a,xs,rfl,hx,q⟩:=h
 cases rx
 obtain ⟨its,r,ht,hz⟩:=I.list hx
 have hlen:=r.length
 refine ⟨"list",_,slot_list_getitem.lookup,ht.isList.typeIs,?_⟩
 refine wpAny_getItem_list_slice ht.isList hs pl pu .none (by simp) ?_ (by rw [List.size_toArray] <;> omega)
 rw [sR,← hlen]
 refine ⟨.ref s.heap.objs.size,_,I.laid (t':=s.toks) (o:=.lst (cutV xs lo hi)) (fun b ob q=>Heap.get?_push_of_some _ q) (Nat.le_refl _) ?_,rfl,q _ (I.hok.fresh (Nat.le_refl _))⟩
 exact ⟨Nat.le_trans (pV xs lo hi) hz,_,0,(r.drop (HT.sIx xs.length 0 lo)).take (HT.sIx xs.length xs.length hi - HT.sIx xs.length 0 lo),Heap.get?_push_size _ rfl⟩
theorem wA:iZ X (compareOp .NotIn) (fun x y H Q=>∃ i j,x = .str i/\y = .str j/\Q (.bl (!(!(Builtin.Str.occurrences j i 0 j.length 1).isEmpty))) H):=by
 intro pins s σ H x y v u Q I rx ry h
 obtain ⟨i,j,rfl,rfl,q⟩:=h
 obtain ⟨t,rfl⟩:=rx
 obtain ⟨t',rfl⟩:=ry
 exact notIn_str ⟨.bl _,H,I,rfl,q⟩
theorem iC:cR X (.builtin "len") (fun xs H Q=>∃ p ys,xs=[.ref p]/\(eA X.K H p ys∨h8 X.K H p ys)/\Q (.int ys.length) H):=by
 intro pins s σ H xs us Q I r h
 obtain ⟨p,ys,rfl,hq,q⟩:=h
 obtain ⟨u,rfl,rx⟩:=vals1 r
 cases rx
 have hn:=line63
 rcases hq with hq | hq
 ·obtain ⟨its,r',pl,hz⟩:=I.list hq
  have hlen:=r'.length
  exact Calls.call_len_list pl.isList (by simp only [List.size_toArray] <;> omega) ⟨.int ys.length,H,I.tok _,⟨s.toks + 1,by rw [List.size_toArray,hlen]⟩,q⟩
 ·obtain ⟨its,r',pl,hz⟩:=I.tuple hq
  have hlen:=r'.length
  exact len_tuple pl (by simp only [List.size_toArray] <;> omega) ⟨.int ys.length,H,I.tok _,⟨s.toks + 1,by rw [List.size_toArray,hlen]⟩,q⟩
theorem w4:cR X (.builtin "len") (fun xs H Q=>∃ z,xs=[.str z]/\z.length<=sizeLine/\Q (.int z.length) H):=by
 intro pins s σ H xs us Q I r h
 obtain ⟨z,rfl,hz,q⟩:=h
 obtain ⟨u,rfl,t,rfl⟩:=vals1 r
 have hn:=line63
 exact len_str (by omega) ⟨.int z.length,H,I.tok _,⟨_,rfl⟩,q⟩
theorem wZ:cR X (.type "list") (fun xs H Q=>∃ p ys,xs=[.ref p]/\(eA X.K H p ys∨h8 X.K H p ys)/\∀ l,H l=none->Q (.ref l) (upd H l (.lst ys))):=by
 intro pins s σ H xs us Q I r h
 obtain ⟨p,ys,rfl,hq,q⟩:=h
 obtain ⟨u,rfl,rx⟩:=vals1 r
 cases rx
 have fin:∀ (its:bP),aU ys its->ys.length<=sizeLine->∀ (h':Heap) (c':Nat),(∀ b o',s.heap.get? b=some o'->h'.get? b=some o') ->
   h'.get? s.heap.objs.size=some { cls:=.type "list",dict:=none,data:=.seq its.toArray c',slots:=#[] }->EP X pins σ Q (.ref s.heap.objs.size) { s with heap:=h' }:=fun its r' hz h' c' kp e =>
  ⟨.ref s.heap.objs.size,_,I.laid (t':=s.toks) kp (Nat.le_refl _) (show cE X.prog X.w _ h' _ (.lst ys) from ⟨hz,its,c',r',e⟩),rfl,q _ (I.hok.fresh (Nat.le_refl _))⟩
 rcases hq with hq | hq
 ·obtain ⟨its,r',pl,hz⟩:=I.list hq
  have hlen:=r'.length
  obtain ⟨o,ho,hc,n,hd⟩:=pl.isList
  exact call_list_seq p (.inl rfl) ho hc hd (fun h' c' kp e=>fin its r' hz h' c' kp e) (by simp only [List.size_toArray] <;> omega)
 ·obtain ⟨its,r',pl,hz⟩:=I.tuple hq
  have hlen:=r'.length
  obtain ⟨o,ho,hc,n,hd⟩:=pl
  exact call_list_seq p (.inr rfl) ho hc hd (fun h' c' kp e=>fin its r' hz h' c' kp e) (by simp only [List.size_toArray] <;> omega)
theorem sY:cR X (.type "tuple") (fun xs H Q=>∃ p ys,xs=[.ref p]/\((eA X.K H p ys/\∀ l,H l=none->Q (.ref l) (upd H l (.tup ys)))∨(h8 X.K H p ys/\Q (.ref p) H))):=by
 intro pins s σ H xs us Q I r h
 obtain ⟨p,ys,rfl,h⟩:=h
 obtain ⟨u,rfl,rx⟩:=vals1 r
 cases rx
 rcases h with ⟨hq,q⟩ | ⟨hq,q⟩
 ·obtain ⟨its,r',pl,hz⟩:=I.list hq
  have hlen:=r'.length
  refine call_tuple_list pl.isList (fun h' kp=>?_) (by simp only [List.size_toArray] <;> omega)
  have I1:aO X pins σ H { s with heap:=h' }:=I.kept (t':=s.toks) kp
  have I2:aO X pins σ (upd H h'.objs.size (.tup ys)) { s with heap:=h'.push { cls:=.type "tuple",data:=.seq its.toArray } } :=
   I1.laid (t':=s.toks) (fun b o e=>Heap.get?_push_of_some _ e) (Nat.le_refl _) (show cE X.prog X.w _ _ _ (.tup ys) from ⟨hz,its,r',IsTup.new _ _⟩)
  exact ⟨.ref h'.objs.size,_,I2,rfl,q _ (I1.hok.fresh (Nat.le_refl _))⟩
 ·obtain ⟨its,r',pl,hz⟩:=I.tuple hq
  exact call_tuple_same pl ⟨.ref p,H,I,rfl,q⟩
noncomputable def tyV (K:PySem.W.Frag)(T:String)(x:V)(H:Hp):Prop:=match x with
 | .str _=>T="str"
 | .int _=>T="int"
 | .ref p=>(T="list"/\∃ xs,eA K H p xs)∨(T="tuple"/\∃ o,K.lookup p=some o/\o.cls = .type "tuple"/\o.dict=none) ∨
   (T="dict"/\((∃ kvs,H p=some (.dK kvs))∨∃ kvs,H p=some (.dT kvs)))∨(T="set"/\∃ S n,H p=some (.set S n))
 | _=>False
theorem FF {pins:dE}{σ:St}{H:Hp}{s:Shared}{T:String}{x:V}{v:Value}(I:aO X pins σ H s)(r:aX x v)(ty:tyV X.K T x H) :
  s.TypeIs v T/\∀ a,v = .ref a->∃ ob,s.heap.get? a=some ob/\ob.dict=none:=by
 cases x with
 | str z =>
  obtain ⟨t,rfl⟩:=r
  cases (show T="str" from ty)
  exact ⟨typeIs_str s z t,fun _ e=>nomatch e⟩
 | int i =>
  obtain ⟨t,rfl⟩:=r
  cases (show T="int" from ty)
  exact ⟨typeIs_int s i t,fun _ e=>nomatch e⟩
 | ref p =>
  cases r
  rcases ty with ⟨rfl,xs,hq⟩ | ⟨rfl,o,hk,hc,hd⟩ | ⟨rfl,hk⟩ | ⟨rfl,S,n,hk⟩
  ·obtain ⟨its,_,pl,_⟩:=I.list hq
   refine ⟨pl.isList.typeIs,fun a e=>?_⟩
   cases e
   obtain ⟨o,n,e,c,hd,_⟩:=pl
   exact ⟨o,e,hd⟩
  ·refine ⟨⟨o,I.kIn p o hk,hc⟩,fun a e=>?_⟩
   cases e
   exact ⟨o,I.kIn _ o hk,hd⟩
  ·have z:∃ o,s.heap.get? p=some o/\o.ExactDict:=by
    rcases hk with ⟨kvs,hk⟩ | ⟨kvs,hk⟩
    ·obtain ⟨_,_,_,_,o,_,_,e,ex,_⟩:=I.hok p _ hk
     exact ⟨o,e,ex⟩
    ·obtain ⟨_,_,_,_,o,_,_,e,ex,_⟩:=I.hok p _ hk
     exact ⟨o,e,ex⟩
   obtain ⟨o,e,ex⟩:=z
   refine ⟨⟨o,e,ex.1⟩,fun a e2=>?_⟩
   cases e2
   exact ⟨o,e,ex.2.1⟩
  ·obtain ⟨o,_,_,_,e,ex,_⟩:=I.hok p _ hk
   refine ⟨⟨o,e,ex.1⟩,fun a e2=>?_⟩
   cases e2
   exact ⟨o,e,ex.2.1⟩
 | _=>exact False.elim ty
noncomputable def tBM0 (K:PySem.W.Frag)(T:String)(r:V->List V->Hp->VK->Prop)(to:TE):TE:=fun σ H Q=>to σ H fun x H1=>tyV K T x H1/\r x [] H1 Q
noncomputable def tBM (K:PySem.W.Frag)(T:String)(r:V->List V->Hp->VK->Prop)(to:TE)(t:TA):TE:=fun σ H Q=>to σ H fun x H1=>tyV K T x H1/\t σ H1 fun xs H2=>r x xs H2 Q
variable {o e:Expr}{es:lW}{to:TE}{t:TA}{name:Str}{apos cpos:Pos}{T id:String}{r:V->List V->Hp->VK->Prop}
theorem AE (pa:PlainAttrs T)(slot:Slot T name id)(hty:typeOf (.builtin id)=pure (.type "method_descriptor"))(hm:O2 X id r)(ho:PE X o to)
  (hbase:attributeBase o name X.env (eval o X.env)=eval o X.env:=by rfl) (hline:(apos.endLine == cpos.line)=true:=by rfl):PE X (.Call (.Attribute o name apos) [] [] cpos) (tBM0 X.K T r to):=by
 intro pins s σ H Q I h
 refine wpAny_Call_method0_late hbase hline (thn (ho pins s σ H _ I h) fun v s1 ⟨x,H1,I1,r1,ty,q1⟩=>?_)
 obtain ⟨h1,h2⟩:=FF I1 r1 ty
 exact ⟨T,id,pa,slot,hty,h1,h2,Calls.callWith_builtin rfl (PySem.evalArgs_none (hm pins s1 σ H1 x [] v [] Q I1 r1 .nil q1))⟩
theorem iW (pa:PlainAttrs T)(slot:Slot T name id)(hty:typeOf (.builtin id)=pure (.type "method_descriptor"))(hm:O2 X id r)(ho:PE X o to)(ha:PA X (e :: es) t)
  (hbase:attributeBase o name X.env (eval o X.env)=eval o X.env:=by rfl)
  (hfew:((backTo cpos (starEach (e :: es) X.env)).all (fun x=>!x.1) && (backToKw cpos (keywordEach [] X.env)).all (fun x=>x.1.isSome)
   && decide ((e :: es).length + ([]:List Keyword).length + (if ([]:List Keyword).isEmpty then 0 else 1) < 30))=true:=by rfl)
  (hline:(apos.endLine == cpos.line)=true:=by rfl) (hs:starEach (e :: es) X.env=(false,eval e X.env) :: starEach es X.env:=by rfl) (hplain:(backTo cpos (starEach es X.env)).any (·.1)=false:=by rfl) :
  PE X (.Call (.Attribute o name apos) (e :: es) [] cpos) (tBM X.K T r to t):=by
 intro pins s σ H Q I h
 refine wpAny_Call_method_late hbase hfew hline rfl (thn (ho pins s σ H _ I h) fun v s1 ⟨x,H1,I1,r1,ty,q1⟩=>?_)
 obtain ⟨h1,h2⟩:=FF I1 r1 ty
 refine ⟨T,id,pa,slot,hty,h1,h2,?_⟩
 have hA:=ha cpos pins s1 σ H1 _ I1 q1
 rw [hs] at hA ⊢
 refine Calls.callWith_builtin (by show (false || (backTo cpos (starEach es X.env)).any (·.1))=false;rw [hplain] <;> rfl) (Calls.evalArgs_plain ?_)
 exact thn hA fun us s2 ⟨vs,H2,I2,r2,q2⟩=>hm pins s2 σ H2 x vs v us Q I2 r1 r2 q2
end
noncomputable def N7 (X:Cx)(id:String)(r:V->List V->Hp->VK->Prop):Prop :=
 ∀ (pins:dE) (s:Shared) (σ:St) (H:Hp) (x:V) (xs:List V) (v:Value) (us:bP) (Q:VK),aO X pins σ H s->aX x v->aU xs us->r x xs H Q ->
  wpAny (model X.prog X.w) X.A (call (.builtin id) (v :: us)) (EP X pins σ Q) X.xe s
theorem aU.one:∀ {x:V} {us:bP},aU [x] us->∃ u,us=[u]/\aX x u
 | _,_,.cons r .nil=>⟨_,rfl,r⟩
theorem aU.two:∀ {x y:V} {us:bP},aU [x,y] us->∃ u v,us=[u,v]/\aX x u/\aX y v
 | _,_,_,.cons r (.cons q .nil)=>⟨_,_,rfl,r,q⟩
theorem aU.zero:∀ {us:bP},aU [] us->us=[]
 | _,.nil=>rfl
theorem aU.dropLast {xs:List V}{us:bP}(h:aU xs us):aU xs.dropLast us.dropLast:=by
 induction h with
 | nil=>exact .nil
 | cons r t ih =>
  cases t with
  | nil=>exact .nil
  | cons q t'=>exact .cons r ih
theorem aU.eraseIdx:∀ {xs:List V} {us:bP} (i:Nat),aU xs us->aU (xs.eraseIdx i) (us.eraseIdx i)
 | _,_,_,.nil=>.nil
 | _,_,0,.cons _ t=>t
 | _,_,i + 1,.cons r t=>.cons r (aU.eraseIdx i t)
theorem aU.reverse {xs:List V}{us:bP}(h:aU xs us):aU xs.reverse us.reverse:=by
 induction h with
 | nil=>exact .nil
 | cons r t ih=>rw [List.reverse_cons,List.reverse_cons];exact aU.append ih (.cons r .nil)
theorem aU.rep {xs:List V}{us:bP}(h:aU xs us):∀ k:Nat,aU (List.replicate k xs).flatten (List.replicate k us).flatten
 | 0=>.nil
 | k + 1=>by
  rw [List.replicate_succ,List.replicate_succ,List.flatten_cons,List.flatten_cons]
  exact aU.append h (aU.rep h k)
theorem A4 {α:Type}(l:List α):l.eraseIdx (l.length - 1)=l.dropLast:=by
 induction l with
 | nil=>rfl
 | cons a r ih =>
  cases r with
  | nil=>rfl
  | cons b r =>
   have e:(a :: b :: r).length - 1=((b :: r).length - 1) + 1:=by
    have h1:(a :: b :: r).length=r.length + 2:=rfl
    have h2:(b :: r).length=r.length + 1:=rfl
    omega
   rw [e,List.eraseIdx_cons_succ,ih]
   all_goals rfl
theorem uC {α:Type}:∀ (l:List α) (i:Nat),(l.eraseIdx i).length<=l.length
 | [],_=>Nat.le_refl _
 | _ :: _,0=>Nat.le_succ _
 | _ :: r,i + 1=>Nat.succ_le_succ (uC r i)
theorem uI (its:bP):∀ (k:Nat) (acc:bP),
  List.foldl (fun x1 x2=>x1 ++ x2) acc.toArray (List.replicate k its.toArray)=(acc ++ (List.replicate k its).flatten).toArray
 | 0,acc=>by simp
 | k + 1,acc=>by
  have e:acc.toArray ++ its.toArray=(acc ++ its).toArray:=by simp
  have e2:(acc ++ its) ++ (List.replicate k its).flatten=acc ++ (List.replicate (k + 1) its).flatten:=by
   rw [List.replicate_succ,List.flatten_cons,List.append_assoc]
  rw [← e2,← uI its k (acc ++ its),← e,List.replicate_succ,List.foldl_cons]
section
variable {X:Cx}{pins:dE}{σ:St}{H:Hp}{s:Shared}{l b:Addr}{xs ys zs:List V}
theorem aO.lset {its its':bP}{n:Nat}{f:iA->iA}{t':Nat}(I:aO X pins σ H s)(hH:H l=some (.lst xs))
  (e:s.heap.get? l=some { cls:=.type "list",data:=.seq its.toArray n }) (hf:f its.toArray=its'.toArray) (hv:aU ys its') (hz:ys.length<=sizeLine) :
  aO X pins σ (upd H l (.lst ys)) { s with heap:=s.heap.update l (Obj.mapSeq f),toks:=t' }:=by
 have q:=PySem.IsL.update e f
 rw [hf] at q
 refine I.write (x:=l) (e:=l) (by rw [hH];exact trivial) (.inl rfl) (fun b' u hb hu=>(Heap.get?_update_other s.heap (Obj.mapSeq f) (Ne.symm hb)).trans hu) ⟨_,q⟩ ?_
 exact ⟨hz,its',_,hv,q⟩
theorem aO.lnew {its:bP}{t':Nat}(I:aO X pins σ H s)(hv:aU ys its)(hz:ys.length<=sizeLine) :
  aO X pins σ (upd H s.heap.objs.size (.lst ys)) { s with heap:=s.heap.push { cls:=.type "list",data:=.seq its.toArray },toks:=t' } :=
 I.laid (fun _ _ q=>Heap.get?_push_of_some _ q) (Nat.le_refl _) ⟨hz,its,0,hv,Heap.get?_push_size _ rfl⟩
theorem aO.fresh (I:aO X pins σ H s):H s.heap.objs.size=none:=I.hok.fresh (Nat.le_refl _)
theorem aO.lstM (I:aO X pins σ H s)(hH:H l=some (.lst xs)):xs.length<=sizeLine/\∃ (its:bP) (n:Nat),aU xs its/\xs.length=its.length/\s.heap.get? l=some { cls:=.type "list",data:=.seq its.toArray n }:=by
 obtain ⟨z,its,n,r,e⟩:=I.hok l _ hH
 exact ⟨z,its,n,r,r.length,e⟩
theorem rD {n:Nat}(h:n<=sizeLine):Builtin.List.listTooLong n=false:=by
 unfold Builtin.List.listTooLong
 exact decide_eq_false (by omega)
end
section
variable {X:Cx}
noncomputable def rAppend:V->List V->Hp->VK->Prop:=fun x vs H Q=>∃ l xs y,x = .ref l/\vs=[y]/\H l=some (.lst xs)/\xs.length < sizeLine/\Q .non (upd H l (.lst (xs ++ [y])))
theorem eV:N7 X "list.append" rAppend:=by
 intro pins s σ H x vs v us Q I rx rv h
 obtain ⟨l,xs,y,rfl,rfl,hH,hz,q⟩:=h
 cases rx
 obtain ⟨u,rfl,ru⟩:=rv.one
 obtain ⟨z,its,n,r,hl,e⟩:=I.lstM hH
 refine call_meets F.slot_list_append ⟨_,e,rfl⟩ F.entry_list_append (F.args_list_append_2 _ _) (PySem.list_append l its.toArray n u (by rw [List.size_toArray];omega)) ⟨e,?_⟩
 refine ⟨.non,_,I.lset (its':=its ++ [u]) hH e (by simp) (r.append (.cons ru .nil)) ?_,rfl,q⟩
 rw [List.length_append,List.length_singleton]
 omega
noncomputable def rExtend:V->List V->Hp->VK->Prop:=fun x vs H Q=>∃ l b xs zs,x = .ref l/\vs=[.ref b]/\H l=some (.lst xs)/\H b=some (.lst zs)/\xs.length + zs.length<=sizeLine/\Q .non (upd H l (.lst (xs ++ zs)))
theorem D2:N7 X "list.extend" rExtend:=by
 intro pins s σ H x vs v us Q I rx rv h
 obtain ⟨l,b,xs,zs,rfl,rfl,hH,hB,hz,q⟩:=h
 cases rx
 obtain ⟨u,rfl,ru⟩:=rv.one
 cases ru
 obtain ⟨z,its,n,r,hl,e⟩:=I.lstM hH
 obtain ⟨z2,its2,n2,r2,hl2,e2⟩:=I.lstM hB
 have hsz:its.toArray.size + its2.toArray.size<=sizeLine:=by rw [List.size_toArray,List.size_toArray];omega
 have hlong:¬ (!its.toArray.isEmpty && Builtin.List.listTooLong (its.toArray.size + its2.toArray.size))=true:=by
  rw [rD hsz,Bool.and_false]
  exact Bool.false_ne_true
 refine call_meets F.slot_list_extend ⟨_,e,rfl⟩ F.entry_list_extend (F.args_list_extend_2 _ _)
  (AutoSeq1.list_extend_list_list_0 l its.toArray n b its2.toArray n2 hlong (by rw [List.size_toArray];omega) (by omega)) ⟨e,e2,?_⟩
 refine ⟨.non,_,I.lset (its':=its ++ its2) hH e (by simp) (r.append r2) ?_,rfl,q⟩
 rw [List.length_append]
 omega
noncomputable def rPop:V->List V->Hp->VK->Prop:=fun x vs H Q=>∃ l xs y,x = .ref l/\vs=[]/\H l=some (.lst xs)/\xs[xs.length - 1]?=some y/\Q y (upd H l (.lst xs.dropLast))
theorem AO:N7 X "list.pop" rPop:=by
 intro pins s σ H x vs v us Q I rx rv h
 obtain ⟨l,xs,y,rfl,rfl,hH,hy,q⟩:=h
 cases rx
 have hus:=rv.zero
 subst hus
 obtain ⟨z,its,n,r,hl,e⟩:=I.lstM hH
 obtain ⟨u,hu,ru⟩:=r.get hy
 have hy':its.toArray[its.toArray.size - 1]?=some u:=by
  show its.toArray[its.length - 1]?=some u
  rw [← Array.getElem?_toList,← hl]
  exact hu
 refine call_meets F.slot_list_pop ⟨_,e,rfl⟩ F.entry_list_pop (F.args_list_pop_1 _) (MeetsSeq.list_pop_last l its.toArray n u hy' (by rw [List.size_toArray];omega)) ⟨e,?_⟩
 refine ⟨y,_,I.lset (its':=its.dropLast) hH e ?_ r.dropLast ?_,ru,q⟩
 ·show its.toArray.eraseIdxIfInBounds (its.toArray.size - 1)=its.dropLast.toArray
  rw [List.size_toArray,List.eraseIdxIfInBounds_toArray,A4]
 ·rw [List.length_dropLast]
  omega
noncomputable def rPopAt:V->List V->Hp->VK->Prop:=fun x vs H Q=>∃ l xs i k y,x = .ref l/\vs=[.int i]/\H l=some (.lst xs)/\-(2 ^ 63)<=i/\i < 2 ^ 63/\seqIndex? i xs.length=some k/\xs[k]?=some y/\Q y (upd H l (.lst (xs.eraseIdx k)))
theorem G0:N7 X "list.pop" rPopAt:=by
 intro pins s σ H x vs v us Q I rx rv h
 obtain ⟨l,xs,i,k,y,rfl,rfl,hH,h1,h2,hk,hy,q⟩:=h
 cases rx
 obtain ⟨u,rfl,ru⟩:=rv.one
 obtain ⟨t,rfl⟩:=ru
 obtain ⟨z,its,n,r,hl,e⟩:=I.lstM hH
 obtain ⟨w,hw,rw'⟩:=r.get hy
 refine call_meets F.slot_list_pop ⟨_,e,rfl⟩ F.entry_list_pop (F.args_list_pop_2 _ _)
  (MeetsSeq.list_pop_at l its.toArray n i t k w (fitsIndex_both h1 h2) (by rw [List.size_toArray,← hl];exact hk) (by rw [← Array.getElem?_toList];exact hw) (by rw [List.size_toArray];omega)) ⟨e,?_⟩
 refine ⟨y,_,I.lset (its':=its.eraseIdx k) hH e ?_ (r.eraseIdx k) ?_,rw',q⟩
 ·show its.toArray.eraseIdxIfInBounds k=(its.eraseIdx k).toArray
  rw [List.eraseIdxIfInBounds_toArray]
 ·have:=uC xs k
  omega
noncomputable def rCat:R2:=fun x y H Q=>∃ l b xs zs,x = .ref l/\y = .ref b/\H l=some (.lst xs)/\H b=some (.lst zs)/\xs.length + zs.length<=sizeLine/\∀ p,H p=none->Q (.ref p) (upd H p (.lst (xs ++ zs)))
theorem MY:iZ X (binaryOp .Add) rCat:=by
 intro pins s σ H x y v u Q I rx ry h
 obtain ⟨l,b,xs,zs,rfl,rfl,hH,hB,hz,q⟩:=h
 cases rx
 cases ry
 obtain ⟨z,its,n,r,hl,e⟩:=I.lstM hH
 obtain ⟨z2,its2,n2,r2,hl2,e2⟩:=I.lstM hB
 refine PySem.P.add_list e e2 ?_ (by rw [List.size_toArray,List.size_toArray];omega)
 have ea:its.toArray ++ its2.toArray=(its ++ its2).toArray:=by simp
 rw [ea]
 exact ⟨.ref _,_,I.lnew (t':=s.toks) (r.append r2) (by rw [List.length_append];omega),rfl,q _ I.fresh⟩
noncomputable def rRep:R2:=fun x y H Q=>∃ l k xs,x = .ref l/\y = .int k/\H l=some (.lst xs)/\-(2 ^ 63)<=k/\k < 2 ^ 63/\xs.length * k.toNat<=sizeLine /\
 ∀ p,H p=none->Q (.ref p) (upd H p (.lst (List.replicate k.toNat xs).flatten))
theorem KS {α:Type}(xs:List α)(k:Nat):(List.replicate k xs).flatten.length=k * xs.length:=by
 induction k with
 | zero=>simp
 | succ k ih=>rw [List.replicate_succ,List.flatten_cons,List.length_append,ih,Nat.succ_mul,Nat.add_comm]
theorem oY:iZ X (binaryOp .Mult) rRep:=by
 intro pins s σ H x y v u Q I rx ry h
 obtain ⟨l,k,xs,rfl,rfl,hH,h1,h2,hz,q⟩:=h
 cases rx
 obtain ⟨t,rfl⟩:=ry
 obtain ⟨z,its,n,r,hl,e⟩:=I.lstM hH
 have hlen:its.toArray.size * k.toNat<=sizeLine:=by rw [List.size_toArray,← hl];exact hz
 have hcap:¬ its.toArray.size * k.toNat > (2 ^ 63 - 1) / 8:=by
  have:(sizeLine:Nat)<=(2 ^ 63 - 1) / 8:=by decide
  omega
 have hfit:¬ (!Builtin.List.listFitsIndex k)=true:=by
  rw [fitsIndex_both h1 h2]
  exact Bool.false_ne_true
 have hlong:¬ Builtin.List.listTooLong (its.toArray.size * k.toNat)=true:=by
  rw [rD hlen]
  exact Bool.false_ne_true
 have hnew:List.foldl (fun x1 x2=>x1 ++ x2) #[] (List.replicate (if its.toArray.isEmpty=true then 0 else k.toNat) its.toArray)=(List.replicate k.toNat its).flatten.toArray:=by
  have f0:∀ m:Nat,List.foldl (fun x1 x2=>x1 ++ x2) #[] (List.replicate m its.toArray)=(List.replicate m its).flatten.toArray:=fun m=>by
   have:=uI its m []
   rw [List.nil_append] at this
   exact this
  rw [f0]
  cases its with
  | nil=>simp
  | cons a r'=>rw [if_neg (by simp)]
 refine wpAny_binaryOp_repeat_ref (T:="list") (U:="int") (by decide) ⟨_,e,rfl⟩ (fun s'=>typeIs_int s' k t) noFill_list_mul F.fills_int_mul F.slot_int_rmul repeat_list F.slot_int_index.lookup
  (call_meets F.slot_int_rmul (typeIs_int s k t) F.entry_int_rmul (F.args_int_rmul_2 _ _) (int___rmul___int_list k t l its.toArray n)
   ⟨e,rfl,⟨_,e,rfl⟩,call_meets F.slot_list_mul ⟨_,e,rfl⟩ F.entry_list_mul (F.args_list_mul_2 _ _) (AutoListH.list___mul___list_int_3 l its.toArray n k t hfit hcap hlong) ⟨e,?_⟩⟩)
 rw [hnew]
 exact ⟨.ref _,_,I.lnew (t':=s.toks) (r.rep k.toNat) (by rw [KS,Nat.mul_comm];exact hz),rfl,q _ I.fresh⟩
end
end L2
namespace Att
open PySem PySem.W PySem.Calls PyProof.Rows
theorem qC {P:Params}{h:Heap}:∀ (ns:List Int) (vs:bP),WellAll P h vs (ns.map WData.int)->IntsAre vs ns:=by
 intro ns
 induction ns with
 | nil =>
  intro vs w
  rw [List.map_nil] at w
  cases w
  exact .nil
 | cons n ns ih =>
  intro vs w
  rw [List.map_cons] at w
  cases w with
  | cons a b =>
   cases a
   exact .cons _ _ (ih _ b)
theorem DG {l:OpenLaw}{n:Nat}(hn:l.most=some n){P:Params}{h:Heap}{args:List WData}{vals:bP}
  (hpre:l.row.toRowW.claim.pre args=true) (hwl:WellAll P h vals args) :
  ∃ a vs ns,vals=[Value.ref a]/\args=[WData.list (ns.map WData.int)]/\h.get? a=some { cls:=.type "list",data:=.seq vs.toArray }/\IntsAre vs ns/\ns.length<=n:=by
 have hsh:WShape.hasAll [] args [.list .int]=true:=(pre_splitW hpre).1
 have hc:l.pre.holds [] { args:=args }=true:=(pre_splitW hpre).2
 obtain ⟨d,r,rfl,h1,h2⟩:=hasAllW_cons hsh
 obtain rfl:=hasAllW_nil h2
 obtain ⟨xs,rfl,h3⟩:=hasW_list h1
 obtain ⟨ns,rfl⟩:=items_int h3
 have hlen:ns.length<=n:=by
  unfold OpenLaw.pre at hc
  have h4:(WTm.not (.lt (.lit (.int (n:Int))) (.len (.arg 0)))).holds [] { args:=[.list (ns.map .int)] }=true:=by
   have h4:=(holds_andW hc).1
   rw [hn] at h4
   exact h4
  have h5:=condW_of h4 (w_not (w_lt w_lit (w_len_list (w_arg rfl))))
  rw [List.length_map] at h5
  refine Nat.le_of_not_lt fun q=>?_
  have q':(n:Int) < ((ns.length:Nat):Int):=by omega
  first
   | (rw [decide_eq_true q'] at h5;exact absurd h5 (by decide))
   | (simp at h5;omega)
 cases hwl with
 | cons w1 w2 =>
  cases w2
  cases w1 with
  | list ho hall=>exact ⟨_,_,ns,rfl,rfl,ho,qC ns _ hall,hlen⟩
theorem DO (l:OpenLaw)(args:List WData):l.row.toRowW.claim.post args (.bool true) args=true :=
 postW_of (r:=l.row.toRowW) (X:=(true == true))
  (show WShape.has [] (.bool true) .bool=true by first | rfl | decide | simp [WShape.has,WShape.arms,WShape.armsAll])
  (show (WTm.eq .res (.lit (.bool true))).value [] { args:=args,res:=some (.bool true),after:=args }=some (.bool (true == true)) from w_eq_bool (w_res rfl) w_lit) rfl
theorem y8 {l:OpenLaw}{n:Nat}{q:Program}{loose:aQ}{XP:(gA)->Heap->Prop}{YP:World->Heap->Prop}{d:DefRec}
  (hn:l.most=some n) (hdf:d.params.defaults=[])
  (call:∀ (w:World) (s₀ s₁:Shared) (mg mb:gA) (fa:Addr) (o:Obj) (pm cd doc:Value) (a:Addr) (vs:bP) (ns:List Int),
   Ground q loose [] XP w s₀ mg mb s₁.heap->YP w s₁.heap ->
   s₁.heap.get? fa=some o->o.data = .func (docDef d.name d.params d.body d.scope pm cd doc)->s₁.heap.CodeRec cd d.name->mg d.name=some (.ref fa) ->
   s₁.heap.get? a=some { cls:=.type "list",data:=.seq vs.toArray }->IntsAre vs ns->ns.length<=n->s₁.gens = #[] ->
   codeAny (model l.prog w) callerA (.call (.ref fa) ⟨[.ref a],[]⟩) (fun r s'=>r = .ok (.ret (.bool true))/\OldK s₁.heap s'.heap/\s'.os=s₁.os/\AllBare s'.gens) s₁) :
  WalkO q loose XP YP l.row.toRowW d [] (fun f vs=>PySem.call f vs):=by
 intro w s₀ s₁ mg mb G Y fa o pm cd doc dV kV ho hd hcd hD hmg hg args vals as hpre hlay hrd hwl hlo
 obtain rfl:dV = .none:=Dflts.none hD hdf
 obtain rfl:kV = .none:=Dflts.noKw hD
 obtain ⟨a,vs,ns,rfl,rfl,hobj,hints,hlen⟩:=DG hn hpre hwl
 refine enter_call (codeAny_mono (call w s₀ s₁ mg mb fa o pm cd doc a vs ns G Y ho (fd_plain hd) hcd hmg hobj hints hlen hg) fun r s' hq=>?_)
 obtain ⟨rfl,h2,h3,h4⟩:=hq
 exact ⟨.inl ⟨.bool true,.bool true,[],rfl,fun _=>rfl,.bool true,DO l _,fun _=>⟨List.Pairwise.nil,fun _ hm=>(nomatch hm)⟩⟩,h2,h3,h4⟩
end Att
namespace L2
open PySem PySem.Spec PyProof.Rows
theorem tH:∀ {vs:bP} {ns:List Int},IntsAre vs ns->aU (ns.map V.int) vs
 | _,_,.nil=>.nil
 | _,_,.cons n t h=>.cons ⟨t,rfl⟩ (tH h)
noncomputable abbrev bC:BL:=fun _ _ _ _ _ _=>False
noncomputable abbrev E0:XK:=fun _ _ _=>False
theorem pass0 {X:Cx}:j4 bC X E0:=fun _ _ _ _ _ _ _ h=>h.elim
structure gY (K:PySem.W.Frag)(x qual:Str)(st:Stmt)(f:Addr)(fd:FuncData):Prop where
 ex:∃ (oc:Value) (od:Option Addr) (kV doc pm:Value) (an:Option Addr) (cdv ct:Value) (osl:Array (Option Value)),
  fd=PySem.W.fnOf x qual (aT st) (aN st) (aF st) .none kV doc pm an cdv ct/\K.lookup f=some ⟨oc,od,.func fd,osl⟩/\PySem.W.codeIn K cdv qual=true
 kp:PySem.W.keepIn K (.ref f)=true
section
variable {P:Program}{w:World}{K:PySem.W.Frag}{mg:gA}{base:Heap}
theorem gY.ok {x qual:Str}{st:Stmt}{f:Addr}{fd:FuncData}{N ps:aQ}{k:Nat}{sp:Sp}(F:gY K x qual st f fd)(S:aY N ps (aF st))(len:∀ vs H Q E,sp vs H Q E->vs.length=ps.length)
  (hbody:∀ (cdv:Value) (A:Around) (outer:List Env) (s:Shared) (H:Hp) (vs:List V) (Q:VK) (E:XK),eI k (A.deeper (envOfC qual (aF st) s.heap.objs.size f cdv))->sp vs H Q E ->
   ∃ t,C0 (cxOf bC P w K mg base N qual (aF st) f cdv A outer s H E).nox (aN st) t/\t { nx:=fun _ H'=>Q .non H',rt:=Q } (start N vs) H):bR P w K mg base bC (k + 1) f fd ps sp:=by
 obtain ⟨oc,od,kV,doc,pm,an,cdv,ct,osl,rfl,lk,hcd⟩:=F.ex
 refine LY lk hcd S len fun A outer s H vs Q E hr hsp=>?_
 obtain ⟨t,h,q⟩:=hbody cdv A outer s H vs Q E hr hsp
 exact ⟨t,h.nox,q⟩
theorem gY.binds {x qual:Str}{st:Stmt}{f:Addr}{fd:FuncData}{ps:aQ}(F:gY K x qual st f fd)
  (h:∀ (kV doc pm:Value) (an:Option Addr) (cdv ct:Value) (us:bP),us.length=ps.length->bindArgs (PySem.W.fnOf x qual (aT st) (aN st) (aF st) .none kV doc pm an cdv ct) ⟨us,[]⟩=pure (ps.zip us)):eX K fd ps []:=by
 obtain ⟨oc,od,kV,doc,pm,an,cdv,ct,osl,rfl,lk,hcd⟩:=F.ex
 exact .all (h kV doc pm an cdv ct)
theorem bE {x qual:Str}{st:Stmt}{f:Addr}{oc:Value}{od an:Option Addr}{osl:Array (Option Value)}{kV doc pm cdv ct:Value}(l:K.lookup f=some ⟨oc,od,.func (PySem.W.fnOf x qual (aT st) (aN st) (aF st) .none kV doc pm an cdv ct),osl⟩)
  (c:PySem.W.codeIn K cdv qual=true) (k:PySem.W.keepIn K (.ref f)=true):gY K x qual st f (PySem.W.fnOf x qual (aT st) (aN st) (aF st) .none kV doc pm an cdv ct):=⟨⟨oc,od,kV,doc,pm,an,cdv,ct,osl,rfl,l,c⟩,k⟩
end
section
variable {X:Cx}
theorem pv (i:Nat){x:Str}{pos:Pos}(hN:X.N[i]?=some x:=by rfl)(hv:OT X.env.scope x:=by first | exact Or.inl rfl | exact Or.inr (Or.inl rfl) | exact Or.inr (Or.inr rfl))(hd:(x == ("__debug__" : Str))=false:=by decide)
  (hcd:(x == ("__classdict__" : Str))=false:=by decide):PE X (.Name x pos) (tVar i):=GC hN hv hd hcd
end
theorem ite2 {c A B:Prop}[Decidable c](h1:c->A)(h2:¬ c->B):if c then A else B:=by
 by_cases h:c
 ·rw [if_pos h]
  exact h1 h
 ·rw [if_neg h]
  exact h2 h
noncomputable def aG (H H':Hp):Prop:=∀ b o,H b=some o->H' b=some o
theorem aG.refl (H:Hp):aG H H:=fun _ _ h=>h
theorem aG.trans {H H1 H2:Hp}(a:aG H H1)(b:aG H1 H2):aG H H2:=fun c o h=>b c o (a c o h)
theorem aG.free {H H':Hp}(e:aG H H'){l:Addr}(h:H' l=Option.none):H l=Option.none:=by
 cases q:H l with
 | none=>rfl
 | some o =>
  rw [e l o q] at h
  cases h
theorem aG.seq {K:PySem.W.Frag}{H H':Hp}{a:Addr}{xs:List V}(e:aG H H')(h:eA K H a xs):eA K H' a xs:=by
 rcases h with (h | ⟨o,h⟩) | h
 ·exact .inl (.inl (e _ _ h))
 ·exact .inl (.inr ⟨o,e _ _ h⟩)
 ·exact .inr h
section
variable {κ:Type}[DecidableEq κ]
noncomputable def valV (kvs:List (κ×V))(k:κ):Option V:=(kvs.find? fun kv=>decide (kv.1=k)).map (·.2)
noncomputable def putK (kvs:List (κ×V))(k:κ)(v:V):List (κ×V) :=
 if (kvs.any fun kv=>decide (kv.1=k))=true then kvs.map (fun kv=>if kv.1=k then (kv.1,v) else kv) else kvs ++ [(k,v)]
theorem mZ {p:κ×V}{r:List (κ×V)}{k:κ}(e:p.1=k):valV (p :: r) k=some p.2:=by simp [valV,List.find?_cons,e]
theorem m7 {p:κ×V}{r:List (κ×V)}{k:κ}(e:¬ p.1=k):valV (p :: r) k=valV r k:=by simp [valV,List.find?_cons,e]
theorem yH (kvs:List (κ×V))(k:κ)(v:V):(putK kvs k v).length<=kvs.length + 1:=by
 unfold putK
 split
 ·rw [List.length_map];omega
 ·rw [List.length_append,List.length_cons,List.length_nil];omega
theorem kF.isSome_eq {o:Option V}{u:Option Value}(r:kF o u):o.isSome=u.isSome:=by
 cases o with
 | none=>cases u with
  | none=>rfl
  | some _=>exact (show False from r).elim
 | some _=>cases u with
  | none=>exact (show False from r).elim
  | some _=>rfl
theorem kF.getD {o:Option V}{u:Option Value}{d:V}{d':Value}(r:kF o u)(rd:aX d d'):aX (o.getD d) (u.getD d'):=by
 cases o with
 | none=>cases u with
  | none=>exact rd
  | some _=>exact (show False from r).elim
 | some _=>cases u with
  | none=>exact (show False from r).elim
  | some _=>exact r
theorem KV.val {kvs:List (κ×V)}{vs:List (κ×Value)}(r:KV kvs vs)(k:κ):kF (valV kvs k) (valueAt vs k):=by
 unfold KV at r
 induction r with
 | nil=>exact True.intro
 | @cons p q ps qs h t ih =>
  obtain ⟨h1,h2⟩:=h
  by_cases e:p.1=k
  ·have e':q.1=k:=h1.symm.trans e
   have b:valueAt (q :: qs) k=some q.2:=by simp [valueAt,List.find?_cons,e']
   rw [mZ e,b];exact h2
  ·have e':¬ q.1=k:=fun z=>e (h1.trans z)
   have b:valueAt (q :: qs) k=valueAt qs k:=by simp [valueAt,List.find?_cons,e']
   rw [m7 e,b];exact ih
theorem KV.any {kvs:List (κ×V)}{vs:List (κ×Value)}(r:KV kvs vs)(k:κ):(kvs.any fun kv=>decide (kv.1=k))=vs.any fun kv=>decide (kv.1=k):=by
 unfold KV at r
 induction r with
 | nil=>rfl
 | cons h t ih=>rw [List.any_cons,List.any_cons,ih,h.1]
theorem KV.repl {kvs:List (κ×V)}{vs:List (κ×Value)}(r:KV kvs vs)(k:κ){y:V}{u:Value}(ry:aX y u) :
  KV (kvs.map fun kv=>if kv.1=k then (kv.1,y) else kv) (vs.map fun kv=>if kv.1=k then (kv.1,u) else kv):=by
 unfold KV at r ⊢
 induction r with
 | nil=>exact .nil
 | @cons p q ps qs h t ih =>
  rw [List.map_cons,List.map_cons]
  refine .cons ?_ ih
  obtain ⟨h1,h2⟩:=h
  by_cases e:p.1=k
  ·rw [if_pos e,if_pos (h1.symm.trans e)];exact ⟨h1,ry⟩
  ·rw [if_neg e,if_neg (fun z=>e (h1.trans z))];exact ⟨h1,h2⟩
theorem KV.put {kvs:List (κ×V)}{vs:List (κ×Value)}(r:KV kvs vs)(k:κ){y:V}{u:Value}(ry:aX y u):KV (putK kvs k y) (stored vs k u):=by
 unfold putK stored
 rw [r.any k]
 by_cases e:(vs.any fun kv=>decide (kv.1=k))=true
 ·rw [if_pos e,if_pos e];exact r.repl k ry
 ·rw [if_neg e,if_neg e];exact Paired.snoc r ⟨rfl,ry⟩
theorem KV.length {kvs:List (κ×V)}{vs:List (κ×Value)}(r:KV kvs vs):kvs.length=vs.length:=Paired.length r
end
theorem rM {P:Program}{w:World}{k:fZ}{u:Value}(r:aX (kV k) u):(cJ P w).is k u=true:=by
 cases k with
 | inl i=>obtain ⟨t,e⟩:=(show ∃ t,u=Value.int i t from r);subst e;exact yC P w i t
 | inr x=>obtain ⟨t,e⟩:=(show ∃ t,u=Value.str x t from r);subst e;exact yB P w x t
theorem uF {P:Program}{w:World}:∀ {ks:List fZ} {us:bP},aU (ks.map kV) us->ItemsAre (cJ P w) ks us
 | [],_,r=>by rw [List.map_nil] at r;cases r;exact .nil
 | k :: ks,_,r=>by
  rw [List.map_cons] at r
  cases r with
  | cons h t=>exact .cons (rM h) (uF t)
noncomputable abbrev KT (H:Hp):List (List fZ×V)->List (List fZ×Addr×Value)->Prop:=Paired fun p q=>p.1=q.1/\H q.2.1=some (.tup (p.1.map kV))/\aX p.2 q.2.2
theorem KT.val {H:Hp}{kvs:List (List fZ×V)}{xs:List (List fZ×Addr×Value)}(r:KT H kvs xs)(k:List fZ):kF (valV kvs k) ((atKey xs k).map (·.2)):=by
 induction r with
 | nil=>exact True.intro
 | @cons p q ps qs h t ih =>
  obtain ⟨h1,_,h2⟩:=h
  by_cases e:p.1=k
  ·have e':q.1=k:=h1.symm.trans e
   have b:atKey (q :: qs) k=some q.2:=by simp [atKey,List.find?_cons,e']
   rw [mZ e,b];exact h2
  ·have e':¬ q.1=k:=fun z=>e (h1.trans z)
   have b:atKey (q :: qs) k=atKey qs k:=by simp [atKey,List.find?_cons,e']
   rw [m7 e,b];exact ih
section
variable {P:Program}{w:World}{H:Hp}{h:Heap}{a:Addr}
theorem LU {u:HO}(ok:gX P w H h)(e:Rd H a u):cE P w H h a u:=e.ok ok
theorem rT {kvs:List (fZ×V)}(ok:gX P w H h)(e:Rd H a (.dK kvs)):kvs.length<=sizeLine/\(a == sysModules)=false/\∃ vs,KV kvs vs/\h.DictOf (cJ P w) a vs :=
 show cE P w H h a (.dK kvs) from LU ok e
theorem rK {ks:List fZ}(ok:gX P w H h)(e:H a=some (.tup (ks.map kV))):(tupleKind (cJ P w)).is h ks a:=by
 obtain ⟨_,its,r,o,h1,h2,n,h3⟩:=(show cE P w H h a (.tup (ks.map kV)) from ok a _ e)
 exact ⟨o,its.toArray,n,h1,h2,h3,by simpa using uF r⟩
theorem uK {kvs:List (List fZ×V)}(ok:gX P w H h)(e:Rd H a (.dT kvs)):kvs.length<=sizeLine/\(a == sysModules)=false /\
  ∃ xs,KT H kvs xs/\h.DictOfH (tupleKind (cJ P w)) a xs:=by
 obtain ⟨z,y,xs,r,o,es,ep,h1,h2,h3,h4,h5⟩:=(show cE P w H h a (.dT kvs) from LU ok e)
 refine ⟨z,y,xs,r,o,es,ep,h1,h2,h3,h4,fun x hx=>?_,h5⟩
 have all:∀ {l:List (List fZ×V)} {m:List (List fZ×Addr×Value)},KT H l m->∀ x ∈ m,(tupleKind (cJ P w)).is h x.1 x.2.1:=by
  intro l m q
  induction q with
  | nil=>intro x hx;exact nomatch hx
  | @cons p q ps qs hq t ih =>
   intro x hx
   rcases List.mem_cons.mp hx with e | hx
   ·subst e
    exact rK ok (by rw [← hq.1];exact hq.2.1)
   ·exact ih x hx
 exact all r x hx
end
noncomputable def jR (H:Hp)(a:Addr)(y:V)(r:Option V):Prop :=
 (∃ kvs k,Rd H a (.dK kvs)/\y=kV k/\r=valV kvs k)∨∃ kvs k b,Rd H a (.dT kvs)/\y = .ref b/\H b=some (.tup (k.map kV))/\r=valV kvs k
theorem jR.k {H:Hp}{a:Addr}{kvs:List (fZ×V)}{k:fZ}(e:H a=some (.dK kvs)):jR H a (kV k) (valV kvs k):=.inl ⟨kvs,k,.inl e,rfl,rfl⟩
section
variable {X:Cx}{pins:dE}{σ:St}{H:Hp}{s:Shared}{a:Addr}{y v:V}{u r:Value}{o:Option V}{A:Around}{E:bX}
theorem aO.big (I:aO X pins σ H s):sysModules < s.heap.objs.size:=by
 have h:mainGlobals < s.heap.objs.size:=(I.mod.glob.keeps I.bk).lt
 exact Nat.lt_trans (by decide) h
theorem EN {Q:bX}(hu:A.units + 1 < cLine)(I:aO X pins σ H s)(g:jR H a y (some v))(ry:aX y u)(h:∀ w' s',aO X pins σ H s'->aX v w'->Q w' s') :
  wpAny (model X.prog X.w) A (getItem (.ref a) u) Q E s:=by
 rcases g with ⟨kvs,k,e,ey,l⟩ | ⟨kvs,k,b,e,ey,eb,l⟩
 ·subst ey
  obtain ⟨z,hd,vs,rel,dd⟩:=rT I.hok e
  obtain ⟨w',hw,rw'⟩:=kF.some_of (v:=v) (o:=valueAt vs k) (by rw [l];exact rel.val k)
  exact wpAny_getItem_of (rM ry) dd.mapOf hw (h w' _ (I.tok _) rw')
 ·subst ey
  cases (show u=Value.ref b from ry)
  obtain ⟨z,hd,xs,rel,dd⟩:=uK I.hok e
  obtain ⟨w',hw,rw'⟩:=kF.some_of (v:=v) (o:=(atKey xs k).map (·.2)) (by rw [l];exact rel.val k)
  obtain ⟨p,hp,hp2⟩:=Option.map_eq_some_iff.mp hw
  refine wpAny_getItem_heap (tupleKind_room_in1 hu) (rK I.hok eb) dd hp ?_
  rw [hp2]
  exact h w' _ (I.tok _) rw'
theorem LB {Q:bX}(hu:A.units + 1 < cLine)(I:aO X pins σ H s)(g:jR H a y o)(ry:aX y u)(h:∀ s',aO X pins σ H s'->Q (.bool (!o.isSome)) s') :
  wpAny (model X.prog X.w) A (compareOp .NotIn u (.ref a)) Q E s:=by
 rcases g with ⟨kvs,k,e,ey,l⟩ | ⟨kvs,k,b,e,ey,eb,l⟩
 ·subst ey
  obtain ⟨z,hd,vs,rel,dd⟩:=rT I.hok e
  refine wpAny_notIn_of (rM ry) hd dd.mapOf ?_
  rw [← (rel.val k).isSome_eq,← l]
  exact h _ (I.tok _)
 ·subst ey
  cases (show u=Value.ref b from ry)
  obtain ⟨z,hd,xs,rel,dd⟩:=uK I.hok e
  refine wpAny_notIn_heap (tupleKind_room_in1 hu) (rK I.hok eb) hd dd ?_
  have q:=(rel.val k).isSome_eq
  rw [Option.isSome_map] at q
  rw [← q,← l]
  exact h _ (I.tok _)
theorem NN {P:Program}{w:World}{H':Hp}{h':Heap}{kvs:List (fZ×V)}{vs:List (fZ×Value)}(z:kvs.length<=sizeLine)(hd:(a == sysModules)=false)(rel:KV kvs vs)(dd:h'.DictOf (cJ P w) a vs) :
  cE P w H' h' a (.dK kvs):=⟨z,hd,vs,rel,dd⟩
end
section
variable {X:Cx}{pins:dE}{σ:St}{H:Hp}{s:Shared}{a:Addr}{kvs:List (fZ×V)}{k:fZ}{u:Value}{A:Around}{E:bX}
theorem OH {Q:bX}(I:aO X pins σ H s)(e:Rd H a (.dK kvs))(h:∀ t s',aO X pins σ H s'->Q (.int kvs.length t) s'):wpAny (model X.prog X.w) A (call (.builtin "len") [.ref a]) Q E s:=by
 obtain ⟨z,hd,vs,rel,dd⟩:=rT I.hok e
 refine call_len_dict hd dd (by rw [← rel.length];rw [sizeLine_eq] at z;omega) ?_
 rw [← rel.length]
 exact h _ _ (I.tok _)
end
noncomputable def OP (i:Expr):Prop:=∀ ov iv,subscripted i false ov iv=operate [ov,iv] (getItem ov iv)
theorem IY {prog:Program}{w:World}{A:Around}{E:bX}{s:Shared}{env:Env}{value slice:Expr}{pos:Pos}{T id:String}{Q:bX}
  (hl:typeLookup (.type T) "__getitem__" = pure (some (.builtin id))) (hs:OP slice)
  (h:wpAny (model prog w) A (eval value env) (fun o s₁=>wpAny (model prog w) A (eval slice env) (fun i s₂=>s₂.TypeIs o T/\wpAny (model prog w) A (getItem o i) Q E s₂) E s₁) E s) :
  wpAny (model prog w) A (eval (.Subscript value slice pos) env) Q E s:=by
 refine Subscript_ (wpAny_mono h (fun o s₁ h₁=>wpAny_mono h₁ (fun i s₂ h₂=>?_) fun _ _ x=>x) fun _ _ x=>x)
 obtain ⟨hT,h₂⟩:=h₂
 unfold subscriptTail
 refine wpAny_bind ?_
 rw [getitemInPython_of_ne hT.not_modules]
 refine wpAny_bind (wpAny_specialOf hT hl ?_)
 have fin:wpAny (model prog w) A (subscripted slice false o i) (fun r s₃=>wpAny (model prog w) A (letTemporaryGo value o r >>= fun _=>pure r) Q E s₃) E s₂:=by
  rw [hs o i]
  exact wpAny_operating (wpAny_mono h₂ (fun r s₃ h₃=>wpAny_bind (wpAny_letTemporaryGo (wpAny_pure h₃))) fun _ _ x=>x)
 first
  | exact wpAny_pure (wpAny_bind fin)
  | exact wpAny_bind (wpAny_pure (wpAny_bind fin))
  | exact wpAny_bind fin
theorem yV {X:Cx}{pins:dE}{σ:St}{H:Hp}{s:Shared}{a:Addr}{y:V}{o:Option V}(I:aO X pins σ H s)(g:jR H a y o):s.TypeIs (.ref a) "dict":=by
 rcases g with ⟨kvs,k,e,_,_⟩ | ⟨kvs,k,b,e,_,_,_⟩
 ·obtain ⟨_,_,vs,_,dd⟩:=rT I.hok e
  exact dd.typeIs
 ·obtain ⟨_,_,xs,_,dd⟩:=uK I.hok e
  exact dd.typeIs
noncomputable def tDGet (td ty:TE):TE:=fun σ H Q=>td σ H fun x H1=>ty σ H1 fun y H2=>∃ a v,x = .ref a/\jR H2 a y (some v)/\Q v H2
section
variable {X:Cx}{o i e value:Expr}{pos pos' tpos:Pos}{td ty tv:TE}
theorem B1 (hu:X.A.units + 1 < cLine)(ho:PE X o td)(hi:PE X i ty)(hs:OP i):PE X (.Subscript o i pos) (tDGet td ty):=by
 intro pins s σ H Q I h
 refine IY PySem.F.slot_dict_getitem.lookup hs (thn (ho pins s σ H _ I h) fun u s1 ⟨x,H1,I1,rx,q1⟩=>thn (hi pins s1 σ H1 _ I1 q1) fun iv s2 ⟨y,H2,I2,ry,a,v,ex,g,q2⟩=>?_)
 subst ex
 obtain rfl:u=Value.ref a:=rx
 exact ⟨yV I2 g,EN hu I2 g ry fun w' s3 I3 rw'=>⟨v,H2,I3,rw',q2⟩⟩
end
theorem IA {P:Program}{w:World}{H:Hp}(h:Heap)(hb:sysModules < h.objs.size):cE P w H (h.push { cls:=.type "dict",data:=.dict #[] }) h.objs.size (.dK []) :=
 ⟨Nat.zero_le _,beq_eq_false_iff_ne.mpr (Ne.symm (Nat.ne_of_lt hb)),[],.nil,Heap.DictOf.new h⟩
noncomputable def FM:TE:=fun _ H Q=>∀ p,H p=none->Q (.ref p) (upd H p (.dK []))
section
variable {X:Cx}{pos:Pos}
theorem GF:PE X (.Dict [] [] pos) FM:=fun pins s σ H Q I h =>
 wpAny_Dict_empty ⟨.ref s.heap.objs.size,_,I.laid (a:=s.heap.objs.size) (o:=.dK []) (t':=s.toks) (fun _ _ q=>Heap.get?_push_of_some _ q) (Nat.le_refl _) (IA s.heap I.big),rfl,h _ (I.hok.fresh (Nat.le_refl _))⟩
end
noncomputable def i8 (kvs more:List (fZ×V)):List (fZ×V):=more.foldl (fun acc kv=>putK acc kv.1 kv.2) kvs
theorem KV.merge:∀ {more:List (fZ×V)} {rs:List (fZ×Value)} {kvs:List (fZ×V)} {vs:List (fZ×Value)},KV more rs->KV kvs vs->KV (i8 kvs more) (merged vs rs):=by
 intro more rs kvs vs r
 unfold KV at r
 induction r generalizing kvs vs with
 | nil=>intro q;exact q
 | @cons p q ps qs h t ih =>
  intro r0
  have e:KV (putK kvs p.1 p.2) (stored vs q.1 q.2):=by
   have:=r0.put p.1 h.2
   rw [← h.1];exact this
  exact ih e
theorem mE:∀ (more kvs:List (fZ×V)),(i8 kvs more).length<=kvs.length + more.length
 | [],kvs=>by show kvs.length<=kvs.length + 0;omega
 | p :: r,kvs=>by
  have h1:=mE r (putK kvs p.1 p.2)
  have h2:=yH kvs p.1 p.2
  show (i8 (putK kvs p.1 p.2) r).length<=_
  rw [List.length_cons];omega
structure M1 (X:Cx)(o:Expr)(m:Str)(apos:Pos)(e:Expr)(cpos:Pos):Prop where
 base:attributeBase o m X.env (eval o X.env)=eval o X.env
 few:((backTo cpos (starEach [e] X.env)).all (fun x=>!x.1) && (backToKw cpos (keywordEach [] X.env)).all (fun x=>x.1.isSome)
  && decide (([e]:lW).length + ([]:List Keyword).length + (if ([]:List Keyword).isEmpty then 0 else 1) < 30))=true
 line:(apos.endLine == cpos.line)=true
 trees:backTo cpos (starEach [e] X.env)=[(false,eval e X.env)]
structure M2 (X:Cx)(o:Expr)(m:Str)(apos:Pos)(e f:Expr)(cpos:Pos):Prop where
 base:attributeBase o m X.env (eval o X.env)=eval o X.env
 few:((backTo cpos (starEach [e,f] X.env)).all (fun x=>!x.1) && (backToKw cpos (keywordEach [] X.env)).all (fun x=>x.1.isSome)
  && decide (([e,f]:lW).length + ([]:List Keyword).length + (if ([]:List Keyword).isEmpty then 0 else 1) < 30))=true
 line:(apos.endLine == cpos.line)=true
 trees:backTo cpos (starEach [e,f] X.env)=[(false,eval e X.env),(false,eval f X.env)]
noncomputable def O7 (H:Hp)(a:Addr):Prop:=(∃ kvs,Rd H a (.dK kvs))∨∃ kvs,Rd H a (.dT kvs)
theorem HF {X:Cx}{pins:dE}{σ:St}{H:Hp}{s:Shared}{a:Addr}(I:aO X pins σ H s)(d:O7 H a) :
  s.TypeIs (.ref a) "dict"/\(∀ b,Value.ref a = .ref b->∃ ob,s.heap.get? b=some ob/\ob.dict=none)/\(a == sysModules)=false:=by
 rcases d with ⟨kvs,e⟩ | ⟨kvs,e⟩
 ·obtain ⟨_,hd,vs,_,dd⟩:=rT I.hok e
  refine ⟨dd.typeIs,fun b q=>?_,hd⟩
  cases q
  obtain ⟨ob,_,_,h1,h2,_⟩:=dd
  exact ⟨ob,h1,h2.2.1⟩
 ·obtain ⟨_,hd,xs,_,dd⟩:=uK I.hok e
  refine ⟨dd.typeIs,fun b q=>?_,hd⟩
  cases q
  obtain ⟨ob,_,_,h1,h2,_⟩:=dd
  exact ⟨ob,h1,h2.2.1⟩
section
variable {X:Cx}{pins:dE}{σ:St}{H:Hp}{s:Shared}{a:Addr}{y d:V}{u r:Value}{o:Option V}{A:Around}{E:bX}
theorem NQ {Q:bX}(hu:A.units + 1 < cLine)(I:aO X pins σ H s)(g:jR H a y o)(ry:aX y u)(h:∀ w' s',aO X pins σ H s'->aX (o.getD .non) w'->Q w' s') :
  wpAny (model X.prog X.w) A (call (.builtin "dict.get") [.ref a,u]) Q E s:=by
 rcases g with ⟨kvs,k,e,ey,l⟩ | ⟨kvs,k,b,e,ey,eb,l⟩
 ·subst ey
  obtain ⟨z,hd,vs,rel,dd⟩:=rT I.hok e
  refine call_meetsIn PySem.F.slot_dict_get dd.typeIs PySem.F.entry_dict_get (PySem.F.args_dict_get_2 _ _) (meets_dict_get (cJ X.prog X.w) a (rM ry) hd) ⟨_,dd.mapOf,h _ _ (I.tok _) ?_⟩
  rw [l]
  exact (rel.val k).getD rfl
 ·subst ey
  cases (show u=Value.ref b from ry)
  obtain ⟨z,hd,xs,rel,dd⟩:=uK I.hok e
  refine call_meetsIn PySem.F.slot_dict_get dd.typeIs PySem.F.entry_dict_get (PySem.F.args_dict_get_2 _ _) (meetsH_dict_get (tupleKind (cJ X.prog X.w)) a b hd) ⟨tupleKind_room_in1 hu,k,xs,rK I.hok eb,dd,h _ _ (I.tok _) ?_⟩
  rw [l]
  exact (rel.val k).getD rfl
theorem NP {Q:bX}(hu:A.units + 1 < cLine)(I:aO X pins σ H s)(g:jR H a y o)(ry:aX y u)(rd:aX d r)(h:∀ w' s',aO X pins σ H s'->aX (o.getD d) w'->Q w' s') :
  wpAny (model X.prog X.w) A (call (.builtin "dict.get") [.ref a,u,r]) Q E s:=by
 rcases g with ⟨kvs,k,e,ey,l⟩ | ⟨kvs,k,b,e,ey,eb,l⟩
 ·subst ey
  obtain ⟨z,hd,vs,rel,dd⟩:=rT I.hok e
  refine call_meetsIn PySem.F.slot_dict_get dd.typeIs PySem.F.entry_dict_get (PySem.F.args_dict_get_3 _ _ _) (meets_dict_get_default (cJ X.prog X.w) a (rM ry) hd r) ⟨_,dd.mapOf,h _ _ (I.tok _) ?_⟩
  rw [l]
  exact (rel.val k).getD rd
 ·subst ey
  cases (show u=Value.ref b from ry)
  obtain ⟨z,hd,xs,rel,dd⟩:=uK I.hok e
  refine call_meetsIn PySem.F.slot_dict_get dd.typeIs PySem.F.entry_dict_get (PySem.F.args_dict_get_3 _ _ _) (meetsH_dict_get_default (tupleKind (cJ X.prog X.w)) a b hd r) ⟨tupleKind_room_in1 hu,k,xs,rK I.hok eb,dd,h _ _ (I.tok _) ?_⟩
  rw [l]
  exact (rel.val k).getD rd
end
noncomputable def MI (td ty:TE):TE:=fun σ H Q=>td σ H fun x H1=>∃ a,x = .ref a/\O7 H1 a/\ty σ H1 fun y H2=>∃ o,jR H2 a y o/\Q (o.getD .non) H2
noncomputable def MH (td ty tx:TE):TE:=fun σ H Q=>td σ H fun x H1=>∃ a,x = .ref a/\O7 H1 a/\ty σ H1 fun y H2=>tx σ H2 fun z H3=>∃ o,jR H3 a y o/\Q (o.getD z) H3
section
variable {X:Cx}{o e f:Expr}{apos cpos:Pos}{td ty tx:TE}
theorem xV (hu:X.A.units + 1 < cLine)(ho:PE X o td)(he:PE X e ty)(m:M1 X o "get" apos e cpos):PE X (.Call (.Attribute o "get" apos) [e] [] cpos) (MI td ty):=by
 intro pins s σ H Q I h
 refine wpAny_Call_method m.base m.few m.line PySem.F.plainAttrs_dict PySem.F.slot_dict_get PySem.F.type_dict_get (thn (ho pins s σ H _ I h) fun u s1 ⟨x,H1,I1,rx,a,ex,d,q1⟩=>?_)
 subst ex
 obtain rfl:u=Value.ref a:=rx
 obtain ⟨t1,t2,_⟩:=HF I1 d
 refine ⟨t1,t2,?_⟩
 rw [m.trees]
 refine Calls.callWith_builtin rfl (Calls.evalArgs_plain (Calls.spliced_cons (thn (he pins s1 σ H1 _ I1 q1) fun iv s2 ⟨y,H2,I2,ry,ov,g,q2⟩=>Calls.spliced_nil ?_)))
 exact NQ hu I2 g ry fun w' s3 I3 rw'=>⟨_,H2,I3,rw',q2⟩
theorem GG (hu:X.A.units + 1 < cLine)(ho:PE X o td)(he:PE X e ty)(hf:PE X f tx)(m:M2 X o "get" apos e f cpos):PE X (.Call (.Attribute o "get" apos) [e,f] [] cpos) (MH td ty tx):=by
 intro pins s σ H Q I h
 refine wpAny_Call_method m.base m.few m.line PySem.F.plainAttrs_dict PySem.F.slot_dict_get PySem.F.type_dict_get (thn (ho pins s σ H _ I h) fun u s1 ⟨x,H1,I1,rx,a,ex,d,q1⟩=>?_)
 subst ex
 obtain rfl:u=Value.ref a:=rx
 obtain ⟨t1,t2,_⟩:=HF I1 d
 refine ⟨t1,t2,?_⟩
 rw [m.trees]
 refine Calls.callWith_builtin rfl (Calls.evalArgs_plain (Calls.spliced_cons (thn (he pins s1 σ H1 _ I1 q1) fun iv s2 ⟨y,H2,I2,ry,q2⟩ =>
  Calls.spliced_cons (thn (hf pins s2 σ H2 _ I2 q2) fun fv s3 ⟨z,H3,I3,rz,ov,g,q3⟩=>Calls.spliced_nil ?_))))
 exact NP hu I3 g ry rz fun w' s4 I4 rw'=>⟨_,H3,I4,rw',q3⟩
end
section
variable {κ:Type}[DecidableEq κ]
theorem B5:∀ {l:List κ} {k:κ},l.Nodup->¬ k ∈ l->(l ++ [k]).Nodup
 | [],k,_,_=>by simp
 | a :: r,k,h,hk=>by
  obtain ⟨h1,h2⟩:=List.nodup_cons.mp h
  show (a :: (r ++ [k])).Nodup
  refine List.nodup_cons.mpr ⟨fun m=>?_,B5 h2 fun m=>hk (List.mem_cons.mpr (Or.inr m))⟩
  rcases List.mem_append.mp m with q | q
  ·exact h1 q
  ·exact hk (List.mem_cons.mpr (Or.inl (List.mem_singleton.mp q).symm))
end
section
variable {X:Cx}
theorem EV:cR X (.builtin "len") (fun xs H Q=>∃ a kvs,xs=[V.ref a]/\H a=some (.dK kvs)/\Q (.int kvs.length) H):=by
 intro pins s σ H xs us Q I r h
 obtain ⟨a,kvs,rfl,ha,q⟩:=h
 obtain ⟨u,rfl,ru⟩:=vals1 r
 cases ru
 exact OH I (.inl ha) fun t s' I'=>⟨.int kvs.length,H,I',⟨t,rfl⟩,q⟩
end
noncomputable def closL (cells:List (Str×Addr)):List (Str×NameKind)->List (Str×Addr)->List (Str×Addr)
 | [],cs=>cs
 | (n,k) :: r,cs=>closL cells r (if k = .free then (n,(cells.lookup n).getD 0) :: cs else cs)
theorem sX {scope:Scope}{env:Env}(h:∀ x ∈ scope.names,x.2 = .free->∃ c,env.cells.lookup x.1=some c):closureFor scope env=pure (closL env.cells scope.names []):=by
 have go:∀ (l:List (Str×NameKind)) (cs:List (Str×Addr)),(∀ x ∈ l,x.2 = .free->∃ c,env.cells.lookup x.1=some c) ->
   (forIn l cs fun (x:Str×NameKind) (r:List (Str×Addr))=>match x with | (name,kind)=>if (kind == NameKind.free)=true then do let a ← cellOf env name;pure (ForInStep.yield ((name,a) :: r)) else pure (ForInStep.yield r):Sem (List (Str×Addr)))=pure (closL env.cells l cs):=by
  intro l
  induction l with
  | nil=>intro cs _;rfl
  | cons x r ih =>
   intro cs hx
   obtain ⟨n,k⟩:=x
   have hr:=fun y hy=>hx y (List.mem_cons_of_mem _ hy)
   rw [List.forIn_cons]
   by_cases hk:k = .free
   ·subst hk
    obtain ⟨c,hc⟩:=hx (n,.free) List.mem_cons_self rfl
    have hc':List.lookup n env.cells=some c:=hc
    have e1:cellOf env n=pure c:=by unfold cellOf;rw [hc']
    simp only [beq_self_eq_true,if_true,e1,pure_bind]
    rw [ih _ hr]
    show _=pure (closL env.cells r (if NameKind.free = .free then (n,(env.cells.lookup n).getD 0) :: cs else cs))
    rw [if_pos rfl,hc']
    rfl
   ·have hb:(k == NameKind.free)=false:=by simpa using hk
    simp only [hb,Bool.false_eq_true,if_false,pure_bind]
    rw [ih _ hr]
    show _=pure (closL env.cells r (if k = .free then (n,(env.cells.lookup n).getD 0) :: cs else cs))
    rw [if_neg hk]
 exact (congrArg (fun (m:Sem (List (Str×Addr)))=>m >>= fun s=>pure s) (go scope.names [] h)).trans rfl
theorem uO {cells:List (Str×Addr)}{x:Str}{c:Addr}:∀ (l:List (Str×NameKind)) (cs:List (Str×Addr)),(closL cells l cs).lookup x=some c->cs.lookup x=some c∨(x,NameKind.free) ∈ l/\c=(cells.lookup x).getD 0
 | [],_,h=>.inl h
 | (n,k) :: r,cs,h=>by
  unfold closL at h
  rcases uO r _ h with q | ⟨q,e⟩
  ·by_cases hk:k = .free
   ·rw [if_pos hk] at q
    rw [List.lookup_cons] at q
    by_cases hx:x=n
    ·subst hx
     rw [beq_self_eq_true] at q
     subst hk
     exact .inr ⟨List.mem_cons_self,(Option.some.inj q).symm⟩
    ·have hb:(x == n)=false:=by simpa using hx
     rw [hb] at q
     exact .inl q
   ·rw [if_neg hk] at q
    exact .inl q
  ·exact .inr ⟨List.mem_cons_of_mem _ q,e⟩
theorem uP {cells:List (Str×Addr)}{x:Str}:∀ (l:List (Str×NameKind)) (cs:List (Str×Addr)),((x,NameKind.free) ∈ l∨(cs.lookup x).isSome)->((closL cells l cs).lookup x).isSome
 | [],cs,h=>by
  rcases h with h | h
  ·cases h
  ·exact h
 | (n,k) :: r,cs,h=>by
  unfold closL
  refine uP r _ ?_
  by_cases hk:k = .free
  ·rw [if_pos hk,List.lookup_cons]
   by_cases hx:x=n
   ·subst hx
    rw [beq_self_eq_true]
    exact .inr rfl
   ·have hb:(x == n)=false:=by simpa using hx
    rw [hb]
    rcases h with h | h
    ·rcases List.mem_cons.mp h with e | e
     ·cases e;exact absurd rfl hx
     ·exact .inl e
    ·exact .inr h
  ·rw [if_neg hk]
   rcases h with h | h
   ·rcases List.mem_cons.mp h with e | e
    ·cases e;exact absurd rfl hk
    ·exact .inl e
   ·exact .inr h
theorem kN {α β:Type}[BEq α][LawfulBEq α]{x:α}{v:β}:∀ {l:List (α×β)},l.lookup x=some v->(x,v) ∈ l
 | [],h=>by simp at h
 | (n,k) :: r,h=>by
  rw [List.lookup_cons] at h
  by_cases e:x=n
  ·subst e;rw [beq_self_eq_true] at h;cases h;exact List.mem_cons_self
  ·have hb:(x == n)=false:=by simpa using e
   rw [hb] at h
   exact List.mem_cons_of_mem _ (kN h)
theorem jW {env:Env}{x:Str}:∀ {names:List (Str×NameKind)} {k':NameKind},(∀ y ∈ names,y.2≠.cell) ->
  (names.map fun (n,k)=>if (k == NameKind.free && env.scope.kind == .function && env.kindOf n == some .cell) then (n,NameKind.cell) else (n,k)).lookup x=some k'->(k' = .cell∨k' = .free)->names.lookup x=some .free
 | [],_,_,h,_=>by simp at h
 | (n,k) :: r,k',hc,h,hk'=>by
  have ih:=@jW env x r k' (fun y hy=>hc y (List.mem_cons_of_mem _ hy))
  have hk:=hc (n,k) List.mem_cons_self
  have h:List.lookup x ((if (k == NameKind.free && env.scope.kind == .function && env.kindOf n == some .cell)=true then (n,NameKind.cell) else (n,k)) :: _)=some k':=h
  by_cases hx:x=n
  ·subst hx
   rw [List.lookup_cons,beq_self_eq_true]
   by_cases q:(k == NameKind.free && env.scope.kind == .function && env.kindOf x == some .cell)=true
   ·simp only [Bool.and_eq_true,beq_iff_eq] at q
    show some k=some .free
    rw [q.1.1]
   ·rw [if_neg q,List.lookup_cons,beq_self_eq_true] at h
    have h:some k=some k':=h
    cases h
    rcases hk' with e | e
    ·exact absurd e hk
    ·show some k=some .free
     rw [e]
  ·have hb:(x == n)=false:=by simpa using hx
   rw [List.lookup_cons,hb]
   by_cases q:(k == NameKind.free && env.scope.kind == .function && env.kindOf n == some .cell)=true
   ·rw [if_pos q,List.lookup_cons,hb] at h
    exact ih h hk'
   ·rw [if_neg q,List.lookup_cons,hb] at h
    exact ih h hk'
theorem kD {env:Env}{x:Str}:∀ {names:List (Str×NameKind)},names.lookup x=some .free ->
  (names.map fun (n,k)=>if (k == NameKind.free && env.scope.kind == .function && env.kindOf n == some .cell) then (n,NameKind.cell) else (n,k)).lookup x=some .cell ∨
  (names.map fun (n,k)=>if (k == NameKind.free && env.scope.kind == .function && env.kindOf n == some .cell) then (n,NameKind.cell) else (n,k)).lookup x=some .free
 | [],h=>by simp at h
 | (n,k) :: r,h=>by
  have ih:=@kD env x r
  show List.lookup x ((if (k == NameKind.free && env.scope.kind == .function && env.kindOf n == some .cell)=true then (n,NameKind.cell) else (n,k)) :: _)=_∨List.lookup x ((if (k == NameKind.free && env.scope.kind == .function && env.kindOf n == some .cell)=true then (n,NameKind.cell) else (n,k)) :: _)=_
  by_cases hx:x=n
  ·subst hx
   rw [List.lookup_cons,beq_self_eq_true] at h
   have h:some k=some .free:=h
   cases h
   by_cases q:(NameKind.free == NameKind.free && env.scope.kind == .function && env.kindOf x == some .cell)=true
   ·rw [if_pos q,List.lookup_cons,beq_self_eq_true];exact .inl rfl
   ·rw [if_neg q,List.lookup_cons,beq_self_eq_true];exact .inr rfl
  ·have hb:(x == n)=false:=by simpa using hx
   rw [List.lookup_cons,hb] at h
   by_cases q:(k == NameKind.free && env.scope.kind == .function && env.kindOf n == some .cell)=true
   ·rw [if_pos q,List.lookup_cons,hb];exact ih h
   ·rw [if_neg q,List.lookup_cons,hb];exact ih h
noncomputable def srcOk (N:aQ)(names:List (Str×NameKind)):List (Option Nat)->aQ->Bool
 | [],[]=>true
 | none :: r,_ :: n=>srcOk N names r n
 | some i :: r,x :: n=>N[i]? == some x && names.lookup x == some .free && srcOk N names r n
 | _,_=>false
theorem oO {N:aQ}{names:List (Str×NameKind)}:∀ {src:List (Option Nat)} {n:aQ},srcOk N names src n=true->src.length=n.length
 | [],[],_=>rfl
 | none :: r,_ :: n,h=>by simp [oO (src:=r) (n:=n) h]
 | some i :: r,x :: n,h=>by
  simp only [srcOk,Bool.and_eq_true] at h
  simp [oO (src:=r) (n:=n) h.2]
 | [],_ :: _,h=>by simp [srcOk] at h
 | none :: _,[],h=>by simp [srcOk] at h
 | some _ :: _,[],h=>by simp [srcOk] at h
theorem oP {N:aQ}{names:List (Str×NameKind)}:∀ {src:List (Option Nat)} {n:aQ} {j i:Nat} {x:Str},srcOk N names src n=true->src[j]?=some (some i)->n[j]?=some x->N[i]?=some x/\names.lookup x=some .free
 | [],_,_,_,_,_,h,_=>by simp at h
 | _ :: _,[],_,_,_,_,_,h=>by simp at h
 | none :: r,_ :: n,0,_,_,_,h,_=>by simp at h
 | none :: r,_ :: n,j + 1,_,_,h,h1,h2=>oP (src:=r) (n:=n) (j:=j) h (by simpa using h1) (by simpa using h2)
 | some k :: r,y :: n,0,i,x,h,h1,h2=>by
  simp at h1 h2
  subst h1 h2
  simp only [srcOk,Bool.and_eq_true,beq_iff_eq] at h
  exact h.1
 | some _ :: r,_ :: n,j + 1,_,_,h,h1,h2=>by
  simp only [srcOk,Bool.and_eq_true] at h
  exact oP (src:=r) (n:=n) (j:=j) h.2 (by simpa using h1) (by simpa using h2)
structure bG (X:Cx)(scope:Scope)(N':aQ)(src:List (Option Nat)):Prop where
 kind:scope.kind = .function
 cell:∀ y ∈ scope.names,y.2≠.cell
 names:∀ y ∈ scope.names,y.2 = .local->scope.names.lookup y.1=some .local
 free:∀ y ∈ scope.names,y.2 = .free->(X.env.scope.names.lookup y.1=some .cell∨X.env.scope.names.lookup y.1=some .free)
 nd:N'.Nodup
 map:srcOk X.N scope.names src N'=true
noncomputable def stC (src:List (Option Nat))(σ:St):St:=src.map fun o=>o.bind fun i=>(σ[i]?).join
noncomputable def blk (X:Cx)(scope:Scope)(N':aQ)(C:Addr)(s₂:Shared)(H₂:Hp)(fp:List Addr):Cx :=
 { X with N:=N',s₀:=s₂,H₀:=H₂,env:=compEnvC scope (closL X.env.cells scope.names []) C X.env,outer:=X.stack,stack:=X.stack,ex:=fp,fn:=fun _=>false,pn:=[],xe:=fun _ _=>False }
section
variable {X:Cx}{pins:dE}{σ:St}{H:Hp}{s:Shared}{scope:Scope}{N':aQ}{src:List (Option Nat)}
theorem bG.cells (S:bG X scope N' src)(I:aO X pins σ H s):∀ x ∈ scope.names,x.2 = .free->∃ c,X.env.cells.lookup x.1=some c:=fun x hx hk=>I.ok.has x.1 (S.free x hx hk)
theorem bG.cl (S:bG X scope N' src)(I:aO X pins σ H s){x:Str}{c:Addr}(h:(closL X.env.cells scope.names []).lookup x=some c):X.env.cells.lookup x=some c:=by
 rcases uO _ _ h with q | ⟨q,e⟩
 ·simp at q
 ·obtain ⟨d,hd⟩:=S.cells I (x,.free) q rfl
  have hd:X.env.cells.lookup x=some d:=hd
  rw [hd] at e
  rw [hd,e];rfl
theorem bG.clHas (S:bG X scope N' src)(I:aO X pins σ H s){x:Str}(h:scope.names.lookup x=some .free):∃ c,(closL X.env.cells scope.names []).lookup x=some c/\X.env.cells.lookup x=some c:=by
 have q:=uP (cells:=X.env.cells) (x:=x) scope.names [] (.inl (kN h))
 obtain ⟨c,hc⟩:=Option.isSome_iff_exists.mp q
 exact ⟨c,hc,S.cl I hc⟩
theorem bG.ok (S:bG X scope N' src)(I:aO X pins σ H s){fp:List Addr}{C:Addr}(hf:∀ b ∈ fp,fI X pins H b)(hlt:∀ b ∈ fp,b < s.heap.objs.size)(hC:s.heap.objs.size<=C):(blk X scope N' C s H fp).Ok where
 mod:=I.mod
 kind:=S.kind
 glob:=I.ok.glob
 blt:=I.ok.blt
 above:=hC
 inj:=fun x y c h1 h2=>I.ok.inj x y c (S.cl I h1) (S.cl I h2)
 has:=fun x hx=>by
  have q:scope.names.lookup x=some .free:=by
   rcases hx with h | h
   ·exact jW S.cell h (.inl rfl)
   ·exact jW S.cell h (.inr rfl)
  obtain ⟨c,hc,_⟩:=S.clHas I q
  exact ⟨c,hc⟩
 cab:=fun x c h _=>by cases h
 hd:=I.ok.hd
 frames:=I.ok.frames
 stk:=.inl rfl
 exf:=fun b hb=>⟨Nat.ne_of_lt (Nat.lt_of_lt_of_le (hlt b hb) hC),fun x c e=>(hf b hb).2.2.2.2.1 x c (S.cl I e)⟩
 bs:=I.bs
 bsz:=Nat.le_trans I.ok.bsz I.sz
 noex:=fun b o e hb=>by
  rcases (hf b hb).2.2.2.1 with z | z
  ·exact I.ok.noex b o e z
  ·exact absurd (Nat.lt_of_lt_of_le (Heap.lt_size e) (Nat.le_trans I.ok.bsz z)) (Nat.lt_irrefl _)
 exfs:=fun b hb z=>by
  rcases List.mem_cons.mp (I.stkSub b z) with e | e
  ·exact (hf b hb).2.1 e
  ·exact (hf b hb).2.2.1 e
 funs:=I.stack
 frf:=I.stkFree
theorem bG.start (S:bG X scope N' src)(I:aO X pins σ H s){fp:List Addr}{C:Addr}{h':Heap}{tk:Nat}{m:gA}{pl:dE}(hf:∀ b ∈ fp,fI X pins H b)(hlt:∀ b ∈ fp,b < s.heap.objs.size)(hC:s.heap.objs.size<=C)
  (old:∀ b o,s.heap.get? b=some o->h'.get? b=some o) (hns:h'.Ns C m)
  (hpl:∀ p ∈ pl,h'.get? p.1=some p.2/\s.heap.objs.size<=p.1/\p.1≠C/\∀ v,p.2.data≠.cell v) :
  aO (blk X scope N' C s H fp) pl (stC src σ) H { s with heap:=h',toks:=tk } where
 ok:=S.ok I hf hlt hC
 os:=rfl
 bare:=I.bare
 base:=Un.kept old
 loc:=by
  obtain ⟨m0,hn0,hl0⟩:=I.loc
  refine ⟨m,hns,fun j x v h1 h2 h3=>?_⟩
  have h2:(src.map fun o=>o.bind fun i=>(σ[i]?).join)[j]?=some (some v):=h2
  rw [List.getElem?_map] at h2
  cases e:src[j]? with
  | none=>rw [e] at h2;cases h2
  | some o =>
   rw [e] at h2
   cases o with
   | none=>cases h2
   | some i =>
    have h2:some ((σ[i]?).join)=some (some v):=h2
    obtain ⟨e1,e2⟩:=oP S.map e h1
    have hv:σ[i]?=some (some v):=by
     cases q:σ[i]? with
     | none=>rw [q] at h2;cases h2
     | some w=>rw [q] at h2;cases w with
      | none=>cases h2
      | some w=>cases h2;rfl
    have hfr:=S.free (x,.free) (kN e2) rfl
    obtain ⟨u,r,l⟩:=hl0 i x v e1 hv (.inr hfr)
    refine ⟨u,r,.inr ⟨kD e2,?_⟩⟩
    obtain ⟨c,hc,hc'⟩:=S.clHas I e2
    refine ⟨c,hc,?_⟩
    rcases l with ⟨k,_⟩ | ⟨_,c',hc2,hcell⟩
    ·have k:X.env.scope.names.lookup x=some .local:=k
     have hfr:X.env.scope.names.lookup x=some .cell∨X.env.scope.names.lookup x=some .free:=hfr
     rw [k] at hfr
     rcases hfr with z | z <;> cases z
    ·rw [hc'] at hc2;cases hc2
     obtain ⟨o,ho,hd⟩:=hcell
     exact ⟨o,old _ _ ho,hd⟩
 cell:=fun x c e=>by
  obtain ⟨v,o,ho,hd⟩:=I.cell x c (S.cl I e)
  exact ⟨v,o,old _ _ ho,hd⟩
 free:=I.hok.fresh hC
 freeC:=fun x c e=>I.freeC x c (S.cl I e)
 pin:=fun p hp=>by
  obtain ⟨a,b,c,d⟩:=hpl p (by simpa [blk] using hp)
  refine ⟨a,I.hok.fresh b,c,fun z=>?_,d⟩
  rcases List.mem_cons.mp (I.stkSub _ z) with e | e
  ·exact absurd (Nat.lt_of_lt_of_le I.lt (by rw [← e];exact b)) (Nat.lt_irrefl _)
  ·exact I.nofs b e
 hok:=I.hok.kept old
 len:=by
  show (src.map _).length=N'.length
  rw [List.length_map]
  exact oO S.map
end
noncomputable def u9 (ifs:lW)(env:Env):Sem Bool:=forIn ifs true fun c (b:Bool)=>if b=true then isTrue c env (eval c env) >>= fun b=>pure (.yield b) else pure (.yield b)
section
variable (M:Model)(A:Around)(env:Env)(E:bX)
noncomputable def Drawn (it:Value)(tg:Expr)(stop go:Shared->Prop)(s:Shared):Prop :=
 wpAny M A (pyNext it) (fun r t=>r.elim (stop t) fun v=>wpAny M A (letOwnedTupleGo tg it v) (fun _ t=>wpAny M A (assign tg env v) (fun _=>go) E t) E t) E s
noncomputable def BI (ifs:lW)(lay:Sem Unit)(nxt:Shared->Prop)(s:Shared):Prop :=
 wpAny M A (u9 ifs env) (fun ok t=>if ok=true then wpAny M A lay (fun _=>nxt) E t else nxt t) E s
end
noncomputable def oM (p:Pos)(it:Value)(tg:Expr)(env:Env)(k:Sem PySem.Fin):Sem PySem.Fin:=standAt p >>= fun _=>pyNext it >>= fun r=>match r with
 | none=>pure (.done .next)
 | some v=>letOwnedTupleGo tg it v >>= fun _=>assign tg env v >>= fun _=>k
noncomputable def layOn (ifs:lW)(lay:Sem Unit)(env:Env)(c:Code):Sem PySem.Fin:=u9 ifs env >>= fun ok=>if ok=true then lay >>= fun _=>again c else again c
noncomputable def wK (elt:Expr)(acc:Value)(env:Env):Sem Unit:=eval elt env >>= fun x=>call (.builtin "list.append") [acc,x] >>= fun _=>pure ()
section
variable {M:Model}{A:Around}{env:Env}{E:bX}{it:Value}{tg:Expr}{s:Shared}
theorem Drawn.mono {stop go stop' go':Shared->Prop}(h:Drawn M A env E it tg stop go s)(h1:∀ t,stop t->stop' t)(h2:∀ t,go t->go' t):Drawn M A env E it tg stop' go' s :=
 thn h fun r t q=>by
  cases r
  ·exact h1 t q
  ·exact thn q fun _ _ q=>thn q fun _ t q=>h2 t q
theorem Drawn.run {p:Pos}{k:Sem PySem.Fin}{Q:PySem.Fin->Shared->Prop}(h:Drawn M A env E it tg (Q (.done .next)) (fun t=>wpAny M A k Q E t) s):wpAny M A (oM p it tg env k) Q E s:=by
 unfold oM
 refine wpAny_bind (wpAny_standAt (wpAny_bind (thn h fun r t q=>?_)))
 cases r
 ·exact wpAny_pure q
 ·exact wpAny_bind (thn q fun _ _ q=>wpAny_bind q)
theorem BI.run {ifs:lW}{lay:Sem Unit}{c:Code}{Q:PySem.Fin->Shared->Prop}(h:BI M A env E ifs lay (Q (.again c)) s):wpAny M A (layOn ifs lay env c) Q E s:=by
 unfold layOn
 refine wpAny_bind (thn h fun ok t q=>?_)
 cases ok
 ·exact wpAny_pure q
 ·exact wpAny_bind (thn q fun _ _ q=>wpAny_pure q)
end
theorem xG (elt tg iter:Expr)(ifs:lW)(scope:Scope)(pos:Pos)(it acc:Value)(env:Env) :
  compTurn (.ListComp elt [⟨tg,iter,ifs,0⟩] scope pos) 0 it acc env=oM iter.pos it tg env (layOn ifs (wK elt acc env) env (.compLoop (.ListComp elt [⟨tg,iter,ifs,0⟩] scope pos) 0 it acc env)):=rfl
section
variable {prog:Program}{w:World}{A:Around}{R:Result->Shared->Prop}{s:Shared}{tg ce:Expr}{d:Nat}{it acc:Value}{env:Env}{p:Pos}{k:Sem PySem.Fin}
noncomputable abbrev XN (prog:Program)(w:World)(A:Around)(env:Env)(R:Result->Shared->Prop):bX:=notedBy (model prog w) A env fun x t=>R (.error x) t
inductive LR:Expr->Prop
 | lst (e gs sc p):LR (.ListComp e gs sc p)
 | set (e gs sc p):LR (.SetComp e gs sc p)
 | dct (k e gs sc p):LR (.DictComp k e gs sc p)
theorem IB (hk:LR ce){Q:PySem.Fin->Shared->Prop}{E:bX}(h:wpAny (model prog w) A (Sem.onRaise (compTurn ce d it acc env) fun x=>noteFrame x env >>= fun _=>theTreesLotGoes x) Q E s):wpAny (model prog w) (A.under (.compLoop ce d it acc env)) ((model prog w).den (.compLoop ce d it acc env)) Q E s:=by
 cases hk <;> exact h
theorem EM (hk:LR ce){Q:PySem.Fin->Shared->Prop}{E:bX}(h:wpAny (model prog w) A (compStart ce d it acc env) Q (notedBy (model prog w) A env E) s):wpAny (model prog w) (A.under (.compStart ce d it acc env)) ((model prog w).den (.compStart ce d it acc env)) Q E s:=by
 cases hk <;> exact wpAny_notedAt h
theorem AU (hk:LR ce)(hb:compTurn ce d it acc env=oM p it tg env k)(I:Nat->Shared->Prop)
  (turn:∀ n s,I n s->Drawn (model prog w) A env (XN prog w A env R) it tg (R (.ok .next)) (fun t=>wpAny (model prog w) A k (fun f t=>f = .again (.compLoop ce d it acc env)/\∃ m,m < n/\I m t) (XN prog w A env R) t) s)
  (n:Nat) (h:I n s):codeAny (model prog w) A (.compLoop ce d it acc env) R s:=by
 apply codeAny_loop rfl I _ n h
 intro n s i
 have q:=turn n s i
 apply IB hk
 rw [hb]
 apply wpAny_noted
 apply Drawn.run
 exact q.mono (fun _ z=>z) fun t z=>thn z fun f t ⟨hf,m⟩=>by subst hf;exact ⟨rfl,m⟩
end
noncomputable def NZ (X:Cx)(ifs:lW)(t:TT):Prop :=
 ∀ (pins:dE) (s:Shared) (σ:St) (H:Hp) (Q:Bool->Hp->Prop),aO X pins σ H s->t σ H Q->wpAny (model X.prog X.w) X.A (u9 ifs X.env) (TP X pins σ Q) X.xe s
noncomputable def tYes:TT:=fun _ H Q=>Q true H
theorem eT {X:Cx}:NZ X [] tYes:=fun _ _ _ H _ I h=>wpAny_tests_nil ⟨H,I,h⟩
theorem iU {X:Cx}{c:Expr}{t:TT}(h:PT X c t):NZ X [c] t:=fun pins s σ H Q I q=>wpAny_tests_one (h pins s σ H Q I q)
noncomputable abbrev N5 (β:Type):=Nat->Nat->β->St->Hp->Prop
noncomputable abbrev CW:=N5 (List V)
noncomputable def LP {β:Type}(F:Heap->Addr->β->Prop):Prop:=∀ h a x,F h a x->∃ o,h.get? a=some o/\(∀ v,o.data≠.cell v)/\∀ h':Heap,h'.get? a=some o->F h' a x
noncomputable def LO (h:Heap)(a:Addr)(acc:List V):Prop:=acc.length<=sizeLine/\∃ items,h.PlainList a items/\aU acc items.toList
theorem uA:LP LO:=fun _ _ _ ⟨l,it,⟨n,e⟩,r⟩=>⟨_,e,(fun _ z=>nomatch z),fun _ e'=>⟨l,it,⟨n,e'⟩,r⟩⟩
section
variable {β:Type}{F:Heap->Addr->β->Prop}{Y:Cx}{pins:dE}{D it:Addr}{fp:List Addr}{tn:N1}{J:It}{W:N5 β}{Fin:β->St->Hp->Prop}{R:Result->Shared->Prop}{tg:Expr}{g:TG}{Nx:Nat->Nat->β->St->Hp->Prop}
noncomputable def E7 (F:Heap->Addr->β->Prop)(Y:Cx)(pins:dE)(D:Addr)(fp:List Addr)(tn:N1)(W:N5 β)(n:Nat)(s:Shared):Prop :=
 ∃ i σ H acc,aO Y pins σ H s/\tn i s.heap/\(∀ b ∈ fp,H b=none)/\H D=none/\F s.heap D acc/\W i n acc σ H
structure PC (F:Heap->Addr->β->Prop)(Y:Cx)(D:Addr)(fp:List Addr)(tn:N1)(i:Nat)(acc:β)(more:dE)(o:Obj):Prop where
 fill:∀ h:Heap,h.get? D=some o->F h D acc
 own:∀ p ∈ more,p.1 ∈ fp
 back:∀ {pl:dE} {σ:St} {H:Hp} {s:Shared},(∀ p ∈ more,p ∈ pl)->aO Y pl σ H s->tn i s.heap/\∀ b ∈ fp,H b=none
structure pZ (Y:Cx)(pins:dE)(D:Addr)(fp:List Addr):Prop where
 off:D ∉ fp
 list:∀ H:Hp,H D=none->fI Y pins H D
 iter:∀ H:Hp,(∀ b ∈ fp,H b=none)->∀ b ∈ fp,fI Y pins H b
theorem MQ {a:Addr×Obj}{pn pins more:dE}:a ∈ pn ++ (pins ++ a :: more):=by simp
theorem pZ.pin {σ:St}{H:Hp}{s:Shared}{o:Obj}(P:pZ Y pins D fp)(I:aO Y pins σ H s)(hD:H D=none)(ho:s.heap.get? D=some o)(hc:∀ v,o.data≠.cell v):aO Y (pins ++ [(D,o)]) σ H s:=by
 refine I.pins_of fun p hp=>?_
 simp only [List.mem_append,List.mem_singleton] at hp
 rcases hp with hp | rfl
 ·exact I.pin p (List.mem_append_right _ hp)
 ·have f:=P.list H hD
  exact ⟨ho,f.1,f.2.1,f.2.2.1,hc⟩
theorem pZ.more {o:Obj}(P:pZ Y pins D fp)(H:Hp)(hn:∀ b ∈ fp,H b=none)(b:Addr)(hb:b ∈ fp):fI Y (pins ++ [(D,o)]) H b:=by
 have f:=P.iter H hn b hb
 refine ⟨f.1,f.2.1,f.2.2.1,f.2.2.2.1,f.2.2.2.2.1,fun p hp z=>?_⟩
 rw [← List.append_assoc,List.mem_append,List.mem_singleton] at hp
 rcases hp with hp | rfl
 ·exact f.2.2.2.2.2 p hp z
 ·exact P.off (show D ∈ fp from (show D=b from z) ▸ hb)
theorem AQ {more:dE}{o:Obj}{σ:St}{H:Hp}{s:Shared}(I:aO Y (pins ++ (D,o) :: more) σ H s):H D=none/\s.heap.get? D=some o/\aO Y pins σ H s:=by
 have q:=I.pin (D,o) MQ
 exact ⟨q.2.1,q.1,I.pins_of fun p hp=>I.pin p (by simp [hp])⟩
theorem EL (hF:LP F)(hc:Y.calm=true)(hx:∀ e s,¬ Y.xe e s)(T:pH Y.prog Y.w Y.K tg J fp it tn)(P:pZ Y pins D fp)(hg:PG Y tg g)
  (turn:∀ i m acc σ H,W i m acc σ H->(J.stop i H/\Fin acc σ H)∨(J.go i H/\∀ x H',J.yld i H x H'->g x σ H' (Nx i m acc)))
  (hR:∀ s σ H acc,aO Y pins σ H s->H D=none->F s.heap D acc->Fin acc σ H->R (.ok .next) s)
  (n:Nat) (s:Shared) (B:E7 F Y pins D fp tn W n s) {E:bX} :
  Drawn (model Y.prog Y.w) Y.A Y.env E (.ref it) tg (R (.ok .next))
   (fun t=>∃ i acc o more σ H,PC F Y D fp tn (i + 1) acc more o/\aO Y (pins ++ (D,o) :: more) σ H t/\Nx i n acc σ H) s:=by
 obtain ⟨i,σ,H,acc,I,st,fr,fD,sx,w⟩:=B
 obtain ⟨o,ho,hcl,sx2⟩:=hF _ _ _ sx
 have Ip:=P.pin I fD ho hcl
 rcases turn i n acc σ H w with ⟨stop,fin⟩ | ⟨go,step⟩
 ·refine thn (T.done Y rfl rfl rfl hc i _ s σ H _ Ip (P.more H fr) st stop) fun r t ⟨hr,It⟩=>?_
  subst hr
  obtain ⟨l1,l2,l3⟩:=AQ It
  exact hR t σ H acc l3 l1 (sx2 _ l2) fin
 ·refine thn (T.item Y rfl rfl rfl hc i _ s σ H _ Ip (P.more H fr) st go) fun r t ⟨u,hr,q⟩=>?_
  subst hr
  refine thn q fun _ t1 ⟨x,H1,I1,r1,y1,st1,fr1⟩=>?_
  have I1p:=I1.pinned (P.more H1 fr1) (T.obj _ _ st1)
  rw [List.append_assoc] at I1p
  refine wpAny_mono (hg _ t1 σ H1 x u _ I1p r1 (step x H1 y1)) (fun _ t2 ⟨σ2,H2,I2,q2⟩=>?_) fun e t z=>(hx e t z).elim
  refine ⟨i,acc,o,qZ fp t1.heap,σ2,H2,⟨sx2,fun p hp=>(tT hp).1,fun {pl σ3 H3 s3} sub I3=>?_⟩,I2,q2⟩
  have at3:∀ b ∈ fp,∀ o,t1.heap.get? b=some o->s3.heap.get? b=some o/\H3 b=none:=fun b hb o e=>by
   have z:=I3.pin (b,o) (List.mem_append_right _ (sub _ (mN hb e)))
   exact ⟨z.1,z.2.1⟩
  refine ⟨T.keep _ _ _ st1 fun b hb o e=>(at3 b hb o e).1,fun b hb=>?_⟩
  obtain ⟨o,e,_⟩:=T.obj _ _ st1 b hb
  exact (at3 b hb o e).2
noncomputable def LQ (F:Heap->Addr->β->Prop)(Y:Cx)(D:Addr)(lay:Sem Unit)(q:St->Hp->(β->Hp->Prop)->Prop)(acc:β):Prop :=
 ∀ (E:bX) (pl:dE) (o:Obj) (σ:St) (H:Hp) (t:Shared) (N:β->Hp->Prop),aO Y pl σ H t->(D,o) ∈ pl->(∀ h:Heap,h.get? D=some o->F h D acc)->q σ H N ->
  wpAny (model Y.prog Y.w) Y.A lay (fun _ t3=>∃ t2 h3 tk H2 acc',t3={ t2 with heap:=h3,toks:=tk }/\aO Y pl σ H2 t2/\Heap.SameBut D t2.heap h3/\F h3 D acc'/\N acc' H2) E t
theorem G8 {ifs:lW}{lay:Sem Unit}{tt:TT}{tl:St->Hp->(β->Hp->Prop)->Prop}{i n:Nat}{acc:β}{more:dE}{o:Obj}{σ:St}{H:Hp}{t:Shared}{E:bX}(hx:∀ e s,¬ Y.xe e s)(P:pZ Y pins D fp)(T:pH Y.prog Y.w Y.K tg J fp it tn)(ht:NZ Y ifs tt)(hl:LQ F Y D lay tl acc)
  (B:PC F Y D fp tn (i + 1) acc more o) (I:aO Y (pins ++ (D,o) :: more) σ H t)
  (q:tt σ H fun b H3=>if b=true then tl σ H3 fun a H4=>∃ m',m' < n/\W (i + 1) m' a σ H4 else ∃ m',m' < n/\W (i + 1) m' acc σ H3) :
  BI (model Y.prog Y.w) Y.A Y.env E ifs lay (fun t=>∃ m,m < n/\E7 F Y pins D fp tn W m t) t:=by
 refine wpAny_mono (ht _ t σ H _ I q) (fun ok t1 ⟨H1,I1,q1⟩=>?_) fun e t z=>(hx e t z).elim
 cases ok
 ·rw [if_neg Bool.false_ne_true] at q1 ⊢
  obtain ⟨m,hm,w⟩:=q1
  obtain ⟨b1,b2⟩:=B.back (fun p hp=>by simp [hp]) I1
  obtain ⟨l1,l2,l3⟩:=AQ I1
  exact ⟨m,hm,i + 1,σ,H1,acc,l3,b1,b2,l1,B.fill _ l2,w⟩
 ·rw [if_pos rfl] at q1 ⊢
  refine thn (hl _ _ o σ H1 t1 _ I1 (by simp) B.fill q1) fun _ t3 ⟨t2,h3,tk,H2,acc',e3,I2,s3,f3,m,hm,w⟩=>?_
  subst e3
  obtain ⟨b1,b2⟩:=B.back (fun p hp=>by simp [hp]) I2
  obtain ⟨l1,l2,l3⟩:=AQ I2
  have f:=P.list H2 l1
  have far:∀ b o,b≠D->t2.heap.get? b=some o->h3.get? b=some o:=fun b o hb e=>s3.extBut b o hb e
  exact ⟨m,hm,i + 1,σ,H2,acc',l3.turned (t':=tk) far f.1 f.2.1 f.2.2.2.1 f.2.2.2.2.1 f.2.2.2.2.2,T.keep _ _ _ b1 fun b hb o e=>far b o (fun z=>P.off (z ▸ hb)) e,b2,l1,f3,w⟩
theorem BI.go {ifs:lW}{lay:Sem Unit}{c:Code}{n:Nat}{t:Shared}{E:bX}(h:BI (model Y.prog Y.w) Y.A Y.env E ifs lay (fun t=>∃ m,m < n/\E7 F Y pins D fp tn W m t) t) :
  wpAny (model Y.prog Y.w) Y.A (layOn ifs lay Y.env c) (fun f t=>f = .again c/\∃ m,m < n/\E7 F Y pins D fp tn W m t) E t :=
 BI.run (thn h fun ok t q=>by
  cases ok
  ·exact ⟨rfl,q⟩
  ·exact thn q fun _ _ q=>⟨rfl,q⟩)
end
noncomputable def tlLst (te:TE)(acc:List V):St->Hp->(List V->Hp->Prop)->Prop:=fun σ H N=>te σ H fun y H4=>acc.length < sizeLine/\N (acc ++ [y]) H4
theorem yJ {Y:Cx}{D:Addr}{elt:Expr}{te:TE}{acc:List V}(hx:∀ e s,¬ Y.xe e s)(he:PE Y elt te):LQ LO Y D (wK elt (.ref D) Y.env) (tlLst te acc) acc:=by
 intro E pl o σ H t N I hm hf q
 refine wpAny_bind (wpAny_mono (he _ t σ H _ I q) (fun y t2 ⟨yv,H2,I2,r2,hl,w⟩=>?_) fun e t z=>(hx e t z).elim)
 obtain ⟨hz,items,p2,rv⟩:=hf _ (I2.pin (D,o) (List.mem_append_right _ hm)).1
 have small:items.size<=sizeLine:=by rw [← Array.length_toList,← rv.length];exact hz
 refine wpAny_bind (wpAny_list_append_plain (hsz:=small) p2 fun h3 p3 s3=>wpAny_pure ⟨t2,h3,t2.toks,H2,acc ++ [yv],rfl,I2,s3,⟨?_,items.push y,p3,?_⟩,w⟩)
 ·rw [List.length_append]
  exact hl
 ·rw [Array.toList_push]
  exact rv.append (.cons r2 .nil)
noncomputable def L7 (J:It)(g:TG)(tt:TT)(te:TE)(Fin:List V->Hp->Prop)(W:CW):Prop:=∀ i m acc σ H,W i m acc σ H ->
 (J.stop i H/\Fin acc H) ∨
 (J.go i H/\∀ x H',J.yld i H x H'->g x σ H' fun σ2 H2=>tt σ2 H2 fun b H3 =>
  if b=true then te σ2 H3 fun y H4=>acc.length < sizeLine/\∃ m',m' < m/\W (i + 1) m' (acc ++ [y]) σ2 H4 else ∃ m',m' < m/\W (i + 1) m' acc σ2 H3)
noncomputable def tComp (src:List (Option Nat))(wi:TI)(g:TG)(tt:TT)(te:TE):TE:=fun σ H Q=>wi σ H fun J H1=>∃ W:CW,(∃ m,W 0 m [] (stC src σ) H1)/\L7 J g tt te (fun acc H=>∀ p,H p=none->Q (.ref p) (upd H p (.lst acc))) W
section
variable {prog:Program}{w:World}{A:Around}{ce:Expr}{c:Comprehension}{rest:List Comprehension}
theorem yX (hk:LR ce)(hcl:clausesOf ce=c :: rest)(ha:c.is_async=0){it acc:Value}{env:Env}{R:Result->Shared->Prop}{s:Shared}(h0:codeAny (model prog w) A (.compLoop ce 0 it acc env) R s)
  (h:wpAny (model prog w) A (pyIter it) (fun it' s'=>codeAny (model prog w) A (.compLoop ce 0 it' acc env) R s') (XN prog w A env R) s) :
  codeAny (model prog w) A (.compStart ce 0 it acc env) R s:=by
 apply codeAny_of_tree
 apply EM hk
 obtain ⟨tg,iter,ifs,_⟩:=c
 cases ha
 unfold compStart
 rw [hcl]
 change wpAny _ _ (ask >>= _) _ _ s
 apply wpAny_bind
 apply wpAny_askSetting
 by_cases b:(⟨(model prog w).prog,(model prog w).w.params⟩:Setting).params.followText "comprehension-iter-twice" = true
 ·rw [if_pos b]
  exact wpAny_pure ⟨rfl,h0⟩
 ·rw [if_neg b]
  refine wpAny_bind (wpAny_rule ?_)
  change wpAny _ _ (standAt iter.pos >>= _) _ _ s
  exact wpAny_bind (wpAny_standAt (wpAny_bind (thn h fun it' s' z=>wpAny_pure ⟨rfl,z⟩)))
noncomputable def C1 {β:Type}(F:Heap->Addr->β->Prop)(e0:β)(prog:Program)(w:World)(A:Around)(mk:Sem Value):Prop :=
 ∀ (Q:bX) (E:bX) (s:Shared),(∀ o:Obj,o.isFreed=false->(∀ h:Heap,h.get? s.heap.objs.size=some o->F h s.heap.objs.size e0)->Q (.ref s.heap.objs.size) { s with heap:=s.heap.push o })->wpAny (model prog w) A mk Q E s
theorem tZ:C1 LO [] prog w A (newList []):=fun _ _ _ q=>wpAny_newObj_type (q _ rfl fun _ e=>⟨Nat.zero_le _,#[],⟨_,e⟩,.nil⟩)
end
section
variable {β:Type}{F:Heap->Addr->β->Prop}{e0:β}{mk:Sem Value}{ce:Expr}{cls:List Comprehension}{ob:HO}
variable {X:Cx}{scope:Scope}{N':aQ}{src:List (Option Nat)}{pins:dE}{σ:St}{H₂:Hp}{s₂:Shared}{fp:List Addr}{it:Addr}{tn:N1}{J:It}{tg iter:Expr}{ifs:lW}
theorem LC {pl:dE}{σc:St}{H':Hp}{s':Shared}{C D:Addr}(I2:aO X pins σ H₂ s₂)(hf:∀ b ∈ fp,fI X pins H₂ b)
  (I':aO (blk X scope N' C s₂ H₂ fp) pl σc H' s') (hD:s₂.heap.objs.size<=D) (hDn:H' D=none) (ok:cE X.prog X.w (upd H' D ob) s'.heap D ob):aO X pins σ (upd H' D ob) s':=by
 have u:=I'.base
 have neD:∀ b o,s₂.heap.get? b=some o->b≠D:=fun b o e=>Nat.ne_of_lt (Nat.lt_of_lt_of_le (Heap.lt_size e) hD)
 have neT:∀ b o,H' b=some o->b≠D:=fun b o e z=>by rw [z,hDn] at e;cases e
 refine I2.call' (ch:=fp) I'.os ⟨u.keep,u.slot,fun b o e n hx=>?_,u.there,fun b xs e=>?_,fun b o xs e=>?_,fun b ps e=>?_⟩ (fun b o e=>?_) I'.bare fun b hb=>?_
 ·rw [aC (neD b o e)];exact u.free b o e n hx
 ·have q:=u.tups b xs e
  rw [aC (neT b _ q)];exact q
 ·have q:=u.frzs b o xs e
  rw [aC (neT b _ q)];exact q
 ·obtain ⟨more,q⟩:=u.tbls b ps e
  exact ⟨more,by rw [aC (neT b _ q)];exact q⟩
 ·by_cases hb:b=D
  ·subst hb
   rw [upd_same] at e
   cases e
   exact ok
  ·rw [aC hb] at e
   exact (I'.hok b o e).stay (fun _ _ _ q=>q) (fun c q=>by rw [aC (neT c _ q)];exact q) fun c xs q=>by rw [aC (neT c _ q)];exact q
 ·obtain ⟨f0,f1,f2,f3,f4,f5⟩:=hf b hb
  exact ⟨f3,f1,f4,f5⟩
theorem B8 {P:Program}{w:World}{H:Hp}{h:Heap}{a:Addr}{acc:List V}:LO h a acc->cE P w H h a (.lst acc):=fun ⟨hz,items,⟨n,ho⟩,r⟩=>⟨hz,items.toList,n,r,by simpa using ho⟩
structure C2 (F:Heap->Addr->β->Prop)(e0:β)(X:Cx)(scope:Scope)(N':aQ)(src:List (Option Nat))(s₂:Shared)(H₂:Hp)(σ:St)(fp:List Addr)(tn:N1)(D C:Addr)(t:Shared):Prop where
 at_:s₂.heap.objs.size=D
 le:s₂.heap.objs.size<=C
 ne:D≠C
 place:pZ (blk X scope N' C s₂ H₂ fp) [] D fp
 betw:∀ W:N5 β,(∃ m,W 0 m e0 (stC src σ) H₂)->∃ m,E7 F (blk X scope N' C s₂ H₂ fp) [] D fp tn W m t
theorem FG {h h':Heap}{o o':Obj}(ho:o.isFreed=false)(hs:Heap.SameBut (h.push o).objs.size ((h.push o).push o') h'):(∀ b x,h.get? b=some x->h'.get? b=some x)/\h'.get? h.objs.size=some o:=by
 have key:∀ b x,(h.push o).get? b=some x->h'.get? b=some x:=fun b x e=>hs.extBut b x (Nat.ne_of_lt (Heap.lt_size e)) (Heap.get?_push_of_some o' e)
 exact ⟨fun b x e=>key b x (Heap.get?_push_of_some o e),key _ _ (Heap.get?_push_size h ho)⟩
theorem y7 {RR:Value->Addr->Result->Shared->Prop}{E:bX}(hmk:C1 F e0 X.prog X.w X.A mk)(hk:LR ce)(hcl:clausesOf ce=⟨tg,iter,ifs,0⟩ :: cls)(S:bG X scope N' src)(I2:aO X pins σ H₂ s₂)(T:pH X.prog X.w X.K tg J fp it tn)(st2:tn 0 s₂.heap)(hf:∀ b ∈ fp,fI X pins H₂ b)
  (k:∀ D C t,C2 F e0 X scope N' src s₂ H₂ σ fp tn D C t->codeAny (model X.prog X.w) X.A (.compLoop ce 0 (.ref it) (.ref D) (blk X scope N' C s₂ H₂ fp).env) (RR (.ref D) C) t) :
  wpAny (model X.prog X.w) X.A mk (fun acc s₃=>wpAny (model X.prog X.w) X.A (newFunctionEnv scope X.env.globals (closL X.env.cells scope.names []) [] X.env.qual none .none (some X.env)) (fun cenv s₄ =>
   codeAny (model X.prog X.w) X.A (.compStart ce 0 (.ref it) acc { cenv with scope:=relabel scope X.env }) (RR acc cenv.locals) s₄) E s₃) E s₂:=by
 refine hmk _ _ _ fun o of ox=>?_
 refine wpAny_newFunctionEnv S.cell (fun _ z=>nomatch z) (fun h₁ ns sb=>?_) S.kind
 obtain ⟨old,new⟩:=FG of sb
 have sz:(s₂.heap.push o).objs.size=s₂.heap.objs.size + 1:=Heap.size_push ..
 dsimp only at ns old new ⊢
 rw [sz] at ns ⊢
 have lt:∀ b ∈ fp,b < s₂.heap.objs.size:=fun b hb=>let ⟨_,e,_⟩:=T.obj 0 _ st2 b hb;Heap.lt_size e
 have st1:tn 0 h₁:=T.keep _ _ _ st2 fun b _ o e=>old b o e
 have off:s₂.heap.objs.size ∉ fp:=fun z=>Nat.lt_irrefl _ (lt _ z)
 have I1:=S.start (tk:=s₂.toks + ([]:List (Str×Value)).length) (pl:=[]) I2 hf lt (Nat.le_succ _) old ns (fun _ z=>nomatch z)
 have pl:pZ (blk X scope N' (s₂.heap.objs.size + 1) s₂ H₂ fp) [] s₂.heap.objs.size fp:=by
  refine ⟨off,fun H hn=>?_,fun H hn b hb=>?_⟩
  ·have f:=I2.fpOk (Nat.le_refl _) hn
   refine ⟨hn,Nat.ne_of_lt (Nat.lt_succ_self _),fun z=>?_,.inr (Nat.le_refl _),fun x c e=>f.2.2.2.2.1 x c (S.cl I2 e),fun _ z=>nomatch z⟩
   exact (List.mem_cons.mp (I2.stkSub _ z)).elim f.2.1 f.2.2.1
  ·exact ⟨hn b hb,Nat.ne_of_lt (Nat.lt_succ_of_lt (lt b hb)),I1.ok.exfs b hb,.inl hb,fun x c e=>(hf b hb).2.2.2.2.1 x c (S.cl I2 e),fun _ z=>nomatch z⟩
 have bg:C2 F e0 X scope N' src s₂ H₂ σ fp tn s₂.heap.objs.size (s₂.heap.objs.size + 1) { s₂ with heap:=h₁,toks:=s₂.toks + ([]:List (Str×Value)).length } :=
  ⟨rfl,Nat.le_succ _,Nat.ne_of_lt (Nat.lt_succ_self _),pl,fun W ⟨m,w⟩=>⟨m,0,_,H₂,e0,I1,st1,fun b hb=>(hf b hb).1,I2.hok.fresh (Nat.le_refl _),ox _ new,w⟩⟩
 have go:=k _ _ _ bg
 exact yX hk hcl rfl go (T.self _ 0 _ _ _ st1 go)
theorem C2.out {D C:Addr}{t s:Shared}{H':Hp}{σc:St}(B:C2 F e0 X scope N' src s₂ H₂ σ fp tn D C t)(I2:aO X pins σ H₂ s₂)(hf:∀ b ∈ fp,fI X pins H₂ b)(I:aO (blk X scope N' C s₂ H₂ fp) [] σc H' s)(hD:H' D=none)(ok:cE X.prog X.w (upd H' D ob) s.heap D ob) :
  H' C=none/\(∃ m,s.heap.Ns C m)/\aO X pins σ (upd H' D ob) s :=
 ⟨I.free,⟨_,I.loc.choose_spec.1⟩,LC I2 hf I (Nat.le_of_eq B.at_) hD ok⟩
variable {elt:Expr}{pos:Pos}{g:TG}{tt:TT}{te:TE}{tl:β->St->Hp->(β->Hp->Prop)->Prop}
noncomputable def BM (J:It)(g:TG)(tt:TT)(tl:β->St->Hp->(β->Hp->Prop)->Prop)(Fin:β->Hp->Prop)(W:N5 β):Prop:=∀ i m acc σ H,W i m acc σ H ->
 (J.stop i H/\Fin acc H) ∨
 (J.go i H/\∀ x H',J.yld i H x H'->g x σ H' fun σ2 H2=>tt σ2 H2 fun b H3 =>
  if b=true then tl acc σ2 H3 fun a H4=>∃ m',m' < m/\W (i + 1) m' a σ2 H4 else ∃ m',m' < m/\W (i + 1) m' acc σ2 H3)
theorem mP {W:N5 β}{Fin:β->Hp->Prop}{RR:Value->Addr->Result->Shared->Prop}{E:bX}{lay:Value->Env->Sem Unit}{obj:Addr->β->HO}{ps:Pos}(hF:LP F)(hmk:C1 F e0 X.prog X.w X.A mk)(hk:LR ce)(hcl:clausesOf ce=⟨tg,iter,ifs,0⟩ :: cls)(hb:∀ it acc env,compTurn ce 0 it acc env=oM ps it tg env (layOn ifs (lay acc env) env (.compLoop ce 0 it acc env)))(hok:∀ H h D acc,F h D acc->cE X.prog X.w H h D (obj D acc))
  (hc:X.calm=true) (S:bG X scope N' src) (I2:aO X pins σ H₂ s₂) (T:pH X.prog X.w X.K tg J fp it tn) (st2:tn 0 s₂.heap) (hf:∀ b ∈ fp,fI X pins H₂ b)
  (hg:∀ C,PG (blk X scope N' C s₂ H₂ fp) tg g) (ht:∀ C,NZ (blk X scope N' C s₂ H₂ fp) ifs tt) (hl:∀ C D acc,LQ F (blk X scope N' C s₂ H₂ fp) D (lay (.ref D) (blk X scope N' C s₂ H₂ fp).env) (tl acc) acc)
  (w0:∃ m,W 0 m e0 (stC src σ) H₂) (turn:BM J g tt tl Fin W)
  (hRR:∀ D C s' H' acc,s₂.heap.objs.size<=C->H' C=none->D≠C->(∃ m,s'.heap.Ns C m)->aO X pins σ (upd H' D (obj D acc)) s'->H' D=none->Fin acc H'->RR (.ref D) C (.ok .next) s') :
  wpAny (model X.prog X.w) X.A mk (fun acc s₃=>wpAny (model X.prog X.w) X.A (newFunctionEnv scope X.env.globals (closL X.env.cells scope.names []) [] X.env.qual none .none (some X.env)) (fun cenv s₄ =>
   codeAny (model X.prog X.w) X.A (.compStart ce 0 (.ref it) acc { cenv with scope:=relabel scope X.env }) (RR acc cenv.locals) s₄) E s₃) E s₂:=by
 refine y7 hmk hk hcl S I2 T st2 hf fun D C t B=>?_
 obtain ⟨m,b⟩:=B.betw W w0
 refine AU hk (hb ..) (E7 F (blk X scope N' C s₂ H₂ fp) [] D fp tn W) (fun n s b=>?_) m b
 refine (EL (Y:=blk X scope N' C s₂ H₂ fp) hF hc (fun _ _ z=>z) T B.place (hg C) turn (fun s σc H acc I hD hp fin=>?_) n s b).mono (fun _ z=>z) ?_
 ·obtain ⟨o1,o2,o3⟩:=B.out I2 hf I hD (hok _ _ _ _ hp)
  exact hRR D C s H acc B.le o1 B.ne o2 o3 hD fin
 ·rintro t ⟨i,acc,o,more,σ3,H3,mid,I3,q3⟩
  exact BI.go (G8 (W:=W) (fun _ _ z=>z) B.place T (ht C) (hl C D acc) mid I3 q3)
theorem yT {Q:VK}{D C:Addr}{s':Shared}{H':Hp}(I2:aO X pins σ H₂ s₂)(hC:s₂.heap.objs.size<=C)(hCn:H' C=none)(hDC:D≠C)(hns:∃ m,s'.heap.Ns C m)(I':aO X pins σ (upd H' D ob) s')(q:Q (.ref D) (upd H' D ob)) :
  compPost (model X.prog X.w) X.A X.xe none (EP X pins σ Q) (.ref D) C (.ok .next) s':=by
 obtain ⟨m,hn⟩:=hns
 have f:=I2.fpOk (H':=upd H' D ob) hC (by rw [aC (Ne.symm hDC)];exact hCn)
 exact ⟨m,hn,fun h' hs'=>⟨.ref D,_,I'.turned (t':=s'.toks) (fun b o hb e=>hs'.extBut b o hb e) f.1 f.2.1 f.2.2.2.1 f.2.2.2.2.1 f.2.2.2.2.2,rfl,q⟩⟩
theorem HY {D':jQ}{D C:Addr}{s':Shared}{H':Hp}{i:Nat}{y:Str}{py:Pos}(hN:X.N.Nodup)(hiy:X.N[i]?=some y)(hy:X.env.scope.names.lookup y=some .local)(I2:aO X pins σ H₂ s₂)(hC:s₂.heap.objs.size<=C)(hCn:H' C=none)(hDC:D≠C)(hns:∃ m,s'.heap.Ns C m)(I':aO X pins σ (upd H' D ob) s')(q:D'.nx (σ.set i (some (.ref D))) (upd H' D ob)) :
  compPost (model X.prog X.w) X.A X.xe (some (assign (.Name y py) X.env)) (fun _ s'=>SP X pins D' .next s') (.ref D) C (.ok .next) s':=by
 obtain ⟨m,hn⟩:=hns
 have f:=I2.fpOk (H':=upd H' D ob) hC (by rw [aC (Ne.symm hDC)];exact hCn)
 refine wpAny_assign_Name (tM I' hN hiy (.inl hy) (v:=.ref D) rfl (fun t It ⟨a,sb,ha⟩=>?_) (.inr hy))
 have ne:C≠a:=ha.elim (fun e=>e ▸ f.2.1) fun e z=>f.2.2.2.2.1 y a e z.symm
 exact ⟨m,hn.sameBut sb ne,fun h' hs'=>⟨_,_,It.turned (t':=t.toks) (fun b o hb e=>hs'.extBut b o hb e) f.1 f.2.1 f.2.2.2.1 f.2.2.2.2.1 f.2.2.2.2.2,q⟩⟩
theorem C5 {gens:List Comprehension}{y:Str}{py spos:Pos}{Q:Flow->Shared->Prop}{s:Shared}(hsw:swapsWith (.ListComp elt gens scope pos) (some (.Name y py)) spos.line X.env=pure true)
  (h:wpAny (model X.prog X.w) X.A (comprehension (.ListComp elt gens scope pos) scope X.env (firstIterPos gens pos) (newList []) (firstAsync gens) (firstIter gens X.env) (some (assign (.Name y py) X.env))) (fun _=>Q .next) X.xe s) :
  wpAny (model X.prog X.w) X.A (exec (.Assign [.Name y py] (.ListComp elt gens scope pos) spos) X.env) Q X.xe s:=by
 have u:wpAny (model X.prog X.w) X.A (evalThenUse (.ListComp elt gens scope pos) X.env (assign (.Name y py) X.env)) (fun _=>Q .next) X.xe s:=wpAny_bind (thn h fun _ _ q=>wpAny_pure q)
 exact (exec_Assign_Name_used y py _ spos hsw) ▸ wpAny_bind (wpAny_standAt (wpAny_bind (thn u fun _ _ q=>wpAny_pure q)))
theorem pF {wi:TI}{use:Option (Value->Sem Unit)}{Q:bX}{s:Shared}{H:Hp}{K:It->Hp->Prop}{ps:Pos}(hcl:clausesOf ce=⟨tg,iter,ifs,0⟩ :: cls)(S:bG X scope N' src)(hi:PI X tg iter wi)(hs:∀ x,foldedSetIterable iter X.env x=pure x)(I:aO X pins σ H s)(h:wi σ H K)
  (k:∀ s₂ H₂ it fp tn J,aO X pins σ H₂ s₂->pH X.prog X.w X.K tg J fp it tn->tn 0 s₂.heap->(∀ b ∈ fp,fI X pins H₂ b)->K J H₂ ->
   wpAny (model X.prog X.w) X.A mk (fun acc s₃=>wpAny (model X.prog X.w) X.A (newFunctionEnv scope X.env.globals (closL X.env.cells scope.names []) [] X.env.qual none .none (some X.env)) (fun cenv s₄ =>
    codeAny (model X.prog X.w) X.A (.compStart ce 0 (.ref it) acc { cenv with scope:=relabel scope X.env }) (compPost (model X.prog X.w) X.A X.xe use Q acc cenv.locals) s₄) X.xe s₃) X.xe s₂) :
  wpAny (model X.prog X.w) X.A (comprehension ce scope X.env ps mk false (eval iter X.env) use) Q X.xe s:=by
 refine wpAny_comprehension_free hcl hs (sX (S.cells I)) S.kind S.names (thn (hi pins s σ H K I h) fun _ _ q=>thn q ?_)
 rintro _ s₂ ⟨it,fp,tn,J,H₂,rfl,I2,T,st,f,q⟩
 exact k s₂ H₂ it fp tn J I2 T st f q
theorem fA {wi:TI}(hc:X.calm=true)(S:bG X scope N' src)(hi:PI X tg iter wi)(hg:∀ C s H fp,PG (blk X scope N' C s H fp) tg g)(ht:∀ C s H fp,NZ (blk X scope N' C s H fp) ifs tt)(he:∀ C s H fp,PE (blk X scope N' C s H fp) elt te)
  (hs:∀ x,foldedSetIterable iter X.env x=pure x:=by intro _;rfl):PE X (.ListComp elt [⟨tg,iter,ifs,0⟩] scope pos) (tComp src wi g tt te):=by
 intro pins s σ H Q I h
 rw [eval_ListComp]
 refine pF rfl S hi hs I h fun s₂ H₂ it fp tn J I2 T st f ⟨W,w0,turn⟩=>?_
 exact mP (lay:=wK elt) (tl:=tlLst te) (obj:=fun _=>.lst) uA tZ (.lst ..) rfl (xG elt tg iter ifs scope pos) (fun _ _ _ _=>B8) hc S I2 T st f (fun C=>hg C s₂ H₂ fp) (fun C=>ht C s₂ H₂ fp) (fun C D acc=>yJ (fun _ _ z=>z) (he C s₂ H₂ fp)) w0 turn fun D C s' H' acc a1 a2 a3 a4 a5 a6 fin=>yT I2 a1 a2 a3 a4 a5 (fin D a6)
theorem iV {wi:TI}{i:Nat}{y:Str}{py spos:Pos}(hN:X.N.Nodup)(hiy:X.N[i]?=some y)(hy:X.env.scope.names.lookup y=some .local)(hsw:swapsWith (.ListComp elt [⟨tg,iter,ifs,0⟩] scope pos) (some (.Name y py)) spos.line X.env=pure true)
  (hc:X.calm=true) (S:bG X scope N' src) (hi:PI X tg iter wi) (hg:∀ C s H fp,PG (blk X scope N' C s H fp) tg g) (ht:∀ C s H fp,NZ (blk X scope N' C s H fp) ifs tt) (he:∀ C s H fp,PE (blk X scope N' C s H fp) elt te)
  (hs:∀ x,foldedSetIterable iter X.env x=pure x:=by intro _;rfl):PS X (.Assign [.Name y py] (.ListComp elt [⟨tg,iter,ifs,0⟩] scope pos) spos) (tAsg (tComp src wi g tt te) (gName i)):=by
 intro pins s σ H D I h
 refine C5 hsw ?_
 refine pF rfl S hi hs I h fun s₂ H₂ it fp tn J I2 T st f ⟨W,w0,turn⟩=>?_
 exact mP (lay:=wK elt) (tl:=tlLst te) (obj:=fun _=>.lst) uA tZ (.lst ..) rfl (xG elt tg iter ifs scope pos) (fun _ _ _ _=>B8) hc S I2 T st f (fun C=>hg C s₂ H₂ fp) (fun C=>ht C s₂ H₂ fp) (fun C D acc=>yJ (fun _ _ z=>z) (he C s₂ H₂ fp)) w0 turn fun D C s' H' acc a1 a2 a3 a4 a5 a6 fin=>HY hN hiy hy I2 a1 a2 a3 a4 a5 (fin D a6)
end
noncomputable def wC:aQ->Bool
 | []=>true
 | x :: r=>!r.contains x && wC r
theorem tV:∀ {l:aQ},wC l=true->l.Nodup
 | [],_=>List.nodup_nil
 | x :: r,h=>by
  simp only [wC,Bool.and_eq_true,Bool.not_eq_true',List.contains_eq_mem,decide_eq_false_iff_not] at h
  exact List.nodup_cons.mpr ⟨h.1,tV h.2⟩
noncomputable def compB (N:aQ)(names:List (Str×NameKind))(scope:Scope)(N':aQ)(src:List (Option Nat)):Bool :=
 decide (scope.kind = .function) && scope.names.all (fun y=>decide (y.2≠.cell)) && scope.names.all (fun y=>decide (y.2≠.local) || decide (scope.names.lookup y.1=some .local)) &&
 scope.names.all (fun y=>decide (y.2≠.free) || (decide (names.lookup y.1=some .cell) || decide (names.lookup y.1=some .free))) && wC N' && srcOk N scope.names src N'
theorem bG.by {X:Cx}{N:aQ}{names:List (Str×NameKind)}{scope:Scope}{N':aQ}{src:List (Option Nat)}(h:compB N names scope N' src=true)(hN:X.N=N)(hE:X.env.scope.names=names):bG X scope N' src:=by
 subst hN hE
 simp only [compB,Bool.and_eq_true,List.all_eq_true,Bool.or_eq_true,decide_eq_true_eq] at h
 obtain ⟨⟨⟨⟨⟨h1,h2⟩,h3⟩,h4⟩,h5⟩,h6⟩:=h
 exact ⟨h1,h2,fun y hy hk=>(h3 y hy).resolve_left fun z=>z hk,fun y hy hk=>(h4 y hy).resolve_left fun z=>z hk,tV h5,h6⟩
noncomputable def cH (P:Program)(w:World)(K:PySem.W.Frag)(mg:gA)(base:Heap)(CX:BL)(k:Nat)(x:Str)(sp:Sp):Prop :=
 ∃ f fd ps,bR P w K mg base CX k f fd ps sp/\mg x=some (.ref f)/\PySem.W.keepIn K (.ref f)=true/\eX K fd ps []
section
variable {X:Cx}{CX:BL}{k:Nat}{sp:Sp}{E:XK}{x:Str}{p pos:Pos}{e:Expr}{es:lW}{t:TA}
theorem aM (O:cH X.prog X.w X.K X.mg X.base CX k x sp)(hr:eI k X.A)(hx:j4 CX X E)(hg:Gl X x)(ha:PA X (e :: es) t)(hdb:(x == ("__debug__" : Str))=false:=by decide)
  (he:starEach (e :: es) X.env=(false,eval e X.env) :: starEach es X.env:=by rfl) (hpl:(backTo pos (starEach es X.env)).any (·.1)=false:=by rfl):PE X (.Call (.Name x p) (e :: es) [] pos) (tCall sp [] E t):=by
 obtain ⟨f,fd,ps,F,hm,hk,hb⟩:=O
 exact JX F hr hg hm hk hb .nil hx ha hdb he hpl
theorem eP {v:V}(hm:∃ u,X.mg x=some u/\aX v u)(hg:Gl X x)(hd:(x == ("__debug__" : Str))=false:=by decide):PE X (.Name x pos) (tC v):=by
 obtain ⟨u,h,r⟩:=hm
 exact JW hg h r hd
end
noncomputable def E3 (P:Program)(w:World)(K:PySem.W.Frag)(mg:gA)(base:Heap)(CX:BL)(k:Nat)(C:Addr)(m:Str)(sp:Sp):Prop :=
 ∃ f fd ps,bR P w K mg base CX k f fd ps sp/\LM K C m f/\eX K fd ps []/\E5 K C
section
variable {X:Cx}
noncomputable def ixV (H:Hp):V->V->Option V
 | .ref p,.int i=>match H p with
  | some (.lst xs)=>atI xs i
  | some (.tup xs)=>atI xs i
  | some (.frz _ (.lst xs))=>atI xs i
  | _=>none
 | .str z,.int i=>if z.length<=sizeLine then (atI z.cps.toList i).map fun c=>.str ⟨#[c]⟩ else none
 | _,_=>none
theorem dD:IS X (fun x y H Q=>∃ v,ixV H x y=some v/\Q v H):=by
 intro value slice pins s σ H x y v u Q I rx ry h hs
 obtain ⟨z,e,q⟩:=h
 refine HA value slice pins s σ H x y v u Q I rx ry ?_ hs
 cases x with
 | ref p =>
  cases y with
  | int i =>
   unfold ixV at e
   dsimp only at e
   split at e
   ·rename_i xs hp;exact .inl ⟨p,xs,i,z,rfl,rfl,eA.of hp,e,q⟩
   ·rename_i xs hp;exact .inr (.inl ⟨p,xs,i,z,rfl,rfl,h8.of hp,e,q⟩)
   ·rename_i o xs hp;exact .inl ⟨p,xs,i,z,rfl,rfl,.inl (.inr ⟨o,hp⟩),e,q⟩
   ·cases e
  | _=>cases e
 | str t =>
  cases y with
  | int i =>
   unfold ixV at e
   dsimp only at e
   split at e
   ·rename_i hz
    cases ea:atI t.cps.toList i with
    | none=>rw [ea] at e;cases e
    | some c =>
     rw [ea] at e
     cases e
     exact .inr (.inr ⟨t,i,c,rfl,rfl,hz,ea,q⟩)
   ·cases e
  | _=>cases e
 | _=>cases e
noncomputable def lenV (H:Hp):V->Option Nat
 | .ref p=>match H p with
  | some (.lst xs)=>some xs.length
  | some (.tup xs)=>some xs.length
  | some (.frz _ (.lst xs))=>some xs.length
  | some (.dK kvs)=>some kvs.length
  | _=>none
 | .str z=>if z.length<=sizeLine then some z.length else none
 | _=>none
theorem cR.or' {f:Value}{r r':List V->Hp->VK->Prop}(h:cR X f r)(h':cR X f r'):cR X f (fun xs H Q=>r xs H Q∨r' xs H Q):=by
 intro pins s σ H xs us Q I rs q
 rcases q with q | q
 ·exact h pins s σ H xs us Q I rs q
 ·exact h' pins s σ H xs us Q I rs q
theorem cR.imp {f:Value}{r r':List V->Hp->VK->Prop}(h:cR X f r)(i:∀ xs H Q,r' xs H Q->r xs H Q):cR X f r':=fun pins s σ H xs us Q I rs q=>h pins s σ H xs us Q I rs (i _ _ _ q)
theorem iZ.imp {f:Value->Value->Sem Value}{r r':R2}(h:iZ X f r)(i:∀ x y H Q,r' x y H Q->r x y H Q):iZ X f r':=fun pins s σ H x y v u Q I rx ry q=>h pins s σ H x y v u Q I rx ry (i _ _ _ _ q)
noncomputable def r1 (f:Hp->V->Option V):List V->Hp->VK->Prop:=fun xs H Q=>∃ x v,xs=[x]/\f H x=some v/\Q v H
theorem bD:cR X (.builtin "len") (r1 fun H x=>(lenV H x).map fun n=>.int n):=by
 refine ((iC.or' w4).or' EV).imp fun xs H Q h=>?_
 obtain ⟨x,v,rfl,e,q⟩:=h
 cases x with
 | ref p =>
  unfold lenV at e
  dsimp only at e
  split at e
  ·rename_i xs hp;cases e;exact .inl (.inl ⟨p,xs,rfl,.inl (eA.of hp),q⟩)
  ·rename_i xs hp;cases e;exact .inl (.inl ⟨p,xs,rfl,.inr (h8.of hp),q⟩)
  ·rename_i o xs hp;cases e;exact .inl (.inl ⟨p,xs,rfl,.inl (.inl (.inr ⟨o,hp⟩)),q⟩)
  ·rename_i kvs hp;cases e;exact .inr ⟨p,kvs,rfl,hp,q⟩
  ·cases e
 | str z =>
  unfold lenV at e
  dsimp only at e
  split at e
  ·rename_i hz;cases e;exact .inl (.inr ⟨z,rfl,hz,q⟩)
  ·cases e
 | _=>cases e
noncomputable def intV:V->Option V
 | .int i=>some (.int i)
 | .bl k=>some (.int (if k then 1 else 0))
 | _=>none
theorem pG:cR X (.type "int") (r1 fun _ x=>intV x):=by
 refine EW.imp fun xs H Q h=>?_
 obtain ⟨x,v,rfl,e,q⟩:=h
 cases x with
 | int i=>cases e;exact .inl ⟨i,rfl,q⟩
 | bl k=>cases e;exact .inr ⟨k,rfl,q⟩
 | _=>cases e
noncomputable def addV:V->V->Option V
 | .int i,.int j=>some (.int (i + j))
 | .str i,.str j=>if i.length + j.length<=sizeLine then some (.str (i ++ j)) else none
 | _,_=>none
noncomputable def catO (H:Hp):V->V->Option HO
 | .ref a,.ref b=>match H a,H b with
  | some (.lst xs),some (.lst ys)=>if xs.length + ys.length<=sizeLine then some (.lst (xs ++ ys)) else none
  | some (.tup xs),some (.tup ys)=>if xs.length + ys.length<=sizeLine/\xs≠[]/\ys≠[] then some (.tup (xs ++ ys)) else none
  | _,_=>none
 | _,_=>none
noncomputable def rAddF:R2:=fun x y H Q=>(∃ v,addV x y=some v/\Q v H)∨(∃ o,catO H x y=some o/\∀ p,H p=none->Q (.ref p) (upd H p o))
theorem bV:iZ X (binaryOp .Add) rAddF:=by
 refine ((MZ.or AG).or (MY.or J7)).imp fun x y H Q h=>?_
 rcases h with ⟨v,e,q⟩ | ⟨o,e,q⟩
 ·cases x with
  | int i=>cases y with
   | int j=>cases e;exact .inl (.inl ⟨i,j,rfl,rfl,q⟩)
   | _=>cases e
  | str i=>cases y with
   | str j =>
    unfold addV at e
    dsimp only at e
    split at e
    ·rename_i hz;cases e;exact .inl (.inr ⟨i,j,rfl,rfl,hz,q⟩)
    ·cases e
   | _=>cases e
  | _=>cases e
 ·cases x with
  | ref a=>cases y with
   | ref b =>
    unfold catO at e
    dsimp only at e
    split at e
    ·rename_i xs ys ha hb
     split at e
     ·rename_i hz;cases e;exact .inr (.inl ⟨a,b,xs,ys,rfl,rfl,ha,hb,hz,q⟩)
     ·cases e
    ·rename_i xs ys ha hb
     split at e
     ·rename_i hz;cases e;exact .inr (.inr ⟨a,b,xs,ys,rfl,rfl,h8.of ha,h8.of hb,hz.2.1,hz.1,fun w=>absurd w hz.2.2,fun _=>q⟩)
     ·cases e
    ·cases e
   | _=>cases e
  | _=>cases e
end
inductive D where
 | non | bl (b:Bool) | int (i:Int) | str (x:Str) | tup (xs:List D) | lst (xs:List D)
mutual
noncomputable def bB (H:Hp):D->V->Prop
 | .non,v=>v = .non
 | .bl b,v=>v = .bl b
 | .int i,v=>v = .int i
 | .str x,v=>v = .str x
 | .tup ds,v=>∃ a vs,v = .ref a/\H a=some (.tup vs)/\Reps H ds vs
 | .lst ds,v=>∃ a vs,v = .ref a/\H a=some (.lst vs)/\Reps H ds vs
noncomputable def Reps (H:Hp):List D->List V->Prop
 | [],vs=>vs=[]
 | d :: ds,vs=>∃ v r,vs=v :: r/\bB H d v/\Reps H ds r
end
mutual
theorem bB.same {H H':Hp}(s:aG H H'):∀ {d:D} {v:V},bB H d v->bB H' d v
 | .non,_,h=>h
 | .bl _,_,h=>h
 | .int _,_,h=>h
 | .str _,_,h=>h
 | .tup _,_,⟨a,vs,e,h,r⟩=>⟨a,vs,e,s _ _ h,Reps.same s r⟩
 | .lst _,_,⟨a,vs,e,h,r⟩=>⟨a,vs,e,s _ _ h,Reps.same s r⟩
theorem Reps.same {H H':Hp}(s:aG H H'):∀ {ds:List D} {vs:List V},Reps H ds vs->Reps H' ds vs
 | [],_,h=>h
 | _ :: _,_,⟨v,r,e,h,q⟩=>⟨v,r,e,bB.same s h,Reps.same s q⟩
end
theorem Reps.length {H:Hp}:∀ {ds:List D} {vs:List V},Reps H ds vs->vs.length=ds.length
 | [],_,h=>by cases h;rfl
 | _ :: _,_,⟨v,r,e,_,q⟩=>by subst e;simp [Reps.length q]
theorem Reps.append {H:Hp}:∀ {ds es:List D} {vs ws:List V},Reps H ds vs->Reps H es ws->Reps H (ds ++ es) (vs ++ ws)
 | [],_,_,_,h,k=>by cases h;exact k
 | _ :: _,_,_,_,⟨v,r,e,h,q⟩,k=>by subst e;exact ⟨v,r ++ _,rfl,h,Reps.append q k⟩
theorem Reps.get {H:Hp}:∀ {ds:List D} {vs:List V} {i:Nat} {v:V},Reps H ds vs->vs[i]?=some v->∃ d,ds[i]?=some d/\bB H d v
 | [],_,_,_,h,e=>by cases h;simp at e
 | d :: _,_,0,_,⟨v,r,e,h,q⟩,k=>by subst e;simp at k;subst k;exact ⟨d,rfl,h⟩
 | _ :: _,_,i + 1,_,⟨v,r,e,h,q⟩,k=>by subst e;simp at k;obtain ⟨d,h1,h2⟩:=Reps.get q k;exact ⟨d,by simpa using h1,h2⟩
theorem Reps.get' {H:Hp}:∀ {ds:List D} {vs:List V} {i:Nat} {d:D},Reps H ds vs->ds[i]?=some d->∃ v,vs[i]?=some v/\bB H d v
 | [],_,_,_,_,e=>by simp at e
 | d :: _,_,0,_,⟨v,r,e,h,q⟩,k=>by subst e;simp at k;subst k;exact ⟨v,rfl,h⟩
 | _ :: _,_,i + 1,_,⟨v,r,e,h,q⟩,k=>by subst e;simp at k;obtain ⟨w,h1,h2⟩:=Reps.get' q k;exact ⟨w,by simpa using h1,h2⟩
mutual
noncomputable def eqD:D->D->Bool
 | .non,.non=>true
 | .bl a,.bl b=>a == b
 | .bl a,.int b=>(if a then 1 else 0) == b
 | .int a,.bl b=>a == (if b then 1 else 0)
 | .int a,.int b=>a == b
 | .str a,.str b=>a == b
 | .tup xs,.tup ys=>eqDs xs ys
 | .lst xs,.lst ys=>eqDs xs ys
 | _,_=>false
noncomputable def eqDs:List D->List D->Bool
 | [],[]=>true
 | x :: xs,y :: ys=>eqD x y && eqDs xs ys
 | _,_=>false
end
mutual
noncomputable def depD:D->Nat
 | .tup xs=>depDs xs + 1
 | .lst xs=>depDs xs + 1
 | _=>0
noncomputable def depDs:List D->Nat
 | []=>0
 | x :: xs=>max (depD x) (depDs xs)
end
end L2
namespace L2
open PySem PySem.Spec PyProof.Rows PySem.SeqAt
mutual
theorem bB.inj {H:Hp}:∀ {d e:D} {v:V},bB H d v->bB H e v->d=e
 | .non,e,v,h,k=>by cases h;cases e <;> first | rfl | (exact absurd k (by simp [bB])) | (obtain ⟨_,_,z,_⟩:=k;cases z)
 | .bl b,e,v,h,k=>by cases h;cases e <;> first | (cases k;rfl) | (exact absurd k (by simp [bB])) | (obtain ⟨_,_,z,_⟩:=k;cases z)
 | .int b,e,v,h,k=>by cases h;cases e <;> first | (cases k;rfl) | (exact absurd k (by simp [bB])) | (obtain ⟨_,_,z,_⟩:=k;cases z)
 | .str b,e,v,h,k=>by cases h;cases e <;> first | (cases k;rfl) | (exact absurd k (by simp [bB])) | (obtain ⟨_,_,z,_⟩:=k;cases z)
 | .tup ds,e,v,⟨a,vs,h1,h2,h3⟩,k=>by
  subst h1
  cases e with
  | tup es =>
   obtain ⟨b,ws,k1,k2,k3⟩:=k
   cases k1
   rw [h2] at k2
   cases k2
   rw [Reps.inj h3 k3]
  | lst es =>
   obtain ⟨b,ws,k1,k2,k3⟩:=k
   cases k1
   rw [h2] at k2
   cases k2
  | _=>exact absurd k (by simp [bB])
 | .lst ds,e,v,⟨a,vs,h1,h2,h3⟩,k=>by
  subst h1
  cases e with
  | lst es =>
   obtain ⟨b,ws,k1,k2,k3⟩:=k
   cases k1
   rw [h2] at k2
   cases k2
   rw [Reps.inj h3 k3]
  | tup es =>
   obtain ⟨b,ws,k1,k2,k3⟩:=k
   cases k1
   rw [h2] at k2
   cases k2
  | _=>exact absurd k (by simp [bB])
theorem Reps.inj {H:Hp}:∀ {ds es:List D} {vs:List V},Reps H ds vs->Reps H es vs->ds=es
 | [],[],_,_,_=>rfl
 | [],e :: es,_,h,k=>by cases h;obtain ⟨_,_,z,_⟩:=k;cases z
 | d :: ds,[],_,h,k=>by cases k;obtain ⟨_,_,z,_⟩:=h;cases z
 | d :: ds,e :: es,_,⟨v,r,h1,h2,h3⟩,⟨w,q,k1,k2,k3⟩=>by
  subst h1
  cases k1
  rw [bB.inj h2 k2,Reps.inj h3 k3]
end
mutual
theorem iM:∀ d:D,eqD d d=true
 | .non=>rfl
 | .bl b=>by simp [eqD]
 | .int b=>by simp [eqD]
 | .str b=>by simp [eqD]
 | .tup xs=>by rw [eqD];exact pE xs
 | .lst xs=>by rw [eqD];exact pE xs
theorem pE:∀ ds:List D,eqDs ds ds=true
 | []=>rfl
 | d :: ds=>by rw [eqDs,iM d,pE ds];rfl
end
theorem sA (n:Nat)(f:Nat->Bool):(List.range (n + 1)).all f=(f 0 && (List.range n).all fun j=>f (j + 1)):=by
 have e:=List.range_succ_eq_map (n:=n);rw [e,List.all_cons,List.all_map]
 rfl
theorem gU:∀ ds es:List D,eqDs ds es=((List.range (min ds.length es.length)).all (fun j=>eqD (ds.getD j .non) (es.getD j .non)) && ds.length == es.length)
 | [],[]=>rfl
 | [],e :: es=>by simp [eqDs]
 | d :: ds,[]=>by simp [eqDs]
 | d :: ds,e :: es=>by
  rw [eqDs,gU ds es]
  have e1:min (d :: ds).length (e :: es).length=min ds.length es.length + 1:=by simp only [List.length_cons];omega
  rw [e1,sA]
  simp only [List.getD_cons_zero,List.getD_cons_succ,List.length_cons]
  rw [Bool.and_assoc]
  congr 2
  rw [Bool.eq_iff_iff];simp
section
variable {P:Program}{w:World}{H:Hp}{s:Shared}
theorem gT (ok:gX P w H s.heap){a:Addr}{vs:List V}(h:H a=some (.lst vs)):∃ its:bP,aU vs its/\s.heap.IsList a its.toArray:=by
 obtain ⟨_,its,n,r,e⟩:=ok a _ h
 exact ⟨its,r,⟨_,e,rfl,n,rfl⟩⟩
theorem iX (ok:gX P w H s.heap){a:Addr}{vs:List V}(h:H a=some (.tup vs)):∃ its:bP,aU vs its/\s.heap.IsTuple a its.toArray:=by
 obtain ⟨_,its,r,e⟩:=ok a _ h
 exact ⟨its,r,e⟩
theorem eD (A:Around):A.in1.units=A.units + 1:=rfl
noncomputable def OZ (u:Value):Prop:=u = .none∨(∃ b,u = .bool b)∨(∃ i t,u = .int i t)∨(∃ x t,u = .str x t)∨∃ a,u = .ref a
theorem FR {H:Hp}{d:D}{v:V}{u:Value}(h:bB H d v)(r:aX v u):OZ u:=by
 cases d with
 | non=>cases h;exact .inl r
 | bl b=>cases h;exact .inr (.inl ⟨b,r⟩)
 | int i=>cases h;obtain ⟨t,e⟩:=r;exact .inr (.inr (.inl ⟨i,t,e⟩))
 | str x=>cases h;obtain ⟨t,e⟩:=r;exact .inr (.inr (.inr (.inl ⟨x,t,e⟩)))
 | tup ds=>obtain ⟨a,vs,e,_⟩:=h;subst e;exact .inr (.inr (.inr (.inr ⟨a,r⟩)))
 | lst ds=>obtain ⟨a,vs,e,_⟩:=h;subst e;exact .inr (.inr (.inr (.inr ⟨a,r⟩)))
theorem LA {A:Around}{s:Shared}{u u':Value}{b:Bool}(hu:OZ u)(hu':OZ u')(hs:u≠u')(q:RcAt A s u u' b):EqAt A s u u' b:=by
 intro prog w E Q hq
 unfold eqBool
 refine wpAny_holding ?_
 refine wpAny_ite_split (fun hab=>absurd (eq_of_beq hab) hs) (fun _=>?_)
 have q':=q prog w E (fun v s'=>wpAny (model prog w) A (truthOfDropped v) Q E s') (wpAny_truthy_bool hq)
 rcases hu with rfl | ⟨_,rfl⟩ | ⟨_,_,rfl⟩ | ⟨_,_,rfl⟩ | ⟨_,rfl⟩ <;> rcases hu' with rfl | ⟨_,rfl⟩ | ⟨_,_,rfl⟩ | ⟨_,_,rfl⟩ | ⟨_,rfl⟩ <;> exact wpAny_bind q'
theorem CQ {A:Around}{d e:D}{v v':V}{u u':Value}(h:bB H d v)(k:bB H e v')(r:aX v u)(r':aX v' u')(q:RcAt A s u u' (eqD d e)):EqAt A s u u' (eqD d e):=by
 by_cases hs:u=u'
 ·subst hs
  have e1:v=v':=r.inj r'
  subst e1
  have e2:=bB.inj h k
  subst e2
  rw [iM]
  exact EqAt.same u
 ·exact LA (FR h r) (FR k r') hs q
noncomputable def qN (s:Shared)(H:Hp)(n:Nat):Prop:=∀ (d e:D) (A:Around) (v v':V) (u u':Value),depD d < n->bB H d v->bB H e v'->aX v u->aX v' u'->A.units + depD d < cLine->RcAt A s u u' (eqD d e)
theorem wW {n:Nat}(ih:qN s H n):∀ {ds es:List D} {A:Around} {vs ws:List V} {us us':bP},depDs ds < n->Reps H ds vs->Reps H es ws->aU vs us->aU ws us'->A.units + depDs ds < cLine ->
  ∀ j (h1:j < us.length) (h2:j < us'.length),EqAt A s us[j] us'[j] (eqD (ds.getD j .non) (es.getD j .non)):=by
 intro ds
 induction ds with
 | nil=>intro es A vs ws us us' _ h _ r _ _ j h1;cases h;cases r;exact absurd h1 (Nat.not_lt_zero _)
 | cons d ds hs =>
  intro es A vs ws us us' hn h k r r' hu j h1 h2
  cases es with
  | nil=>cases k;cases r';exact absurd h2 (Nat.not_lt_zero _)
  | cons e es =>
   obtain ⟨v,vr,q1,q2,q3⟩:=h
   obtain ⟨y,wr,p1,p2,p3⟩:=k
   subst q1 p1
   rw [depDs] at hu hn
   cases r with
   | cons r1 r2 =>
    cases r' with
    | cons r1' r2' =>
     cases j with
     | zero=>exact CQ q2 p2 r1 r1' (ih d e A v y _ _ (Nat.lt_of_le_of_lt (Nat.le_max_left _ _) hn) q2 p2 r1 r1' (Nat.lt_of_le_of_lt (Nat.add_le_add_left (Nat.le_max_left _ _) _) hu))
     | succ j=>exact hs (Nat.lt_of_le_of_lt (Nat.le_max_right _ _) hn) q3 p3 r2 r2' (Nat.lt_of_le_of_lt (Nat.add_le_add_left (Nat.le_max_right _ _) _) hu) j (Nat.lt_of_succ_lt_succ h1) (Nat.lt_of_succ_lt_succ h2)
theorem JK (ok:gX P w H s.heap){n:Nat}(ih:qN s H n){ds es:List D}{A:Around}{v v':V}{u u':Value}(hn:depDs ds < n)(h:bB H (.tup ds) v)(k:bB H (.tup es) v')(r:aX v u)(r':aX v' u')(hu:A.units + depDs ds + 1 < cLine):RcAt A s u u' (eqD (.tup ds) (.tup es)):=by
 obtain ⟨a,vs,h1,h2,h3⟩:=h
 obtain ⟨b,ws,k1,k2,k3⟩:=k
 subst h1 k1;cases r;cases r'
 obtain ⟨its,rv,hl⟩:=iX ok h2
 obtain ⟨its2,rv2,hl2⟩:=iX ok k2
 have q:=RcAt.tuples (A:=A) hl hl2 (by omega) (e:=fun j=>eqD (ds.getD j .non) (es.getD j .non)) fun j h1 h2=>wW ih hn h3 k3 rv rv2 (A:=A.in1) (by rw [eD];omega) j h1 h2
 have e1:its.toArray.size=ds.length:=by rw [List.size_toArray,← rv.length,h3.length]
 have e2:its2.toArray.size=es.length:=by rw [List.size_toArray,← rv2.length,k3.length]
 rw [e1,e2,← gU] at q
 exact q
theorem JL (ok:gX P w H s.heap){n:Nat}(ih:qN s H n){ds es:List D}{A:Around}{v v':V}{u u':Value}(hn:depDs ds < n)(h:bB H (.lst ds) v)(k:bB H (.lst es) v')(r:aX v u)(r':aX v' u')(hu:A.units + depDs ds + 1 < cLine):RcAt A s u u' (eqD (.lst ds) (.lst es)):=by
 obtain ⟨a,vs,h1,h2,h3⟩:=h
 obtain ⟨b,ws,k1,k2,k3⟩:=k
 subst h1 k1;cases r;cases r'
 obtain ⟨its,rv,hl⟩:=gT ok h2
 obtain ⟨its2,rv2,hl2⟩:=gT ok k2
 have e1:its.toArray.size=ds.length:=by rw [List.size_toArray,← rv.length,h3.length]
 have e2:its2.toArray.size=es.length:=by rw [List.size_toArray,← rv2.length,k3.length]
 by_cases hz:its.toArray.size=its2.toArray.size
 ·have q:=RcAt.lists (A:=A) hl hl2 hz (by omega) (e:=fun j=>eqD (ds.getD j .non) (es.getD j .non)) fun j h1 h2=>wW ih hn h3 k3 rv rv2 (A:=A.in1) (by rw [eD];omega) j h1 h2
  have e3:ds.length=es.length:=by rw [← e1,← e2];exact hz
  have e4:eqD (.lst ds) (.lst es)=(List.range its.toArray.size).all fun j=>eqD (ds.getD j .non) (es.getD j .non):=by
   rw [eqD,gU,e3,Nat.min_self,e1,e3,beq_self_eq_true,Bool.and_true]
  rw [e4]
  exact q
 ·have q:=RcAt.lists_lengths (A:=A) hl hl2 (bne_iff_ne.mpr hz) (by omega)
  have e4:eqD (.lst ds) (.lst es)=false:=by
   rw [eqD,gU]
   have:(ds.length == es.length)=false:=beq_eq_false_iff_ne.mpr (by rw [← e1,← e2];exact hz)
   rw [this,Bool.and_false]
  rw [e4]
  exact q
inductive Kd (s:Shared):D->Value->Prop
 | non:Kd s .non .none
 | bl (b:Bool):Kd s (.bl b) (.bool b)
 | int (i:Int) (t:Tok):Kd s (.int i) (.int i t)
 | str (x:Str) (t:Tok):Kd s (.str x) (.str x t)
 | tup {ds:List D} {a:Addr} {its:bP}:s.heap.IsTuple a its.toArray->Kd s (.tup ds) (.ref a)
 | lst {ds:List D} {a:Addr} {its:bP}:s.heap.IsList a its.toArray->Kd s (.lst ds) (.ref a)
theorem CK (ok:gX P w H s.heap):∀ {d:D} {v:V} {u:Value},bB H d v->aX v u->Kd s d u
 | .non,_,_,h,r=>by cases h;cases r;exact .non
 | .bl b,_,_,h,r=>by cases h;cases r;exact .bl b
 | .int i,_,_,h,r=>by cases h;obtain ⟨t,rfl⟩:=r;exact .int i t
 | .str x,_,_,h,r=>by cases h;obtain ⟨t,rfl⟩:=r;exact .str x t
 | .tup _,_,_,⟨_,_,e,h,_⟩,r=>by subst e;cases r;obtain ⟨_,_,hl⟩:=iX ok h;exact .tup hl
 | .lst _,_,_,⟨_,_,e,h,_⟩,r=>by subst e;cases r;obtain ⟨_,_,hl⟩:=gT ok h;exact .lst hl
theorem JM {A:Around}{d e:D}{u u':Value}(hA:A.units < cLine)(h:Kd s d u)(k:Kd s e u')(n1:∀ xs ys,d = .tup xs->e≠.tup ys)(n2:∀ xs ys,d = .lst xs->e≠.lst ys):RcAt A s u u' (eqD d e):=by
 cases h with
 | non=>cases k with
  | non=>exact RcAt.none_none
  | bl c=>exact RcAt.none_bool c
  | int c t=>exact RcAt.none_int c t
  | str c t=>exact RcAt.none_str c t
  | tup l=>exact RcAt.none_tuple l hA
  | lst l=>exact RcAt.none_list l hA
 | bl x=>cases k with
  | non=>exact RcAt.bool_none x
  | bl c=>exact RcAt.bool_bool x c
  | int c t=>exact RcAt.bool_int x c t
  | str c t=>exact RcAt.bool_str x c t
  | tup l=>exact RcAt.bool_tuple x l hA
  | lst l=>exact RcAt.bool_list x l hA
 | int x tx=>cases k with
  | non=>exact RcAt.int_none x tx
  | bl c=>exact RcAt.int_bool x tx c
  | int c t=>exact RcAt.int_int x tx c t
  | str c t=>exact RcAt.int_str x tx c t
  | tup l=>exact RcAt.int_tuple x tx l hA
  | lst l=>exact RcAt.int_list x tx l hA
 | str x tx=>cases k with
  | non=>exact RcAt.str_none x tx
  | bl c=>exact RcAt.str_bool x tx c
  | int c t=>exact RcAt.str_int x tx c t
  | str c t=>exact RcAt.str_str x tx c t
  | tup l=>exact RcAt.str_tuple x tx l hA
  | lst l=>exact RcAt.str_list x tx l hA
 | tup m=>cases k with
  | non=>exact RcAt.tuple_none m hA
  | bl c=>exact RcAt.tuple_bool c m hA
  | int c t=>exact RcAt.tuple_int c t m hA
  | str c t=>exact RcAt.tuple_str c t m hA
  | tup l=>exact absurd rfl (n1 _ _ rfl)
  | lst l=>exact RcAt.tuple_list m l hA
 | lst m=>cases k with
  | non=>exact RcAt.list_none m hA
  | bl c=>exact RcAt.list_bool c m hA
  | int c t=>exact RcAt.list_int c t m hA
  | str c t=>exact RcAt.list_str c t m hA
  | tup l=>exact RcAt.list_tuple m l hA
  | lst l=>exact absurd rfl (n2 _ _ rfl)
theorem nJ (ok:gX P w H s.heap):∀ n,qN s H n
 | 0=>fun _ _ _ _ _ _ _ h=>absurd h (Nat.not_lt_zero _)
 | n + 1=>fun d e A v v' u u' hn h k r r' hu=>by
  have hA:A.units < cLine:=Nat.lt_of_le_of_lt (Nat.le_add_right _ _) hu
  by_cases c1:∃ xs ys,d = .tup xs/\e = .tup ys
  ·obtain ⟨xs,ys,rfl,rfl⟩:=c1
   rw [depD] at hu hn
   exact JK ok (nJ ok n) (Nat.lt_of_succ_lt_succ hn) h k r r' hu
  ·by_cases c2:∃ xs ys,d = .lst xs/\e = .lst ys
   ·obtain ⟨xs,ys,rfl,rfl⟩:=c2
    rw [depD] at hu hn
    exact JL ok (nJ ok n) (Nat.lt_of_succ_lt_succ hn) h k r r' hu
   ·exact JM hA (CK ok h r) (CK ok k r') (fun xs ys e1 e2=>c1 ⟨xs,ys,e1,e2⟩) (fun xs ys e1 e2=>c2 ⟨xs,ys,e1,e2⟩)
theorem rcAtD (ok:gX P w H s.heap)(d e:D)(A:Around)(v v':V)(u u':Value)(h:bB H d v)(k:bB H e v')(r:aX v u)(r':aX v' u')(hu:A.units + depD d < cLine):RcAt A s u u' (eqD d e):=nJ ok _ d e A v v' u u' (Nat.lt_succ_self _) h k r r' hu
theorem eqAtD (ok:gX P w H s.heap)(d e:D)(A:Around)(v v':V)(u u':Value)(h:bB H d v)(k:bB H e v')(r:aX v u)(r':aX v' u')(hu:A.units + depD d < cLine):EqAt A s u u' (eqD d e):=CQ h k r r' (rcAtD ok d e A v v' u u' h k r r' hu)
end
section
variable {X:Cx}
noncomputable def rEqD:R2:=fun x y H Q=>∃ d e,bB H d x/\bB H e y/\depD d<=60/\Q (.bl (eqD d e)) H
noncomputable def rNeD:R2:=fun x y H Q=>∃ d e,bB H d x/\bB H e y/\depD d<=60/\Q (.bl (!eqD d e)) H
theorem eF (hu:X.A.units + 64 < cLine):iZ X (compareOp .Eq) rEqD:=by
 intro pins s σ H x y v u Q I rx ry h
 obtain ⟨d,e,hd,he,hz,q⟩:=h
 exact rcAtD I.hok d e X.A x y v u hd he rx ry (by omega) X.prog X.w X.xe _ ⟨.bl _,H,I,rfl,q⟩
end
section
variable {P:Program}{w:World}{H:Hp}{s:Shared}
theorem JH (ok:gX P w H s.heap){ds es:List D}{A:Around}{v v':V}{u u':Value}(h:bB H (.tup ds) v)(k:bB H (.tup es) v')(r:aX v u)(r':aX v' u')(hu:A.units + depDs ds + 1 < cLine):RcNeAt A s u u' (!eqD (.tup ds) (.tup es)):=by
 obtain ⟨a,vs,h1,h2,h3⟩:=h
 obtain ⟨b,ws,k1,k2,k3⟩:=k
 subst h1 k1;cases r;cases r'
 obtain ⟨its,rv,hl⟩:=iX ok h2
 obtain ⟨its2,rv2,hl2⟩:=iX ok k2
 have q:=RcNeAt.tuples (A:=A) hl hl2 (by omega) (e:=fun j=>eqD (ds.getD j .non) (es.getD j .non)) fun j h1 h2=>wW (nJ ok _) (Nat.lt_succ_self _) h3 k3 rv rv2 (A:=A.in1) (by rw [eD];omega) j h1 h2
 have e1:its.toArray.size=ds.length:=by rw [List.size_toArray,← rv.length,h3.length]
 have e2:its2.toArray.size=es.length:=by rw [List.size_toArray,← rv2.length,k3.length]
 rw [e1,e2,← gU] at q
 exact q
theorem JI (ok:gX P w H s.heap){ds es:List D}{A:Around}{v v':V}{u u':Value}(h:bB H (.lst ds) v)(k:bB H (.lst es) v')(r:aX v u)(r':aX v' u')(hu:A.units + depDs ds + 1 < cLine):RcNeAt A s u u' (!eqD (.lst ds) (.lst es)):=by
 obtain ⟨a,vs,h1,h2,h3⟩:=h
 obtain ⟨b,ws,k1,k2,k3⟩:=k
 subst h1 k1;cases r;cases r'
 obtain ⟨its,rv,hl⟩:=gT ok h2
 obtain ⟨its2,rv2,hl2⟩:=gT ok k2
 have e1:its.toArray.size=ds.length:=by rw [List.size_toArray,← rv.length,h3.length]
 have e2:its2.toArray.size=es.length:=by rw [List.size_toArray,← rv2.length,k3.length]
 by_cases hz:its.toArray.size=its2.toArray.size
 ·have q:=RcNeAt.lists (A:=A) hl hl2 hz (by omega) (e:=fun j=>eqD (ds.getD j .non) (es.getD j .non)) fun j h1 h2=>wW (nJ ok _) (Nat.lt_succ_self _) h3 k3 rv rv2 (A:=A.in1) (by rw [eD];omega) j h1 h2
  have e3:ds.length=es.length:=by rw [← e1,← e2];exact hz
  have e4:eqD (.lst ds) (.lst es)=(List.range its.toArray.size).all fun j=>eqD (ds.getD j .non) (es.getD j .non):=by
   rw [eqD,gU,e3,Nat.min_self,e1,e3,beq_self_eq_true,Bool.and_true]
  rw [e4]
  exact q
 ·have q:=RcNeAt.lists_lengths (A:=A) hl hl2 (bne_iff_ne.mpr hz) (by omega)
  have e4:eqD (.lst ds) (.lst es)=false:=by
   rw [eqD,gU]
   have:(ds.length == es.length)=false:=beq_eq_false_iff_ne.mpr (by rw [← e1,← e2];exact hz)
   rw [this,Bool.and_false]
  rw [e4]
  exact q
theorem JJ {A:Around}{d e:D}{u u':Value}(hA:A.units < cLine)(h:Kd s d u)(k:Kd s e u')(n1:∀ xs ys,d = .tup xs->e≠.tup ys)(n2:∀ xs ys,d = .lst xs->e≠.lst ys):RcNeAt A s u u' (!eqD d e):=by
 cases h with
 | non=>cases k with
  | non=>exact RcNeAt.none_none
  | bl c=>exact RcNeAt.none_bool c
  | int c t=>exact RcNeAt.none_int c t
  | str c t=>exact RcNeAt.none_str c t
  | tup l=>exact RcNeAt.none_tuple l hA
  | lst l=>exact RcNeAt.none_list l hA
 | bl x=>cases k with
  | non=>exact RcNeAt.bool_none x
  | bl c=>exact RcNeAt.bool_bool x c
  | int c t=>exact RcNeAt.bool_int x c t
  | str c t=>exact RcNeAt.bool_str x c t
  | tup l=>exact RcNeAt.bool_tuple x l hA
  | lst l=>exact RcNeAt.bool_list x l hA
 | int x tx=>cases k with
  | non=>exact RcNeAt.int_none x tx
  | bl c=>exact RcNeAt.int_bool x tx c
  | int c t=>exact RcNeAt.int_int x tx c t
  | str c t=>exact RcNeAt.int_str x tx c t
  | tup l=>exact RcNeAt.int_tuple x tx l hA
  | lst l=>exact RcNeAt.int_list x tx l hA
 | str x tx=>cases k with
  | non=>exact RcNeAt.str_none x tx
  | bl c=>exact RcNeAt.str_bool x tx c
  | int c t=>exact RcNeAt.str_int x tx c t
  | str c t=>exact RcNeAt.str_str x tx c t
  | tup l=>exact RcNeAt.str_tuple x tx l hA
  | lst l=>exact RcNeAt.str_list x tx l hA
 | tup m=>cases k with
  | non=>exact RcNeAt.tuple_none m hA
  | bl c=>exact RcNeAt.tuple_bool c m hA
  | int c t=>exact RcNeAt.tuple_int c t m hA
  | str c t=>exact RcNeAt.tuple_str c t m hA
  | tup l=>exact absurd rfl (n1 _ _ rfl)
  | lst l=>exact RcNeAt.tuple_list m l hA
 | lst m=>cases k with
  | non=>exact RcNeAt.list_none m hA
  | bl c=>exact RcNeAt.list_bool c m hA
  | int c t=>exact RcNeAt.list_int c t m hA
  | str c t=>exact RcNeAt.list_str c t m hA
  | tup l=>exact RcNeAt.list_tuple m l hA
  | lst l=>exact absurd rfl (n2 _ _ rfl)
theorem JN (ok:gX P w H s.heap)(d e:D)(A:Around)(v v':V)(u u':Value)(h:bB H d v)(k:bB H e v')(r:aX v u)(r':aX v' u')(hu:A.units + depD d < cLine):RcNeAt A s u u' (!eqD d e):=by
 have hA:A.units < cLine:=Nat.lt_of_le_of_lt (Nat.le_add_right _ _) hu
 by_cases c1:∃ xs ys,d = .tup xs/\e = .tup ys
 ·obtain ⟨xs,ys,rfl,rfl⟩:=c1
  rw [depD] at hu
  exact JH ok h k r r' hu
 ·by_cases c2:∃ xs ys,d = .lst xs/\e = .lst ys
  ·obtain ⟨xs,ys,rfl,rfl⟩:=c2
   rw [depD] at hu
   exact JI ok h k r r' hu
  ·exact JJ hA (CK ok h r) (CK ok k r') (fun xs ys e1 e2=>c1 ⟨xs,ys,e1,e2⟩) (fun xs ys e1 e2=>c2 ⟨xs,ys,e1,e2⟩)
end
section
variable {X:Cx}
theorem fG (hu:X.A.units + 64 < cLine):iZ X (compareOp .NotEq) rNeD:=by
 intro pins s σ H x y v u Q I rx ry h
 obtain ⟨d,e,hd,he,hz,q⟩:=h
 exact JN I.hok d e X.A x y v u hd he rx ry (by omega) X.prog X.w X.xe _ ⟨.bl _,H,I,rfl,q⟩
noncomputable def inD (d:D)(ds:List D):Bool:=ds.any fun e=>eqD e d
noncomputable def rInD (neg:Bool):R2:=fun x y H Q=>∃ d ds,bB H d x/\(bB H (.lst ds) y∨bB H (.tup ds) y)/\depDs ds<=60/\Q (.bl (if neg then !inD d ds else inD d ds)) H
open Classical in
noncomputable def datOf (H:Hp)(y:Value):D:=if h:∃ d v,absV y=some v/\bB H d v then h.choose else .non
theorem IE {H:Hp}{d:D}{v:V}{y:Value}(r:aX v y)(h:bB H d v):datOf H y=d:=by
 have e:∃ d v,absV y=some v/\bB H d v:=⟨d,v,r.abs,h⟩
 unfold datOf
 rw [dif_pos e]
 obtain ⟨v',h1,h2⟩:=e.choose_spec
 rw [r.abs] at h1
 cases h1
 exact bB.inj h2 h
theorem rP {P:Program}{w:World}{H:Hp}{s:Shared}(ok:gX P w H s.heap){A:Around}{d:D}{v:V}{u:Value}(h:bB H d v)(r:aX v u):∀ (ds:List D) (vs:List V) (us:bP),Reps H ds vs->aU vs us->A.units + depDs ds < cLine ->
  (∀ y ∈ us,EqAt A s y u (eqD (datOf H y) d))/\us.any (fun y=>eqD (datOf H y) d)=inD d ds
 | [],vs,us,h1,r1,_=>by cases h1;cases r1;exact ⟨by simp,rfl⟩
 | e :: ds,vs,us,h1,r1,hu=>by
  obtain ⟨v1,vr,q1,q2,q3⟩:=h1
  subst q1
  rw [depDs] at hu
  cases r1 with
  | @cons _ u1 _ ur r1 r2 =>
   obtain ⟨hf,hs⟩:=rP ok (A:=A) h r ds vr ur q3 r2 (by omega)
   have hd:=eqAtD ok e d A v1 v u1 u q2 h r1 r (by omega)
   have e1:=IE r1 q2
   refine ⟨fun y hy=>?_,?_⟩
   ·rcases List.mem_cons.mp hy with z | z
    ·subst z;rw [e1];exact hd
    ·exact hf y z
   ·rw [List.any_cons,e1,hs];rfl
theorem M0 (hu:X.A.units + 64 < cLine):iZ X (compareOp .In) (fun x y H Q=>rInD false x y H Q∨∃ i j,x = .str i/\y = .str j/\Q (.bl (!(Builtin.Str.occurrences j i 0 j.length 1).isEmpty)) H):=by
 refine iZ.or ?_ lM
 intro pins s σ H x y v u Q I rx ry h
 obtain ⟨d,ds,hd,hy,hz,q⟩:=h
 have q:Q (.bl (inD d ds)) H:=q
 rcases hy with ⟨a,vs,e,ha,hr⟩ | ⟨a,vs,e,ha,hr⟩
 ·subst e;cases ry
  obtain ⟨its,rv,hl⟩:=gT I.hok ha
  obtain ⟨h1,h2⟩:=rP I.hok (A:=X.A.in1) hd rx ds vs its hr rv (by rw [eD];omega)
  refine in_listAt (fun y=>eqD (datOf H y) d) hl (fun y hy=>h1 y (by simpa using hy)) ?_
  refine ⟨.bl (inD d ds),H,I,?_,q⟩
  show _=Value.bool _
  rw [← h2];simp
 ·subst e;cases ry
  obtain ⟨its,rv,hl⟩:=iX I.hok ha
  obtain ⟨h1,h2⟩:=rP I.hok (A:=X.A.in1) hd rx ds vs its hr rv (by rw [eD];omega)
  refine in_tupleAt (fun y=>eqD (datOf H y) d) hl (fun y hy=>h1 y (by simpa using hy)) ?_
  refine ⟨.bl (inD d ds),H,I,?_,q⟩
  show _=Value.bool _
  rw [← h2];simp
theorem tR (hu:X.A.units + 64 < cLine):iZ X (compareOp .NotIn) (fun x y H Q=>rInD true x y H Q∨∃ i j,x = .str i/\y = .str j/\Q (.bl (!(!(Builtin.Str.occurrences j i 0 j.length 1).isEmpty))) H):=by
 refine iZ.or ?_ wA
 intro pins s σ H x y v u Q I rx ry h
 obtain ⟨d,ds,hd,hy,hz,q⟩:=h
 have q:Q (.bl (!inD d ds)) H:=q
 rcases hy with ⟨a,vs,e,ha,hr⟩ | ⟨a,vs,e,ha,hr⟩
 ·subst e;cases ry
  obtain ⟨its,rv,hl⟩:=gT I.hok ha
  obtain ⟨h1,h2⟩:=rP I.hok (A:=X.A.in1) hd rx ds vs its hr rv (by rw [eD];omega)
  refine notIn_listAt (fun y=>eqD (datOf H y) d) hl (fun y hy=>h1 y (by simpa using hy)) ?_
  refine ⟨.bl (!inD d ds),H,I,?_,q⟩
  show _=Value.bool _
  rw [← h2];simp
 ·subst e;cases ry
  obtain ⟨its,rv,hl⟩:=iX I.hok ha
  obtain ⟨h1,h2⟩:=rP I.hok (A:=X.A.in1) hd rx ds vs its hr rv (by rw [eD];omega)
  refine notIn_tupleAt (fun y=>eqD (datOf H y) d) hl (fun y hy=>h1 y (by simpa using hy)) ?_
  refine ⟨.bl (!inD d ds),H,I,?_,q⟩
  show _=Value.bool _
  rw [← h2];simp
end
end L2
namespace L2
open PySem PySem.Spec PyProof.Rows
section
variable {X:Cx}{pins:dE}{σ:St}{H:Hp}{s:Shared}
noncomputable def tyN (H:Hp):V->Option String
 | .non=>some "NoneType"
 | .bl _=>some "bool"
 | .int _=>some "int"
 | .str _=>some "str"
 | .ref p=>match H p with
  | some (.lst _)=>some "list"
  | some (.tup _)=>some "tuple"
  | some (.dK _)=>some "dict"
  | _=>none
 | _=>none
noncomputable def okT (c:String):Bool:=c == "str" || c == "int" || c == "bool" || c == "list" || c == "tuple" || c == "dict"
noncomputable def subT (t c:String):Bool:=t == c || (t == "bool" && c == "int")
noncomputable def tysV:List V->Option (List String)
 | []=>some []
 | .ty n :: r=>(tysV r).map (n :: ·)
 | _ :: _=>none
noncomputable def clsV (H:Hp):V->Option (List String)
 | .ty n=>some [n]
 | .ref p=>match H p with
  | some (.tup vs)=>tysV vs
  | _=>none
 | _=>none
noncomputable def isV (H:Hp)(x c:V):Option Bool:=match tyN H x,clsV H c with
 | some t,some cs=>if cs.all okT then some (cs.any (subT t)) else none
 | _,_=>none
theorem OG {x:V}{u:Value}{t:String}(I:aO X pins σ H s)(rx:aX x u)(e:tyN H x=some t) :
  ∃ HH:Heap->Prop,PySem.W.KitX X.K u (.type t) HH/\HH s.heap/\u≠.builtin "__main__.__loader__#opaque":=by
 cases x with
 | non=>cases e;cases rx;exact ⟨_,PySem.W.kitx_none,True.intro,fun z=>nomatch z⟩
 | bl b=>cases e;cases rx;exact ⟨_,PySem.W.kitx_bool,True.intro,fun z=>nomatch z⟩
 | int i=>cases e;obtain ⟨t,rfl⟩:=rx;exact ⟨_,PySem.W.kitx_int,True.intro,fun z=>nomatch z⟩
 | str i=>cases e;obtain ⟨t,rfl⟩:=rx;exact ⟨_,PySem.W.kitx_str,True.intro,fun z=>nomatch z⟩
 | ref p =>
  cases rx
  unfold tyN at e
  dsimp only at e
  split at e
  ·rename_i xs hp;cases e
   obtain ⟨_,_,n,_,h1⟩:=(show cE X.prog X.w H s.heap p (.lst xs) from I.hok p _ hp)
   exact ⟨_,PySem.W.kitx_list,⟨_,h1,rfl⟩,fun z=>nomatch z⟩
  ·rename_i xs hp;cases e
   obtain ⟨_,_,_,o,h1,h2,_⟩:=(show cE X.prog X.w H s.heap p (.tup xs) from I.hok p _ hp)
   exact ⟨_,PySem.W.kitx_tuple,⟨o,h1,h2⟩,fun z=>nomatch z⟩
  ·rename_i kvs hp;cases e
   obtain ⟨_,_,vs,_,o,es,ep,h1,h2,_⟩:=(show cE X.prog X.w H s.heap p (.dK kvs) from I.hok p _ hp)
   exact ⟨_,PySem.W.kitx_dict,⟨o,h1,h2.1⟩,fun z=>nomatch z⟩
  ·cases e
 | _=>cases e
theorem MC {x:V}{t:String}(e:tyN H x=some t):t="NoneType"∨t="bool"∨t="int"∨t="str"∨t="list"∨t="tuple"∨t="dict":=by
 cases x with
 | non=>cases e;simp
 | bl b=>cases e;simp
 | int i=>cases e;simp
 | str i=>cases e;simp
 | ref p =>
  unfold tyN at e
  dsimp only at e
  split at e <;> cases e <;> simp
 | _=>cases e
theorem M8 {c:String}(e:okT c=true):c="str"∨c="int"∨c="bool"∨c="list"∨c="tuple"∨c="dict":=by
 simp only [okT,Bool.or_eq_true,beq_iff_eq] at e
 rcases e with ((((e | e) | e) | e) | e) | e <;> simp [e]
theorem CG {K:PySem.W.Frag}{x:V}{t c:String}(e:tyN H x=some t)(hc:okT c=true):PySem.W.kitOne K (.type t) (.type c)=some (subT t c):=by
 rcases MC e with rfl | rfl | rfl | rfl | rfl | rfl | rfl <;> rcases M8 hc with rfl | rfl | rfl | rfl | rfl | rfl <;> with_unfolding_all rfl
theorem CH {K:PySem.W.Frag}{x:V}{t:String}(e:tyN H x=some t):∀ {cs:List String},cs.all okT=true->PySem.W.kitAny K (.type t) (cs.map Value.type)=some (cs.any (subT t))
 | [],_=>rfl
 | c :: r,h=>by
  replace h:=Bool.and_eq_true_iff.mp (List.all_cons ▸ h)
  rw [List.map_cons]
  unfold PySem.W.kitAny
  rw [CG e h.1]
  cases q:subT t c with
  | true=>simp [q]
  | false=>simp only [List.any_cons,q,Bool.false_or];exact CH e h.2
theorem tI:∀ {vs:List V} {cs:List String} {us:bP},tysV vs=some cs->aU vs us->us=cs.map Value.type
 | [],cs,us,h,r=>by cases h;cases r;rfl
 | .ty n :: vs,cs,us,h,r=>by
  unfold tysV at h
  cases e:tysV vs with
  | none=>rw [e] at h;cases h
  | some c2 =>
   rw [e] at h
   cases h
   cases r with
   | cons r1 r2 =>
    cases r1
    rw [List.map_cons,tI e r2]
 | .non :: _,_,_,h,_=>by cases h
 | .bl _ :: _,_,_,h,_=>by cases h
 | .int _ :: _,_,_,h,_=>by cases h
 | .str _ :: _,_,_,h,_=>by cases h
 | .byt _ :: _,_,_,h,_=>by cases h
 | .flt _ :: _,_,_,h,_=>by cases h
 | .ref _ :: _,_,_,h,_=>by cases h
noncomputable def rIs:List V->Hp->VK->Prop:=fun xs H Q=>∃ x c b,xs=[x,c]/\isV H x c=some b/\Q (.bl b) H
theorem aL:cR X (.builtin "isinstance") rIs:=by
 intro pins s σ H xs us Q I r h
 obtain ⟨x,c,b,rfl,e,q⟩:=h
 cases r with
 | cons rx r2 =>
  cases r2 with
  | cons rc r3 =>
   cases r3
   unfold isV at e
   split at e
   ·rename_i t cs et ec
    split at e
    ·rename_i hcs
     cases e
     obtain ⟨HH,Z,hh,hne⟩:=OG I rx et
     have fin:∀ tk,EP X pins σ Q (.bool (cs.any (subT t))) { s with toks:=tk }:=fun tk=>⟨.bl _,H,I.tok tk,rfl,q⟩
     cases c with
     | ty n =>
      cases rc
      cases ec
      have h1:okT n=true:=by simpa using hcs
      refine PySem.W.kia_one Z I.kIn hh (CG et h1) hne ?_
      intro tk
      have:=fin tk
      simpa using this
     | ref p =>
      cases rc
      unfold clsV at ec
      dsimp only at ec
      split at ec
      ·rename_i vs hp
       obtain ⟨_,its,rv,o,h1,h2,n,h3⟩:=(show cE X.prog X.w H s.heap p (.tup vs) from I.hok p _ hp)
       obtain ⟨cl,dd,dt,sl⟩:=o
       cases h2
       cases h3
       have e1:=tI ec rv
       subst e1
       exact PySem.W.kia_tup Z I.kIn hh h1 (CH et hcs) hne fin
      ·cases ec
     | _=>cases ec
    ·cases e
   ·cases e
noncomputable def seqV (H:Hp):V->Option (List V)
 | .ref p=>match H p with
  | some (.lst xs)=>some xs
  | some (.tup xs)=>some xs
  | _=>none
 | _=>none
theorem rX:cR X (.type "list") (fun xs H Q=>∃ x ys,xs=[x]/\seqV H x=some ys/\∀ l,H l=none->Q (.ref l) (upd H l (.lst ys))):=by
 refine wZ.imp fun xs H Q h=>?_
 obtain ⟨x,ys,rfl,e,q⟩:=h
 cases x with
 | ref p =>
  unfold seqV at e
  dsimp only at e
  split at e
  ·rename_i zs hp;cases e;exact ⟨p,_,rfl,.inl (eA.of hp),q⟩
  ·rename_i zs hp;cases e;exact ⟨p,_,rfl,.inr (h8.of hp),q⟩
  ·cases e
 | _=>cases e
theorem EZ:cR X (.builtin "abs") (fun xs H Q=>∃ i,xs=[.int i]/\Q (.int (if i < 0 then -i else i)) H):=IH
noncomputable def rSlF:V->Option Int->Option Int->Hp->VK->Prop:=fun x lo hi H Q=>∃ a,x = .ref a /\
 ((∃ xs,H a=some (.lst xs)/\∀ p,H p=none->Q (.ref p) (upd H p (.lst (cutV xs lo hi)))) ∨
  (∃ xs,H a=some (.tup xs)/\¬ (HT.sIx xs.length 0 lo=0/\HT.sIx xs.length xs.length hi=xs.length)/\∀ p,H p=none->Q (.ref p) (upd H p (.tup (cutV xs lo hi)))))
end
noncomputable def zF (J:It)(g:TG)(tb:TS)(D:jQ)(σ:St)(H1:Hp):Prop:=∃ W:Nat->Nat->St->Hp->Prop,(∃ m,W 0 m σ H1)/\∀ i m σ H,W i m σ H ->
 (J.stop i H/\D.nx σ H)∨(J.go i H/\∃ N:St->Hp->Prop,(∀ σ' H',N σ' H'->∃ m',m' < m/\W (i + 1) m' σ' H')/\∀ x H',J.yld i H x H'->g x σ H' fun σ2 H2=>tb { D with nx:=N,ct:=N,bk:=D.nx } σ2 H2)
theorem tFor_eq {wi:TI}{g:TG}{tb:TS}{D:jQ}{σ:St}{H:Hp}:tFor wi g tb D σ H=wi σ H fun J H1=>zF J g tb D σ H1:=rfl
noncomputable def oF (J:It)(g:TG)(tt:TT)(te:TE)(Q:VK)(σ:St)(H1:Hp):Prop:=∃ W:CW,(∃ m,W 0 m [] σ H1)/\L7 J g tt te (fun acc H=>∀ p,H p=none->Q (.ref p) (upd H p (.lst acc))) W
theorem tComp_eq {src:List (Option Nat)}{wi:TI}{g:TG}{tt:TT}{te:TE}{σ:St}{H:Hp}{Q:VK}:tComp src wi g tt te σ H Q=wi σ H fun J H1=>oF J g tt te Q (stC src σ) H1:=rfl
section
variable {X:Cx}{tg:Expr}
noncomputable def iAny (K:PySem.W.Frag)(tl:TE):TI:=fun σ H R=>tl σ H fun x H1=>∃ a,x = .ref a/\((∃ xs,H1 a=some (.lst xs)/\R (L5 K a) H1)∨(∃ xs,H1 a=some (.tup xs)/\R (L4 K a) H1))
end
section
variable {g:TG}{tb:TS}{D:jQ}{σ:St}{H:Hp}{tt:TT}{te:TE}{Q:VK}{K:PySem.W.Frag}
theorem gI {lo:Int}{n:Nat}(Pv:Nat->St->Hp->Prop)(h0:Pv 0 σ H)
  (hs:∀ i σ H,i < n->Pv i σ H->g (.int (lo + i)) σ H fun σ2 H2=>tb { D with nx:=Pv (i + 1),ct:=Pv (i + 1),bk:=D.nx } σ2 H2) (hd:∀ σ H,Pv n σ H->D.nx σ H):zF (IT lo n) g tb D σ H:=EE Pv h0 hs hd
theorem EG {a:Addr}(xs:List V)(Pv:Nat->St->Hp->Prop)(h0:Pv 0 σ H)(hl:∀ i σ H,i<=xs.length->Pv i σ H->H a=some (.lst xs))
  (hs:∀ i x σ H,xs[i]?=some x->Pv i σ H->g x σ H fun σ2 H2=>tb { D with nx:=Pv (i + 1),ct:=Pv (i + 1),bk:=D.nx } σ2 H2) (hd:∀ σ H,Pv xs.length σ H->D.nx σ H):zF (L5 K a) g tb D σ H :=
 HK Pv h0 (fun i σ H hi p=>eA.of (hl i σ H hi p)) hs hd
theorem HL {a:Addr}(xs:List V)(Pv:Nat->St->Hp->Prop)(h0:Pv 0 σ H)(hl:∀ i σ H,i<=xs.length->Pv i σ H->H a=some (.tup xs))
  (hs:∀ i x σ H,xs[i]?=some x->Pv i σ H->g x σ H fun σ2 H2=>tb { D with nx:=Pv (i + 1),ct:=Pv (i + 1),bk:=D.nx } σ2 H2) (hd:∀ σ H,Pv xs.length σ H->D.nx σ H):zF (L4 K a) g tb D σ H :=
 K4 Pv h0 (fun i σ H hi p=>h8.of (hl i σ H hi p)) hs hd
noncomputable def CStep (g:TG)(tt:TT)(te:TE)(x:V)(acc:List V)(σ:St)(H:Hp)(N:List V->St->Hp->Prop):Prop :=
 g x σ H fun σ2 H2=>tt σ2 H2 fun b H3=>if b=true then te σ2 H3 fun y H4=>acc.length < sizeLine/\N (acc ++ [y]) σ2 H4 else N acc σ2 H3
theorem kT {J:It}{n:Nat}(Pv:Nat->List V->St->Hp->Prop)(h0:Pv 0 [] σ H)
  (hs:∀ i acc σ H,i < n->Pv i acc σ H->J.go i H/\∀ x H',J.yld i H x H'->CStep g tt te x acc σ H' (Pv (i + 1)))
  (hd:∀ acc σ H,Pv n acc σ H->J.stop n H/\∀ p,H p=none->Q (.ref p) (upd H p (.lst acc))):oF J g tt te Q σ H:=by
 refine ⟨fun i m acc σ H=>m=n - i/\i<=n/\Pv i acc σ H,⟨n,by simp,Nat.zero_le _,h0⟩,?_⟩
 rintro i m acc σ H ⟨rfl,hi,p⟩
 by_cases hlt:i < n
 ·obtain ⟨go,step⟩:=hs i acc σ H hlt p
  refine .inr ⟨go,fun x H' y=>?_⟩
  have e:∀ acc σ H,(∃ m',m' < n - i/\m'=n - (i + 1)/\i + 1<=n/\Pv (i + 1) acc σ H)=Pv (i + 1) acc σ H:=fun acc σ H=>propext ⟨fun ⟨_,_,_,_,q⟩=>q,fun q=>⟨n - (i + 1),by omega,rfl,hlt,q⟩⟩
  simp only [e]
  exact step x H' y
 ·have e:i=n:=by omega
  subst e
  obtain ⟨a,b⟩:=hd acc σ H p
  exact .inl ⟨a,b⟩
theorem yZ {lo:Int}{n:Nat}(Pv:Nat->List V->St->Hp->Prop)(h0:Pv 0 [] σ H)(hs:∀ i acc σ H,i < n->Pv i acc σ H->CStep g tt te (.int (lo + i)) acc σ H (Pv (i + 1)))
  (hd:∀ acc σ H,Pv n acc σ H->∀ p,H p=none->Q (.ref p) (upd H p (.lst acc))):oF (IT lo n) g tt te Q σ H :=
 kT Pv h0 (fun i acc σ H hi p=>⟨hi,fun x H' y=>by obtain ⟨rfl,rfl⟩:=y;exact hs i acc σ _ hi p⟩) fun acc σ H p=>⟨Nat.le_refl _,hd acc σ H p⟩
theorem A8 {a:Addr}(xs:List V)(Pv:Nat->List V->St->Hp->Prop)(h0:Pv 0 [] σ H)(hl:∀ i acc σ H,i<=xs.length->Pv i acc σ H->H a=some (.lst xs))
  (hs:∀ i x acc σ H,xs[i]?=some x->Pv i acc σ H->CStep g tt te x acc σ H (Pv (i + 1))) (hd:∀ acc σ H,Pv xs.length acc σ H->∀ p,H p=none->Q (.ref p) (upd H p (.lst acc))):oF (L5 K a) g tt te Q σ H :=
 kT (n:=xs.length) Pv h0 (fun i acc σ H hi p=>⟨⟨xs,xs[i],eA.of (hl i acc σ H (Nat.le_of_lt hi) p),by simp [hi]⟩,fun x H' y=>by obtain ⟨rfl,y⟩:=y;exact hs i x acc σ _ (y xs (eA.of (hl i acc σ _ (Nat.le_of_lt hi) p))) p⟩)
  fun acc σ H p=>⟨⟨xs,eA.of (hl _ acc σ H (Nat.le_refl _) p),Nat.le_refl _⟩,hd acc σ H p⟩
theorem EO {a:Addr}(xs:List V)(Pv:Nat->List V->St->Hp->Prop)(h0:Pv 0 [] σ H)(hl:∀ i acc σ H,i<=xs.length->Pv i acc σ H->H a=some (.tup xs))
  (hs:∀ i x acc σ H,xs[i]?=some x->Pv i acc σ H->CStep g tt te x acc σ H (Pv (i + 1))) (hd:∀ acc σ H,Pv xs.length acc σ H->∀ p,H p=none->Q (.ref p) (upd H p (.lst acc))):oF (L4 K a) g tt te Q σ H :=
 kT (n:=xs.length) Pv h0 (fun i acc σ H hi p=>⟨⟨xs,xs[i],h8.of (hl i acc σ H (Nat.le_of_lt hi) p),by simp [hi]⟩,fun x H' y=>by obtain ⟨rfl,y⟩:=y;exact hs i x acc σ _ (y xs (h8.of (hl i acc σ _ (Nat.le_of_lt hi) p))) p⟩)
  fun acc σ H p=>⟨⟨xs,h8.of (hl _ acc σ H (Nat.le_refl _) p),Nat.le_refl _⟩,hd acc σ H p⟩
theorem L9 {c:TT}(Pv:St->Hp->Prop)(μ:St->Hp->Nat)(h0:Pv σ H)
  (hs:∀ σ H,Pv σ H->∃ b:Bool,(∀ R:Bool->Hp->Prop,R b H->c σ H R)/\(b=true->tb { D with nx:=fun σ' H'=>Pv σ' H'/\μ σ' H' < μ σ H,ct:=fun σ' H'=>Pv σ' H'/\μ σ' H' < μ σ H,bk:=D.nx } σ H)/\(b=false->D.nx σ H)):vA c tb D σ H:=by
 refine ⟨fun m σ H=>m=μ σ H/\Pv σ H,⟨_,rfl,h0⟩,?_⟩
 rintro m σ H ⟨rfl,p⟩
 obtain ⟨b,hc,ht,hf⟩:=hs σ H p
 refine hc _ ?_
 cases b with
 | true=>exact ⟨_,fun σ' H' ⟨p',l⟩=>⟨_,l,rfl,p'⟩,ht rfl⟩
 | false=>exact hf rfl
theorem AY {n:Nat}{i:Int}(h0:0<=i)(h1:i < n):ixN n i=some i.toNat:=by unfold ixN;rw [if_pos h0,if_pos h1]
theorem kU {α:Type}{xs:List α}{i:Int}(h0:0<=i)(h1:i < xs.length):atI xs i=xs[i.toNat]?:=by unfold atI;rw [AY h0 h1];rfl
theorem atI_zero {α:Type}{a:α}{xs:List α}:atI (a :: xs) 0=some a:=by rw [kU (by decide) (by simp only [List.length_cons];omega)];rfl
theorem atI_one {α:Type}{a b:α}{xs:List α}:atI (a :: b :: xs) 1=some b:=by rw [kU (by decide) (by simp only [List.length_cons];omega)];rfl
theorem ixN_zero {n:Nat}:ixN (n + 1) 0=some 0:=by rw [AY (by decide) (by omega)];rfl
theorem ixN_one {n:Nat}:ixN (n + 1 + 1) 1=some 1:=by rw [AY (by decide) (by omega)];rfl
end
theorem aG.upd {H:Hp}{a:Addr}{o:HO}(h:H a=none):aG H (upd H a o):=fun b u e=>by rw [aC (aD e h)];exact e
noncomputable def dM (p:Addr)(H H':Hp):Prop:=∀ b o,b≠p->H b=some o->H' b=some o
theorem dM.refl (p:Addr)(H:Hp):dM p H H:=fun _ _ _ h=>h
theorem dM.trans {p:Addr}{H H1 H2:Hp}(a:dM p H H1)(b:dM p H1 H2):dM p H H2:=fun c o n h=>b c o n (a c o n h)
theorem dM.upd (p:Addr)(H:Hp)(o:HO):dM p H (upd H p o):=fun c u n h=>by rw [aC n];exact h
theorem dM.new {p a:Addr}{H:Hp}{o:HO}(h:H a=none):dM p H (L2.upd H a o):=fun c u n e=>by rw [aC (aD e h)];exact e
theorem aG.but {p:Addr}{H H':Hp}(s:aG H H'):dM p H H':=fun b o _ h=>s b o h
end L2
namespace L2
open PySem PySem.Spec PyProof.Rows PyProof.Rows.LSm
section
variable {X:Cx}
theorem pX:∀ {bs:List Bool} {us:bP},aU (bs.map V.bl) us->BoolsAre us bs
 | [],_,r=>by cases r;exact .nil
 | b :: bs,_,r=>by
  cases r with
  | cons r1 r2=>cases r1;exact .cons b (pX r2)
theorem AZ {prog:Program}{w:World}{A:Around}{E:bX}{s:Shared}{p:Addr}{its:bP}{bs:List Bool}(d:Bool){K:Bool->Shared->Prop}{fold:Nat->(Nat->Bool)->Bool}(hh:A.handled=none)(at_:s.heap.IsList p its.toArray)(are:BoolsAre its bs)
  (k:∀ h' tk,(∀ b x,s.heap.get? b=some x->h'.get? b=some x)->K (fold bs.length fun i=>(bs[i]?).getD d) { s with heap:=h',toks:=tk }) :
  wpAny (model prog w) A (pyIter (.ref p)) (fun it t=>∃ I fp wr n P St tr,it = .ref I/\Walks prog w A I fp wr n P St/\St 0 t.heap/\TruthOf prog w A P tr /\
   ∀ h' tk,(∀ b x,b ∉ wr->t.heap.get? b=some x->h'.get? b=some x)->K (fold n tr) { t with heap:=h',toks:=tk }) E s:=by
 have ne:p≠s.heap.objs.size:=let ⟨_,e,_⟩:=id at_;Nat.ne_of_lt (Heap.lt_size e)
 have truth:TruthOf prog w A (fun i v=>its.toArray[i]?=some v) fun i=>(bs[i]?).getD d:=by
  intro i v t Q X hv hQ
  obtain ⟨b,is,rfl⟩:=LSm.BoolsAre.get are i v (by simpa using hv)
  have hQ:Q ((bs[i]?).getD d) t:=hQ
  rw [is] at hQ
  exact wpAny_truthy_bool hQ
 have len:its.toArray.size=bs.length:=(List.size_toArray ..).trans (LSm.BoolsAre.length are)
 refine wpAny_pyIter_list at_ ⟨_,_,_,_,_,_,_,rfl,Walks.list hh s.heap.objs.size p ne its.toArray,?_,truth,fun h' tk hk=>?_⟩
 ·exact aI ⟨_,Heap.get?_push_size _ rfl,rfl,rfl⟩ (at_.push _)
 ·rw [len]
  exact k h' tk (LSm.kept_iter hk)
noncomputable def rAll:List V->Hp->VK->Prop:=fun xs H Q=>∃ (p:Addr) (bs:List Bool),xs=[.ref p]/\H p=some (.lst (bs.map V.bl))/\Q (.bl (bs.all id)) H
noncomputable def rAny:List V->Hp->VK->Prop:=fun xs H Q=>∃ (p:Addr) (bs:List Bool),xs=[.ref p]/\H p=some (.lst (bs.map V.bl))/\Q (.bl (bs.any id)) H
noncomputable def rSum:List V->Hp->VK->Prop:=fun xs H Q=>∃ (p:Addr) (ns:List Int),xs=[.ref p]/\H p=some (.lst (ns.map V.int))/\Q (.int ns.sum) H
theorem rY (hc:X.calm=true){nm:String}{fold:Nat->(Nat->Bool)->Bool}{says:List Bool->Bool}(d:Bool)(is:∀ bs:List Bool,fold bs.length (fun i=>(bs[i]?).getD d)=says bs)
  (ask:∀ {s:Shared} {x:Value} {Q E:bX},wpAny (model X.prog X.w) X.A.in1 (pyIter x) (fun it t=>∃ I fp wr n P St tr,it = .ref I/\Walks X.prog X.w X.A.in1 I fp wr n P St/\St 0 t.heap/\TruthOf X.prog X.w X.A.in1 P tr /\
   ∀ h' tk,(∀ b x,b ∉ wr->t.heap.get? b=some x->h'.get? b=some x)->Q (.bool (fold n tr)) { t with heap:=h',toks:=tk }) E s->wpAny (model X.prog X.w) X.A (call (.builtin nm) [x]) Q E s) :
  cR X (.builtin nm) fun xs H Q=>∃ (p:Addr) (bs:List Bool),xs=[.ref p]/\H p=some (.lst (bs.map V.bl))/\Q (.bl (says bs)) H:=by
 rintro pins s σ H _ us Q I r ⟨p,bs,rfl,hp,q⟩
 obtain ⟨u,rfl,e⟩:=vals1 r
 cases e
 obtain ⟨its,rv,pl,_⟩:=I.list (eA.of hp)
 refine ask (AZ (K:=fun b t=>EP X pins σ Q (.bool b) t) d (show X.A.in1.handled=none from I.ok.hd hc) pl.isList (pX rv) fun h' tk hk=>?_)
 rw [is bs]
 exact ⟨.bl (says bs),H,I.kept (t':=tk) hk,rfl,q⟩
theorem lT (hc:X.calm=true):cR X (.builtin "all") rAll:=rY hc true LSm.range_all call_all_walk
theorem EY (hc:X.calm=true):cR X (.builtin "any") rAny:=rY hc false LSm.range_any call_any_walk
theorem ET (hc:X.calm=true):cR X (.builtin "max") (fun xs H Q=>∃ i j,xs=[.int i,.int j]/\Q (.int (if j > i then j else i)) H):=EU hc
theorem uR (hc:X.calm=true):cR X (.builtin "min") (fun xs H Q=>∃ i j,xs=[.int i,.int j]/\Q (.int (if j < i then j else i)) H):=ES hc
end
end L2
namespace L2
open PySem PySem.Spec PyProof.Rows
section
variable {X:Cx}{pins:dE}{σ:St}{H:Hp}{s:Shared}{h':Heap}
theorem aO.turnedL {t':Nat}{ch:List Addr}(I:aO X pins σ H s)(k:∀ b o,b ∉ ch->s.heap.get? b=some o->h'.get? b=some o)(hf:∀ b ∈ ch,fI X pins H b):aO X pins σ H { s with heap:=h',toks:=t' }:=by
 have nit:∀ b u,H b=some u->b ∉ ch:=fun b u e z=>by rw [(hf b z).1] at e;cases e
 have hL:X.env.locals ∉ ch:=fun z=>(hf _ z).2.1 rfl
 refine I.step (g':=s.gens) (d':=s.drawn) (ch:=ch) (fun b hb=>?_) (fun b o _ _ hc e _=>k b o hc e) (fun b o _ _ hc e _=>⟨o.slots,k b o hc e⟩) (fun _ _ _ _ n=>n)
  (fun b o hc e=>⟨o,k b o hc e⟩) (fun _ _ e=>e) (fun _ _ _ e=>e) (fun b ps e=>⟨#[],by rw [e];simp⟩) (fun m hm=>?_) (fun b u e=>?_) I.bare
 ·obtain ⟨f0,f1,f2,f3,f4,f5⟩:=hf b hb
  exact ⟨f3,f1,f4,f5⟩
 ·obtain ⟨o,es,ep,ho,r⟩:=hm
  exact ⟨o,es,ep,k _ o hL ho,r⟩
 ·refine (I.hok b u e).stay (fun c v hc q=>k c v ?_ q) (fun _ q=>q) fun _ _ q=>q
  rcases hc with z | z
  ·rw [z];exact nit b u e
  ·exact nit c _ z
theorem aO.turnedLaid {t':Nat}{ch:List Addr}{T:Addr}{o:HO}(I:aO X pins σ H s)(k:∀ b o,b ∉ ch->s.heap.get? b=some o->h'.get? b=some o)(hf:∀ b ∈ ch,fI X pins H b)
  (hp:s.heap.objs.size<=T) (new:cE X.prog X.w (upd H T o) h' T o):aO X pins σ (upd H T o) { s with heap:=h',toks:=t' }:=by
 have hn:H T=none:=I.hok.fresh hp
 have nit:∀ b u,H b=some u->b ∉ ch:=fun b u e z=>by rw [(hf b z).1] at e;cases e
 have hL:X.env.locals ∉ ch:=fun z=>(hf _ z).2.1 rfl
 have lt:∀ b ob,s.heap.get? b=some ob->b≠T:=fun b ob e=>Nat.ne_of_lt (Nat.lt_of_lt_of_le (Heap.lt_size e) hp)
 refine I.step (g':=s.gens) (d':=s.drawn) (ch:=ch) (fun b hb=>?_) (fun b o _ _ hc e _=>k b o hc e) (fun b o _ _ hc e _=>⟨o.slots,k b o hc e⟩) (fun b ob _ e n=>by rw [aC (lt b ob e)];exact n)
  (fun b o hc e=>⟨o,k b o hc e⟩) (fun b xs e=>by rw [aC (aD e hn)];exact e) (fun b _ _ e=>by rw [aC (aD e hn)];exact e) (fun b ps e=>⟨#[],by rw [aC (aD e hn),e];simp⟩) (fun m hm=>?_) (fun b u e=>?_) I.bare
 ·obtain ⟨f0,f1,f2,f3,f4,f5⟩:=hf b hb
  exact ⟨f3,f1,f4,f5⟩
 ·obtain ⟨o,es,ep,ho,r⟩:=hm
  exact ⟨o,es,ep,k _ o hL ho,r⟩
 ·by_cases hb:b=T
  ·subst hb
   rw [upd_same] at e
   cases e
   exact new
  ·rw [aC hb] at e
   refine (I.hok b u e).stay (fun c v hc q=>k c v ?_ q) (fun c q=>by rw [aC (aD q hn)];exact q) fun c xs q=>by rw [aC (aD q hn)];exact q
   rcases hc with z | z
   ·rw [z];exact nit b u e
   ·exact nit c _ z
end
noncomputable def PV (K:PySem.W.Frag)(a b:Addr):It :=
 ⟨fun i H=>∃ xs ys x y,eA K H a xs/\eA K H b ys/\xs[i]?=some x/\ys[i]?=some y,
  fun i H z H'=>∃ T x y,z = .ref T/\H T=none/\H'=upd H T (.tup [x,y])/\∀ xs ys,eA K H a xs->eA K H b ys->xs[i]?=some x/\ys[i]?=some y,
  fun i H=>∃ xs ys,eA K H a xs/\eA K H b ys/\(xs.length<=i∨ys.length<=i)⟩
structure ZipAt (z TI TO i1 i2:Addr):Prop where
 TIz:TI≠z
 TOz:TO≠z
 i1z:i1≠z
 i2z:i2≠z
 TITO:TI≠TO
 TIi1:TI≠i1
 TIi2:TI≠i2
 TOi1:TO≠i1
 TOi2:TO≠i2
 i12:i1≠i2
section
variable {X:Cx}{elts:lW}{tk0:_}{tpos:Pos}
noncomputable def iZip (K:PySem.W.Frag)(ta:TA):TI:=fun σ H R=>ta σ H fun vs H1=>∃ a b,vs=[.ref a,.ref b]/\(∃ xs,eA K H1 a xs)/\(∃ ys,eA K H1 b ys)/\R (PV K a b) H1
end
noncomputable def N6 (J:It)(g:TG)(tt:TT)(te:TE)(Fin:List V->St->Hp->Prop)(W:CW):Prop:=∀ i m acc σ H,W i m acc σ H ->
 (J.stop i H/\Fin acc σ H) ∨
 (J.go i H/\∀ x H',J.yld i H x H'->g x σ H' fun σ2 H2=>tt σ2 H2 fun b H3 =>
  if b=true then te σ2 H3 fun y H4=>acc.length < sizeLine/\∃ m',m' < m/\W (i + 1) m' (acc ++ [y]) σ2 H4 else ∃ m',m' < m/\W (i + 1) m' acc σ2 H3)
noncomputable def PX (J:It)(g:TG)(tt:TT)(te:TE)(Fin:List V->St->Hp->Prop)(acc:List V)(σ:St)(H:Hp):Prop:=∃ W:CW,(∃ m,W 0 m acc σ H)/\N6 J g tt te Fin W
noncomputable def IQ (J:It)(g1:TG)(wi2:TI)(g2:TG)(tt:TT)(te:TE)(Q:VK)(σ:St)(H1:Hp):Prop:=∃ W:CW,(∃ m,W 0 m [] σ H1)/\∀ i m acc σ H,W i m acc σ H ->
 (J.stop i H/\∀ p,H p=none->Q (.ref p) (upd H p (.lst acc))) ∨
 (J.go i H/\∀ x H',J.yld i H x H'->g1 x σ H' fun σ2 H2=>wi2 σ2 H2 fun J2 H3=>PX J2 g2 tt te (fun acc' σ' H4=>∃ m',m' < m/\W (i + 1) m' acc' σ' H4) acc σ2 H3)
noncomputable def MJ (src:List (Option Nat))(wi:TI)(g1:TG)(wi2:TI)(g2:TG)(tt:TT)(te:TE):TE:=fun σ H Q=>wi σ H fun J H1=>IQ J g1 wi2 g2 tt te Q (stC src σ) H1
end L2
namespace L2
open PySem PySem.Spec PyProof.Rows
open PySem.AutoSeq1 (wpAny_loadPart')
open PySem.MeetsSeq PySem.MeetsSeq2 PySem.MeetsSeq3
noncomputable def BJ (items:iA)(i:Nat)(ns:List Int):Prop:=i<=items.size/\IntsAre (items.toList.drop i) ns
theorem BJ.end_ {items:iA}{i:Nat}(h:BJ items i []):items.size=i/\items[i]?=none:=by
 obtain ⟨h1,h2⟩:=h
 have e:=h2.length
 rw [List.length_drop,Array.length_toList,List.length_nil] at e
 exact ⟨by omega,Array.getElem?_eq_none (by omega)⟩
theorem BJ.next {items:iA}{i:Nat}{a:Int}{ns:List Int}(h:BJ items i (a :: ns)):i < items.size/\(∃ t,items[i]?=some (.int a t))/\BJ items (i + 1) ns:=by
 obtain ⟨h1,h2⟩:=h
 generalize e:items.toList.drop i=us at h2
 cases h2 with
 | cons _ t r =>
  have lt:i < items.toList.length:=by
   have z:=congrArg List.length e
   rw [List.length_drop,List.length_cons] at z
   omega
  rw [List.drop_eq_getElem_cons lt] at e
  injection e with e1 e2
  rw [Array.length_toList] at lt
  refine ⟨lt,⟨t,?_⟩,lt,e2 ▸ r⟩
  rw [Array.getElem?_eq_getElem lt,← e1]
  rfl
noncomputable abbrev xA (l b:Addr)(ol ob:Obj)(xs ys:List Int):PySem.Spec:=fun _ R s=>s.heap.get? l=some ol/\s.heap.get? b=some ob/\R (.ok (.ret (.bool (HT.lexLt xs ys)))) s
noncomputable abbrev ltAsk (l b:Addr)(i:Nat):Args:=⟨[.ref l,.ref b,rawInt i,rawInt 0],[]⟩
theorem yG {l b:Addr}{ol ob:Obj}{xs ys:List Int}{i:Nat}{prog:Program}{w:World}{A:Around}{R:Result->Shared->Prop}{s:Shared}(m:Meets (Builtin.«list.__eq__.loop» (ltAsk l b i)) (xA l b ol ob xs ys))(h:xA l b ol ob xs ys A R s) :
  (Code.builtin "list.__eq__.loop" (ltAsk l b i)).quiet=true/\codeAny (model prog w) A (.builtin "list.__eq__.loop" (ltAsk l b i)) R s:=by
 refine ⟨plainId_quiet plain_eq_loop (ltAsk l b i),codeAny_builtin entry_eq_loop ?_⟩
 have u:=A.under_plainId plain_eq_loop (ltAsk l b i)
 rw [u]
 exact m prog w A R s h
theorem B7 (l b:Addr)(us vs:iA)(n k:Nat)(du dv:Option Addr)(su sv:Array (Option Value)):∀ (xs ys:List Int) (i:Nat),BJ us i xs->BJ vs i ys ->
  Meets (Builtin.«list.__eq__.loop» (ltAsk l b i)) (xA l b { cls:=.type "list",dict:=du,data:=.seq us n,slots:=su } { cls:=.type "list",dict:=dv,data:=.seq vs k,slots:=sv } xs ys)
 | [],ys,i,f,g=>by
  rintro prog w A R ⟨hp,ge,d,tk,os⟩ ⟨atL,atB,h⟩
  obtain ⟨z,no⟩:=f.end_
  have says:HT.lexLt [] ys=decide (us.size < vs.size):=by
   cases ys with
   | nil=>exact (decide_eq_false (by rw [z,(g.end_).1];exact Nat.lt_irrefl _)).symm
   | cons y r=>exact (decide_eq_true (by rw [z];exact (g.next).1)).symm
  rw [says] at h
  wp_walk using wpAny_loadPart' atL,wpAny_loadPart' atB
  rw [show ((i:Nat):Int).toNat=i from rfl,no]
  cases vs[i]? <;> wp_walk using wpAny_loadPart' atL,wpAny_loadPart' atB <;> exact h
 | x :: xs,[],i,f,g=>by
  rintro prog w A R ⟨hp,ge,d,tk,os⟩ ⟨atL,atB,h⟩
  obtain ⟨z,no⟩:=g.end_
  obtain ⟨lt,⟨t,is⟩,_⟩:=f.next
  have says:HT.lexLt (x :: xs) []=decide (us.size < vs.size):=(decide_eq_false (by omega)).symm
  rw [says] at h
  wp_walk using wpAny_loadPart' atL,wpAny_loadPart' atB
  rw [show ((i:Nat):Int).toNat=i from rfl,no,is]
  wp_walk using wpAny_loadPart' atL,wpAny_loadPart' atB
  exact h
 | x :: xs,y :: ys,i,f,g=>by
  have go:=B7 l b us vs n k du dv su sv xs ys (i + 1) (f.next).2.2 (g.next).2.2
  rintro prog w A R ⟨hp,ge,d,tk,os⟩ ⟨atL,atB,h⟩
  obtain ⟨_,⟨t,isU⟩,_⟩:=f.next
  obtain ⟨_,⟨t',isV⟩,_⟩:=g.next
  wp_walk using wpAny_loadPart' atL,wpAny_loadPart' atB
  rw [show ((i:Nat):Int).toNat=i from rfl,isU,isV]
  obtain ⟨e,asked,iff⟩:=HT.eqAt_int A.in1 ⟨hp,ge,d,tk,os⟩ x t y t'
  refine wpAny_bind (asked prog w _ _ ?_)
  by_cases xy:x=y
  ·rw [HT.lexLt_cons,if_pos xy] at h
   rw [iff.mpr xy]
   wp_walk
   exact yG go ⟨atL,atB,h⟩
  ·rw [HT.lexLt_cons,if_neg xy] at h
   have e0:e=false:=by cases e with | false=>rfl | true=>exact absurd (iff.mp rfl) xy
   subst e0
   have less:=HT.rcLt_int A.in1 ⟨hp,ge,d,tk,os⟩ x t y t' prog w
   wp_walk using wpAny_loadPart' atL,wpAny_loadPart' atB
   rw [isU,isV]
   wp_walk using less
   exact h
theorem wH (l b:Addr)(us vs:iA)(n k:Nat)(du dv:Option Addr)(su sv:Array (Option Value))(xs ys:List Int)(hi:IntsAre us.toList xs)(hj:IntsAre vs.toList ys) :
  Meets (Builtin.«list.__lt__» ⟨[.ref l,.ref b],[]⟩) (xA l b { cls:=.type "list",dict:=du,data:=.seq us n,slots:=su } { cls:=.type "list",dict:=dv,data:=.seq vs k,slots:=sv } xs ys):=by
 have go:=B7 l b us vs n k du dv su sv xs ys 0 ⟨Nat.zero_le _,hi⟩ ⟨Nat.zero_le _,hj⟩
 rintro prog w A R ⟨hp,ge,d,tk,os⟩ ⟨atL,atB,h⟩
 have kind:=AutoSeq1.sub_list_list
 wp_walk using wpAny_loadPart' atL,wpAny_loadPart' atB
 exact yG go ⟨atL,atB,h⟩
section
variable {prog:Program}{w:World}{A:Around}{E:bX}{s:Shared}
theorem yF {l b:Addr}{items items2:iA}{ns ms:List Int}{Q:bX}(hl:s.heap.IsList l items)(hb:s.heap.IsList b items2)(hi:IntsAre items.toList ns)(hj:IntsAre items2.toList ms)
  (hu:A.units < cLine) (h:Q (.bool (HT.lexLt ns ms)) s):wpAny (model prog w) A (compareOp .Lt (.ref l) (.ref b)) Q E s:=by
 obtain ⟨⟨cls,dd,data,sl⟩,ho,hc,n,hd⟩:=id hl
 obtain ⟨⟨cls2,dd2,data2,sl2⟩,ho2,hc2,n2,hd2⟩:=id hb
 simp only at hc hd hc2 hd2
 subst hc hd hc2 hd2
 exact richCompare_meets_room (op:=.Lt) ⟨_,ho,rfl⟩ ⟨_,ho2,rfl⟩ PySem.F.slot_list_lt PySem.F.entry_list_lt (PySem.F.args_list_lt_2 _ _) (wH l b items items2 n n2 dd dd2 sl sl2 ns ms hi hj)
  ⟨ho,ho2,show Value.bool (HT.lexLt ns ms)≠Value.notImplemented/\Q (.bool (HT.lexLt ns ms)) s from ⟨(fun x=>nomatch x),h⟩⟩ hu
end
section
variable {X:Cx}
noncomputable def rLtL:R2:=fun x y H Q=>∃ a b ns ms,x = .ref a/\y = .ref b/\H a=some (.lst (ns.map V.int))/\H b=some (.lst (ms.map V.int))/\Q (.bl (HT.lexLt ns ms)) H
theorem MW (hu:X.A.units < cLine):iZ X (compareOp .Lt) rLtL:=by
 intro pins s σ H x y v u Q I rx ry h
 obtain ⟨a,b,ns,ms,rfl,rfl,ha,hb,q⟩:=h
 cases rx
 cases ry
 obtain ⟨its,r1,p1,_⟩:=I.list (eA.of ha)
 obtain ⟨its2,r2,p2,_⟩:=I.list (eA.of hb)
 have i1:IntsAre its.toArray.toList ns:=rO r1
 have i2:IntsAre its2.toArray.toList ms:=rO r2
 exact yF p1.isList p2.isList i1 i2 hu ⟨.bl (HT.lexLt ns ms),H,I,rfl,q⟩
end
end L2
namespace L2
open PySem PySem.Spec PyProof.Rows
section
variable {X:Cx}{pos:Pos}
theorem JT {i j:Nat}{x y:Str}{px py:Pos}{k:_}(hc:X.calm=true)(hN:X.N.Nodup)(hi:X.N[i]?=some x)(hj:X.N[j]?=some y)(hx:X.env.scope.names.lookup x=some .local)(hy:X.env.scope.names.lookup y=some .local) :
  PG X (.Tuple [.Name x px,.Name y py] k pos) (gTup X.K 2 (gCons (gName i) (gCons (gName j) gNil))) :=
 GA hc (nN (bJ hN hi (.inl hx) (.inr hx)) (nN (bJ hN hj (.inl hy) (.inr hy)) B0))
end
section
variable {g g1 g2:TG}{tb:TS}{D:jQ}{σ:St}{H:Hp}{tt:TT}{te:TE}{Q:VK}{K:PySem.W.Frag}{wi2:TI}{acc:List V}{Fin:List V->St->Hp->Prop}
theorem tComp2_eq {src:List (Option Nat)}{wi:TI}{σ:St}{H:Hp}{Q:VK}:MJ src wi g1 wi2 g2 tt te σ H Q=wi σ H fun J H1=>IQ J g1 wi2 g2 tt te Q (stC src σ) H1:=rfl
end
section
variable {X:Cx}
theorem i5 (hu:X.A.units + 64 < cLine):iZ X (compareOp .Lt) (fun x y H Q=>(rI0 (fun i j=>.bl (decide (i < j))) x y H Q∨(∃ i j,x = .str i/\y = .str j/\Q (.bl (decide (i.cps.toList < j.cps.toList))) H))∨rLtL x y H Q) :=
 (OE.or DS).or (MW (by omega))
end
section
variable {H:Hp}{a p:Addr}{xs:List V}{Q:VK}{K:PySem.W.Frag}
theorem rIs_eq {x c:V}:rIs [x,c] H Q = ∃ b,isV H x c=some b/\Q (.bl b) H:=propext ⟨fun ⟨x',c',b,e,h,q⟩=>by cases e;exact ⟨b,h,q⟩,fun ⟨b,h,q⟩=>⟨x,c,b,rfl,h,q⟩⟩
theorem truV_bl {b k:Bool}:LJ K (.bl b) H k=(k=b):=rfl
theorem isV_ii {n:Int}:isV H (.int n) (.ty "int")=some true:=rfl
theorem isV_ib {n:Int}:isV H (.int n) (.ty "bool")=some false:=rfl
theorem isV_bb {n:Bool}:isV H (.bl n) (.ty "bool")=some true:=rfl
theorem isV_ll (h:H a=some (.lst xs)):isV H (.ref a) (.ty "list")=some true:=by unfold isV tyN;simp only [h];rfl
theorem HE (h:H a=some (.lst xs))(h2:H p=some (.tup [.ty "list",.ty "tuple"])):isV H (.ref a) (.ref p)=some true:=by unfold isV tyN clsV;simp only [h,h2];rfl
theorem HD (h:H a=some (.tup xs))(h2:H p=some (.tup [.ty "list",.ty "tuple"])):isV H (.ref a) (.ref p)=some true:=by unfold isV tyN clsV;simp only [h,h2];rfl
theorem lenV_l (h:H a=some (.lst xs)):lenV H (.ref a)=some xs.length:=by unfold lenV;simp only [h]
theorem lenV_t (h:H a=some (.tup xs)):lenV H (.ref a)=some xs.length:=by unfold lenV;simp only [h]
theorem seqV_l (h:H a=some (.lst xs)):seqV H (.ref a)=some xs:=by unfold seqV;simp only [h]
theorem seqV_t (h:H a=some (.tup xs)):seqV H (.ref a)=some xs:=by unfold seqV;simp only [h]
theorem ixV_l {i:Int}(h:H a=some (.lst xs)):ixV H (.ref a) (.int i)=atI xs i:=by unfold ixV;simp only [h]
theorem ixV_t {i:Int}(h:H a=some (.tup xs)):ixV H (.ref a) (.int i)=atI xs i:=by unfold ixV;simp only [h]
end
section
noncomputable def eG (H:Hp)(a:Addr)(xs:List V):Prop:=H a=some (.lst xs)∨H a=some (.tup xs)
theorem eG.same {H H':Hp}{a:Addr}{xs:List V}(h:eG H a xs)(s:aG H H'):eG H' a xs:=h.elim (fun e=>.inl (s _ _ e)) fun e=>.inr (s _ _ e)
variable {g:TG}{tt:TT}{te:TE}{Q:VK}{K:PySem.W.Frag}{σ:St}{H:Hp}
variable {tb:TS}{D:jQ}
end
section
variable {X:Cx}{pos:Pos}{tg:Expr}
theorem dR (K:PySem.W.Frag)(hK:X.K=K){i j:Nat}{x y:Str}{px py:Pos}{k:_}(hc:X.calm=true)(hN:X.N.Nodup)(hi:X.N[i]?=some x)(hj:X.N[j]?=some y)(hx:X.env.scope.names.lookup x=some .local)(hy:X.env.scope.names.lookup y=some .local) :
  PG X (.Tuple [.Name x px,.Name y py] k pos) (gTup K 2 (gCons (gName i) (gCons (gName j) gNil))):=by subst hK;exact JT hc hN hi hj hx hy
noncomputable def tTruth (K:PySem.W.Frag)(ta:TE):TT:=fun σ H Q=>ta σ H fun x H1=>∃ k,LJ K x H1 k/\Q k H1
theorem aR (K:PySem.W.Frag)(hK:X.K=K){a:Expr}{ta:TE}(ha:PE X a ta)(he:∀ whole,isTrue a X.env whole=(do let v ← whole;standAt a.pos;holding [v] (truthy v))):PT X a (tTruth K ta):=by subst hK;exact FZ ha he
end
noncomputable def IO (K:PySem.W.Frag)(a:Addr)(xs:List V)(J:It)(H:Hp):Prop:=(J=L5 K a/\H a=some (.lst xs))∨(J=L4 K a/\H a=some (.tup xs))
noncomputable def iSq (K:PySem.W.Frag)(tl:TE):TI:=fun σ H R=>tl σ H fun x H1=>∃ a xs,x = .ref a/\eG H1 a xs/\∀ J,IO K a xs J H1->R J H1
section
variable {X:Cx}{tg:Expr}
theorem cX (K:PySem.W.Frag)(hK:X.K=K){l:Expr}{tl:TE}(hl:PE X l tl):PI X tg l (iSq K tl):=by
 subst hK
 intro pins s σ H R I h
 refine thn (hl pins s σ H _ I h) fun v s1 ⟨x,H1,I1,r1,q1⟩=>?_
 obtain ⟨a,xs,e,hs,q⟩:=q1
 subst e
 cases r1
 rcases hs with hq | hq
 ·obtain ⟨its,rv,p,hz⟩:=I1.list (eA.of hq)
  refine wpAny_pyIter_list p.isList ?_
  refine ⟨s1.heap.objs.size,[s1.heap.objs.size],_,_,H1,rfl,I1.kept (t':=s1.toks) fun b o e=>Heap.get?_push_of_some _ e,C8 a _,⟨_,Heap.get?_push_size _ rfl,rfl,rfl⟩,fun b hb=>?_,q _ (.inl ⟨rfl,hq⟩)⟩
  have e:b=s1.heap.objs.size:=by simpa using hb
  subst e
  exact I1.fpOk (Nat.le_refl _) (I1.hok.fresh (Nat.le_refl _))
 ·obtain ⟨its,rv,p,hz⟩:=I1.tuple (h8.of hq)
  refine wpAny_pyIter_tuple (show s1.heap.IsTuple a its.toArray from p) ?_
  refine ⟨s1.heap.objs.size,[s1.heap.objs.size],_,_,H1,rfl,I1.kept (t':=s1.toks) fun b o e=>Heap.get?_push_of_some _ e,zJ a _,⟨_,Heap.get?_push_size _ rfl,rfl,rfl⟩,fun b hb=>?_,q _ (.inr ⟨rfl,hq⟩)⟩
  have e:b=s1.heap.objs.size:=by simpa using hb
  subst e
  exact I1.fpOk (Nat.le_refl _) (I1.hok.fresh (Nat.le_refl _))
end
section
variable {g g1 g2:TG}{tb:TS}{D:jQ}{σ:St}{H:Hp}{tt:TT}{te:TE}{Q:VK}{K:PySem.W.Frag}{wi2:TI}{J:It}{a:Addr}{xs:List V}
theorem iY (hJ:IO K a xs J H)(Pv:Nat->St->Hp->Prop)(h0:Pv 0 σ H)(hl:∀ i σ H',i<=xs.length->Pv i σ H'->H' a=H a)
  (hs:∀ i x σ H,xs[i]?=some x->Pv i σ H->g x σ H fun σ2 H2=>tb { D with nx:=Pv (i + 1),ct:=Pv (i + 1),bk:=D.nx } σ2 H2) (hd:∀ σ H,Pv xs.length σ H->D.nx σ H):zF J g tb D σ H:=by
 rcases hJ with ⟨rfl,e⟩ | ⟨rfl,e⟩
 ·exact EG xs Pv h0 (fun i σ H' hi p=>(hl i σ H' hi p).trans e) hs hd
 ·exact HL xs Pv h0 (fun i σ H' hi p=>(hl i σ H' hi p).trans e) hs hd
theorem dC (hJ:IO K a xs J H)(Pv:Nat->List V->St->Hp->Prop)(h0:Pv 0 [] σ H)(hl:∀ i acc σ H',i<=xs.length->Pv i acc σ H'->H' a=H a)
  (hs:∀ i x acc σ H,xs[i]?=some x->Pv i acc σ H->CStep g tt te x acc σ H (Pv (i + 1))) (hd:∀ acc σ H,Pv xs.length acc σ H->∀ p,H p=none->Q (.ref p) (upd H p (.lst acc))):oF J g tt te Q σ H:=by
 rcases hJ with ⟨rfl,e⟩ | ⟨rfl,e⟩
 ·exact A8 xs Pv h0 (fun i acc σ H' hi p=>(hl i acc σ H' hi p).trans e) hs hd
 ·exact EO xs Pv h0 (fun i acc σ H' hi p=>(hl i acc σ H' hi p).trans e) hs hd
end
noncomputable def rSlU:V->Option Int->Option Int->Hp->VK->Prop:=fun x lo hi H Q=>∃ a xs,x = .ref a/\eG H a xs/\((∃ ys,H a=some (.tup ys))->¬ (HT.sIx xs.length 0 lo=0/\HT.sIx xs.length xs.length hi=xs.length)) /\
 ∀ p o,H p=none->(o = .lst (cutV xs lo hi)/\H a=some (.lst xs)∨o = .tup (cutV xs lo hi)/\H a=some (.tup xs))->Q (.ref p) (upd H p o)
theorem jU {X:Cx}:OL X rSlU:=by
 intro pins s σ H x v vl vu lo hi sl Q I rx hs pl pu h
 obtain ⟨a,xs,rfl,ha | ha,hw,q⟩:=h
 ·exact JA pins s σ H _ v vl vu lo hi sl Q I rx hs pl pu ⟨a,xs,rfl,eA.of ha,fun p hp=>q p _ hp (.inl ⟨rfl,ha⟩)⟩
 ·exact ML pins s σ H _ v vl vu lo hi sl Q I rx hs pl pu ⟨a,xs,rfl,h8.of ha,hw ⟨_,ha⟩,fun p hp=>q p _ hp (.inr ⟨rfl,ha⟩)⟩
section
variable {H:Hp}{Q:VK}
theorem rEqD_ii {i j:Int}:rEqD (.int i) (.int j) H Q=Q (.bl (decide (i=j))) H:=by
 have e:eqD (.int i) (.int j)=decide (i=j):=by show (i == j)=_;rw [Bool.eq_iff_iff];simp
 refine propext ⟨fun ⟨d,e',h1,h2,_,q⟩=>?_,fun q=>⟨.int i,.int j,rfl,rfl,Nat.zero_le _,by rw [e];exact q⟩⟩
 have d1:d = .int i:=bB.inj h1 (show bB H (.int i) (.int i) from rfl)
 have d2:e' = .int j:=bB.inj h2 (show bB H (.int j) (.int j) from rfl)
 rw [d1,d2,e] at q
 exact q
theorem rNeD_ii {i j:Int}:rNeD (.int i) (.int j) H Q=Q (.bl (!decide (i=j))) H:=by
 have e:eqD (.int i) (.int j)=decide (i=j):=by show (i == j)=_;rw [Bool.eq_iff_iff];simp
 refine propext ⟨fun ⟨d,e',h1,h2,_,q⟩=>?_,fun q=>⟨.int i,.int j,rfl,rfl,Nat.zero_le _,by rw [e];exact q⟩⟩
 have d1:d = .int i:=bB.inj h1 (show bB H (.int i) (.int i) from rfl)
 have d2:e' = .int j:=bB.inj h2 (show bB H (.int j) (.int j) from rfl)
 rw [d1,d2,e] at q
 exact q
theorem rEqD_ss {i j:Str}:rEqD (.str i) (.str j) H Q=Q (.bl (decide (i=j))) H:=by
 have e:eqD (.str i) (.str j)=decide (i=j):=by show (i == j)=_;rw [Bool.eq_iff_iff];simp
 refine propext ⟨fun ⟨d,e',h1,h2,_,q⟩=>?_,fun q=>⟨.str i,.str j,rfl,rfl,Nat.zero_le _,by rw [e];exact q⟩⟩
 have d1:d = .str i:=bB.inj h1 (show bB H (.str i) (.str i) from rfl)
 have d2:e' = .str j:=bB.inj h2 (show bB H (.str j) (.str j) from rfl)
 rw [d1,d2,e] at q
 exact q
theorem rNeD_ss {i j:Str}:rNeD (.str i) (.str j) H Q=Q (.bl (!decide (i=j))) H:=by
 have e:eqD (.str i) (.str j)=decide (i=j):=by show (i == j)=_;rw [Bool.eq_iff_iff];simp
 refine propext ⟨fun ⟨d,e',h1,h2,_,q⟩=>?_,fun q=>⟨.str i,.str j,rfl,rfl,Nat.zero_le _,by rw [e];exact q⟩⟩
 have d1:d = .str i:=bB.inj h1 (show bB H (.str i) (.str i) from rfl)
 have d2:e' = .str j:=bB.inj h2 (show bB H (.str j) (.str j) from rfl)
 rw [d1,d2,e] at q
 exact q
theorem n5 {a b:Addr}{xs ys:List V}(ha:H a=some (.lst xs))(hb:H b=some (.lst ys))(hz:xs.length + ys.length<=sizeLine):catO H (.ref a) (.ref b)=some (.lst (xs ++ ys)):=by
 unfold catO
 simp only [ha,hb]
 rw [if_pos hz]
theorem catO_i {i:Int}{y:V}:catO H (.int i) y=none:=by cases y <;> rfl
theorem catO_s {i:Str}{y:V}:catO H (.str i) y=none:=by cases y <;> rfl
end
noncomputable def rTupU:List V->Hp->VK->Prop:=fun xs H Q=>∃ p ys,xs=[.ref p]/\eG H p ys/\∀ l H',(H p=some (.tup ys)/\l=p/\H'=H∨H p=some (.lst ys)/\H l=none/\H'=upd H l (.tup ys))->Q (.ref l) H'
theorem fM {X:Cx}:cR X (.type "tuple") rTupU:=by
 refine sY.imp fun xs H Q h=>?_
 obtain ⟨p,ys,rfl,hp | hp,q⟩:=h
 ·exact ⟨p,ys,rfl,.inl ⟨eA.of hp,fun l hl=>q l _ (.inr ⟨hp,hl,rfl⟩)⟩⟩
 ·exact ⟨p,ys,rfl,.inr ⟨h8.of hp,q p _ (.inl ⟨hp,rfl,rfl⟩)⟩⟩
section
variable {X:Cx}{x:Str}{C:Addr}{np cpos pos:Pos}{e:Expr}{ta:TA}{E:XK}
noncomputable def tRaise (C:Addr)(E:XK)(ta:TA):TS:=fun _ σ H=>ta σ H fun vs H1=>vs.length<=1000/\E (.ref C) none H1
end
section
variable {X:Cx}{x:Str}{C:Addr}{np hp pos:Pos}{EX:XK}{b0:Stmt}{suite body:List Stmt}{tb th:TS}
noncomputable def tTry (tb:TS)(EX:XK)(th:TS):TS:=fun D σ H=>tb D σ H/\∀ cls d σ' H',EX cls d H'->th D σ' H'
end
noncomputable def O6 (K:PySem.W.Frag)(a:Addr):It :=
 ⟨fun i H=>∃ xs x,eA K H a xs/\xs[i]?=some x,fun i H z H'=>∃ T x,z = .ref T/\H T=none/\H'=upd H T (.tup [.int i,x])/\∀ xs,eA K H a xs->xs[i]?=some x,fun i H=>∃ xs,eA K H a xs/\xs.length<=i⟩
theorem C9 {P:Program}{w:World}{K:PySem.W.Frag}{elts:lW}{tk0}{tpos:Pos}(a e it:Addr)(D:e≠it) :
  pH P w K (.Tuple elts tk0 tpos) (O6 K a) [e,it] e (fun i h=>(∃ old,IsEnum h e it i old)/\h.IsListIter it a i) where
 mem:=by simp
 obj:=fun i h st c hc=>by
  obtain ⟨⟨old,he⟩,⟨o1,e1,c1,d1⟩⟩:=st
  simp only [List.mem_cons,List.not_mem_nil,or_false] at hc
  rcases hc with rfl | rfl
  ·exact ⟨_,he,fun v z=>by cases z⟩
  ·exact ⟨_,e1,fun v z=>by rw [d1] at z;cases z⟩
 keep:=fun i h h' st k=>by
  obtain ⟨⟨old,he⟩,h1⟩:=st
  exact ⟨⟨old,k e (by simp) _ he⟩,h1.at fun o z=>k it (by simp) o z⟩
 item:=by
  intro X hP hw hK hc i pins s σ H E I hf st hg
  subst hP hw hK
  obtain ⟨xs,x,hxs,hx⟩:=hg
  obtain ⟨its,rv,p,hz1⟩:=I.list hxs
  obtain ⟨u,hu,ru⟩:=rv.get hx
  obtain ⟨⟨old,he⟩,h1⟩:=st
  refine wpAny_pyNext_enum_item he h1 p.isList (x:=u) (by simpa using hu) D fun h' a1 a2 a3 a4 hk=>?_
  refine ⟨_,rfl,wpAny_letOwnedTupleGo_enum (s:={ s with heap:=h',toks:=s.toks + 1 }) a1 fun h2' hz' hs'=>?_⟩
  have lt:∀ {c:Addr} {o:Obj},s.heap.get? c=some o->s.heap.objs.size≠c:=fun e z=>Nat.lt_irrefl _ (z ▸ Heap.lt_size e)
  have pr:=hs'.extBut _ _ (lt he) a3
  have nT:∀ c ∈ [e,it],c≠s.heap.objs.size:=fun c hc=>by
   simp only [List.mem_cons,List.not_mem_nil,or_false] at hc
   rcases hc with rfl | rfl
   ·exact (lt he).symm
   ·obtain ⟨_,z,_⟩:=h1;exact (lt z).symm
  have I1:aO X pins σ (upd H s.heap.objs.size (.tup [.int i,x])) { s with heap:=h2',toks:=s.toks + 1 }:=I.turnedLaid (t':=s.toks + 1) (ch:=[e,it]) (fun c o hc z=>hs'.extBut _ _ (fun q=>hc (by simp [q])) (hk c o (fun q=>hc (by simp [q])) (fun q=>hc (by simp [q])) z)) hf (Nat.le_refl _)
   ⟨by show 2<=sizeLine;decide,[_,u],.cons ⟨_,rfl⟩ (.cons ru .nil),⟨_,pr,rfl,_,rfl⟩⟩
  refine ⟨.ref s.heap.objs.size,_,I1,rfl,⟨s.heap.objs.size,x,rfl,I.hok.fresh (Nat.le_refl _),rfl,fun xs' q1=>?_⟩,⟨⟨u,?_⟩,a2.extBut hs'.extBut D.symm⟩,fun c hc=>?_⟩
  ·rw [I.list_inj q1 hxs];exact hx
  ·have e2:((i + 1:Nat):Int)=(i:Int) + 1:=by omega
   rw [e2];exact hz'
  ·rw [aC (nT c hc)];exact (hf c hc).1
 done:=by
  intro X hP hw hK hc i pins s σ H E I hf st hg
  subst hP hw hK
  obtain ⟨xs,hxs,hd⟩:=hg
  obtain ⟨its,rv,p,hz1⟩:=I.list hxs
  obtain ⟨⟨old,he⟩,h1⟩:=st
  have l1:=rv.length
  refine wpAny_pyNext_enum_end (I.ok.hd hc) he h1 p.isList (by simp;omega) fun h' hk=>⟨rfl,?_⟩
  exact I.turnedL (t':=s.toks) (ch:=[e,it]) (fun c o hc z=>hk c o (fun q=>hc (by simp [q])) z) hf
 self:=fun _ _ _ _ _ st h=>wpAny_pyIter_enum st.1.choose_spec h
noncomputable def iEnum (K:PySem.W.Frag)(ta:TA):TI:=fun σ H R=>ta σ H fun vs H1=>∃ a,vs=[.ref a]/\(∃ xs,eA K H1 a xs)/\R (O6 K a) H1
section
variable {X:Cx}{elts:lW}{tk0:_}{tpos:Pos}
theorem vV {a:Expr}{ta:TA}{p pos:Pos}(hg:Gl X "enumerate")(hm:X.mg "enumerate" = none)(ha:PA X [a] ta)(hs:starEach [a] X.env=[(false,eval a X.env)]:=by rfl) :
  PI X (.Tuple elts tk0 tpos) (.Call (.Name "enumerate" p) [a] [] pos) (iEnum X.K ta):=by
 intro pins s σ H R I h
 refine Call_ (kO I hg hm boot_enumerate (PyProof.Rows.callWith_type1 (thn (ha pos pins s σ H _ I h) fun us s1 ⟨vs,H1,I1,r1,q1⟩=>?_) hs rfl))
 obtain ⟨l1,e,⟨xs,hx⟩,q⟩:=q1
 subst e
 obtain ⟨u1,rfl,e1⟩:=vals1 r1
 cases e1
 obtain ⟨its,rv,p1,hz1⟩:=I1.list hx
 refine call_enumerate_list p1.isList fun h' a1 a2 a3 hk=>?_
 refine wpAny_pyIter_enum (s:={ s1 with heap:=h' }) a1 ?_
 have lt:∀ c,s1.heap.objs.size<=c->fI X pins H1 c:=fun c hc=>I1.fpOk hc (I1.hok.fresh hc)
 refine ⟨_,[_,_],_,_,H1,rfl,I1.kept (t':=s1.toks) hk,C9 l1 _ _ (by intro z;have z:(_:Nat)=_:=z;omega),⟨⟨_,a1⟩,a2⟩,fun c hc=>?_,q⟩
 simp only [List.mem_cons,List.not_mem_nil,or_false] at hc
 refine lt c ?_
 rcases hc with rfl | rfl
 ·exact Nat.le_add_right _ _
 ·exact Nat.le_refl _
theorem sU (K:PySem.W.Frag)(hK:X.K=K){a:Expr}{ta:TA}{p pos:Pos}(hg:Gl X "enumerate")(hm:X.mg "enumerate" = none)(ha:PA X [a] ta)(hs:starEach [a] X.env=[(false,eval a X.env)]:=by rfl) :
  PI X (.Tuple elts tk0 tpos) (.Call (.Name "enumerate" p) [a] [] pos) (iEnum K ta):=by subst hK;exact vV hg hm ha hs
end
noncomputable def jC (h:Heap)(i a:Addr)(k:Nat):Prop:=h.IsListIter i a k∨h.IsTupleIter i a k
noncomputable def pN (h:Heap)(a:Addr)(xs:iA):Prop:=∃ o n,h.get? a=some o/\o.data = .seq xs n
theorem jC.at {h h':Heap}{i a:Addr}{k:Nat}(x:jC h i a k)(e:∀ o,h.get? i=some o->h'.get? i=some o):jC h' i a k:=x.elim (fun y=>.inl (y.at e)) fun y=>.inr (y.at e)
theorem pN.at {h h':Heap}{a:Addr}{xs:iA}(x:pN h a xs)(e:∀ o,h.get? a=some o->h'.get? a=some o):pN h' a xs:=by obtain ⟨o,n,ho,hd⟩:=x;exact ⟨o,n,e o ho,hd⟩
theorem jC.obj {h:Heap}{i a:Addr}{k:Nat}(x:jC h i a k):∃ o,h.get? i=some o/\o.data = .fields #[.ref a,.int k 0]:=by
 rcases x with ⟨o,e,_,d⟩ | ⟨o,e,_,d⟩
 ·exact ⟨o,e,d⟩
 ·exact ⟨o,e,d⟩
section
variable {prog:Program}{w:World}{A:Around}{E:bX}{s:Shared}{it l:Addr}{i:Nat}{items:iA}
theorem lN {T id:String}{b:Builtin}{Q:bX}(kind:s.TypeIs (.ref it) T)(slot:Slot T "__next__" id)(entry:entryFor table id=some b)(args:argsOk id ⟨[.ref it],[]⟩)
  (h:wpAny (model prog w) A.in1 (b ⟨[.ref it],[]⟩) (fun f t=>∃ v,f = .done (.ret v)/\Q v t) E s):wpAny (model prog w) A (Builtin.SmallTypes.nextOf (.ref it)) Q E s:=by
 have asked:wpAny (model prog w) A (callSpecial? (.ref it) "__next__") (fun r t=>∃ v,r=some v/\Q v t) E s :=
  wpAny_callSpecial?_slot kind slot (wpAny_call_entry slot kind entry (thn h fun f t ⟨v,e,q⟩=>⟨v,e,v,rfl,q⟩) args)
 refine wpAny_bind (thn asked ?_)
 rintro _ t ⟨v,rfl,q⟩
 exact wpAny_pure q
structure kY (prog:Program)(w:World)(A:Around)(E:bX)(s:Shared)(it l:Addr)(i:Nat)(items:iA):Prop where
 seq:∀ (Q:bX),Q (.ref l) s->wpAny (model prog w) A (field (.ref it) 0) Q E s
 place:∀ (Q:bX),Q (.int i 0) s->wpAny (model prog w) A (field (.ref it) 1) Q E s
 items:∀ (Q:Option (iA)->Shared->Prop),Q (some items) s->wpAny (model prog w) A (seqItems? (.ref l)) Q E s
 set:∀ (k:Nat) (v:Value) (Q:Unit->Shared->Prop),k < 2->Q () { s with heap:=s.heap.update it (Obj.mapFields (·.setIfInBounds k v)) }->wpAny (model prog w) A (setField (.ref it) k v) Q E s
theorem kY.of {o:Obj}(ho:s.heap.get? it=some o)(hd:o.data = .fields #[.ref l,.int i 0])(hl:pN s.heap l items):kY prog w A E s it l i items:=by
 obtain ⟨ol,nl,hol,hdl⟩:=hl
 exact ⟨fun _ h=>wpAny_field ho hd rfl h,fun _ h=>wpAny_field ho hd rfl h,fun _ h=>wpAny_seqItems hol hdl h,fun k v _ hk h=>wpAny_setField ho hd hk h⟩
noncomputable abbrev yQ (b:Builtin):Prop:=b=Builtin.«list_iterator.__next__»∨b=Builtin.«tuple_iterator.__next__»
theorem pR {b:Builtin}{x:Value}{Q:bX}(hb:yQ b)(R:kY prog w A E s it l i items)(hx:items[i]?=some x)
  (hQ:Q x { s with heap:=s.heap.update it (Obj.mapFields (·.setIfInBounds 1 (rawInt (i + 1)))) }):wpAny (model prog w) A (b ⟨[.ref it],[]⟩) (fun f t=>∃ v,f = .done (.ret v)/\Q v t) E s:=by
 have r0:=R.seq
 have r1:=R.place
 have r2:=R.items
 have r3:=fun Q h=>R.set 1 (rawInt (i + 1)) Q (by decide) h
 rcases hb with rfl | rfl
 all_goals
  wp_walk using r0,r1,r2,r3
  rw [Int.toNat_natCast,hx]
  wp_walk using r0,r1,r2,r3
  exact ⟨x,rfl,hQ⟩
theorem qY {b:Builtin}{Q:PySem.Fin->Shared->Prop}(hh:A.handled=none)(hb:yQ b)(R:kY prog w A E s it l i items)(hx:items[i]?=none)
  (hE:∀ h' e,Heap.ExtBut it s.heap h'->(∃ o,h'.get? e=some o/\o.cls = .type "StopIteration")->E (.ref e) { s with heap:=h' }):wpAny (model prog w) A (b ⟨[.ref it],[]⟩) Q E s:=by
 have r0:=R.seq
 have r1:=R.place
 have r2:=R.items
 have r3:=fun Q h=>R.set 0 .none Q (by decide) h
 rcases hb with rfl | rfl
 all_goals
  wp_walk using r0,r1,r2,r3
  rw [Int.toNat_natCast,hx]
  wp_walk using r0,r1,r2,r3
  exact wpAny_raiseNew_none hh (hE _ _ (((Heap.SameBut.update ..).extBut.push _).push _) ⟨_,Heap.get?_push_size _ rfl,rfl⟩)
theorem KP {x:Value}{Q:bX}(hit:jC s.heap it l i)(hl:pN s.heap l items)(hx:items[i]?=some x)(hQ:∀ h',jC h' it l (i + 1)->Heap.SameBut it s.heap h'->Q x { s with heap:=h' }):wpAny (model prog w) A (Builtin.SmallTypes.nextOf (.ref it)) Q E s:=by
 obtain ⟨o,ho,hd⟩:=hit.obj
 have new:(s.heap.update it (Obj.mapFields (·.setIfInBounds 1 (rawInt (i + 1))))).get? it=some (o.mapFields (·.setIfInBounds 1 (rawInt (i + 1)))):=Heap.get?_update_self _ ho (Obj.isFreed_of_fields (Obj.data_mapFields hd _))
 have data:(o.mapFields (·.setIfInBounds 1 (rawInt (i + 1)))).data = .fields #[.ref l,.int (i + 1:Nat) 0]:=by rw [Obj.data_mapFields hd];simp [rawInt]
 have cls:(o.mapFields (·.setIfInBounds 1 (rawInt (i + 1)))).cls=o.cls:=Obj.cls_mapFields ..
 have same:Heap.SameBut it s.heap (s.heap.update it (Obj.mapFields (·.setIfInBounds 1 (rawInt (i + 1))))):=Heap.SameBut.update ..
 rcases hit with li | tu
 ·obtain ⟨o',ho',hc,_⟩:=id li
  rw [ho] at ho';cases ho'
  exact lN li.typeIs slot_listiter_next entry_listiter_next (args_listiter_next _) (pR (.inl rfl) (kY.of ho hd hl) hx (hQ _ (.inl ⟨_,new,cls.trans hc,data⟩) same))
 ·obtain ⟨o',ho',hc,_⟩:=id tu
  rw [ho] at ho';cases ho'
  exact lN tu.typeIs PySem.F.slot_tuple_iterator_next PySem.F.entry_tuple_iterator_next (PySem.F.args_tuple_iterator_next_1 _) (pR (.inr rfl) (kY.of ho hd hl) hx (hQ _ (.inr ⟨_,new,cls.trans hc,data⟩) same))
theorem M9 {Q:bX}(hh:A.handled=none)(hit:jC s.heap it l i)(hl:pN s.heap l items)(hx:items[i]?=none)
  (hE:∀ h' e,Heap.ExtBut it s.heap h'->(∃ o,h'.get? e=some o/\o.cls = .type "StopIteration")->E (.ref e) { s with heap:=h' }):wpAny (model prog w) A (Builtin.SmallTypes.nextOf (.ref it)) Q E s:=by
 obtain ⟨o,ho,hd⟩:=hit.obj
 have no:A.in1.handled=none:=hh
 rcases hit with li | tu
 ·exact lN li.typeIs slot_listiter_next entry_listiter_next (args_listiter_next _) (qY no (.inl rfl) (kY.of ho hd hl) hx hE)
 ·exact lN tu.typeIs PySem.F.slot_tuple_iterator_next PySem.F.entry_tuple_iterator_next (PySem.F.args_tuple_iterator_next_1 _) (qY no (.inr rfl) (kY.of ho hd hl) hx hE)
end
structure NV (z TI TO i1 i2 l1 l2:Addr):Prop extends ZipAt z TI TO i1 i2 where
 n1:l1 ∉ [z,TO,i1,i2]
 n2:l2 ∉ [z,TO,i1,i2]
structure ZS (h0:Heap)(z TI TO i1 i2 l1 l2:Addr)(xs ys:iA)(h:Heap)(f a b:Value)(k1 k2:Nat):Prop where
 ap:NV z TI TO i1 i2 l1 l2
 zip:IsZip h z TI TO f
 tin:IsPair h TI (.ref i1) (.ref i2)
 tout:IsPair h TO a b
 one:jC h i1 l1 k1
 two:jC h i2 l2 k2
 src1:pN h l1 xs
 src2:pN h l2 ys
 far:∀ c o,c ∉ [z,TO,i1,i2]->h0.get? c=some o->h.get? c=some o
section
variable {prog:Program}{w:World}{A:Around}{E:bX}{s:Shared}{z TI TO i1 i2 l1 l2:Addr}{k1 k2:Nat}{xs ys:iA}{f a b:Value}{h0 h h':Heap}
theorem off4 {c:Addr}(hc:c ∉ [z,TO,i1,i2]):c≠z/\c≠TO/\c≠i1/\c≠i2:=by simpa using hc
theorem ZS.self (Z:ZS h0 z TI TO i1 i2 l1 l2 xs ys h f a b k1 k2)(e:Heap.ExtBut z h h'){f':Value}(hz:IsZip h' z TI TO f'):ZS h0 z TI TO i1 i2 l1 l2 xs ys h' f' a b k1 k2 :=
 ⟨Z.ap,hz,e _ _ Z.ap.TIz Z.tin,e _ _ Z.ap.TOz Z.tout,Z.one.at fun o=>e _ o Z.ap.i1z,Z.two.at fun o=>e _ o Z.ap.i2z,Z.src1.at fun o=>e _ o (off4 Z.ap.n1).1,Z.src2.at fun o=>e _ o (off4 Z.ap.n2).1,fun c o hc q=>e c o (off4 hc).1 (Z.far c o hc q)⟩
theorem ZS.out (Z:ZS h0 z TI TO i1 i2 l1 l2 xs ys h f a b k1 k2)(e:Heap.ExtBut TO h h'){a' b':Value}(ht:IsPair h' TO a' b'):ZS h0 z TI TO i1 i2 l1 l2 xs ys h' f a' b' k1 k2 :=
 ⟨Z.ap,e _ _ Z.ap.TOz.symm Z.zip,e _ _ Z.ap.TITO Z.tin,ht,Z.one.at fun o=>e _ o Z.ap.TOi1.symm,Z.two.at fun o=>e _ o Z.ap.TOi2.symm,Z.src1.at fun o=>e _ o (off4 Z.ap.n1).2.1,Z.src2.at fun o=>e _ o (off4 Z.ap.n2).2.1,fun c o hc q=>e c o (off4 hc).2.1 (Z.far c o hc q)⟩
theorem ZS.on1 (Z:ZS h0 z TI TO i1 i2 l1 l2 xs ys h f a b k1 k2)(e:Heap.ExtBut i1 h h'){k:Nat}(hi:jC h' i1 l1 k):ZS h0 z TI TO i1 i2 l1 l2 xs ys h' f a b k k2 :=
 ⟨Z.ap,e _ _ Z.ap.i1z.symm Z.zip,e _ _ Z.ap.TIi1 Z.tin,e _ _ Z.ap.TOi1 Z.tout,hi,Z.two.at fun o=>e _ o Z.ap.i12.symm,Z.src1.at fun o=>e _ o (off4 Z.ap.n1).2.2.1,Z.src2.at fun o=>e _ o (off4 Z.ap.n2).2.2.1,fun c o hc q=>e c o (off4 hc).2.2.1 (Z.far c o hc q)⟩
theorem ZS.on2 (Z:ZS h0 z TI TO i1 i2 l1 l2 xs ys h f a b k1 k2)(e:Heap.ExtBut i2 h h'){k:Nat}(hi:jC h' i2 l2 k):ZS h0 z TI TO i1 i2 l1 l2 xs ys h' f a b k1 k :=
 ⟨Z.ap,e _ _ Z.ap.i2z.symm Z.zip,e _ _ Z.ap.TIi2 Z.tin,e _ _ Z.ap.TOi2 Z.tout,Z.one.at fun o=>e _ o Z.ap.i12,hi,Z.src1.at fun o=>e _ o (off4 Z.ap.n1).2.2.2,Z.src2.at fun o=>e _ o (off4 Z.ap.n2).2.2.2,fun c o hc q=>e c o (off4 hc).2.2.2 (Z.far c o hc q)⟩
theorem ZS.push (Z:ZS h0 z TI TO i1 i2 l1 l2 xs ys h f a b k1 k2)(o:Obj):ZS h0 z TI TO i1 i2 l1 l2 xs ys (h.push o) f a b k1 k2:=by
 have e:∀ c x,h.get? c=some x->(h.push o).get? c=some x:=fun c x q=>Heap.get?_push_of_some o q
 exact ⟨Z.ap,e _ _ Z.zip,e _ _ Z.tin,e _ _ Z.tout,Z.one.at (e _),Z.two.at (e _),Z.src1.at (e _),Z.src2.at (e _),fun c x hc q=>e c x (Z.far c x hc q)⟩
structure ZF (prog:Program)(w:World)(A:Around)(E:bX)(s:Shared)(z TI TO i1 i2:Addr)(f a b:Value):Prop where
 f0:∀ (Q:bX),Q f s->wpAny (model prog w) A (field (.ref z) 0) Q E s
 f2:∀ (Q:bX),Q (.bool false) s->wpAny (model prog w) A (field (.ref z) 2) Q E s
 f3:∀ (Q:bX),Q (.ref TI) s->wpAny (model prog w) A (field (.ref z) 3) Q E s
 f4:∀ (Q:bX),Q (.ref TO) s->wpAny (model prog w) A (field (.ref z) 4) Q E s
 ins:∀ (Q:Option (iA)->Shared->Prop),Q (some #[.ref i1,.ref i2]) s->wpAny (model prog w) A (seqItems? (.ref TI)) Q E s
 outs:∀ (Q:Option (iA)->Shared->Prop),Q (some #[a,b]) s->wpAny (model prog w) A (seqItems? (.ref TO)) Q E s
 set:∀ (v:Value) (Q:Unit->Shared->Prop),(∀ h',IsZip h' z TI TO v->Heap.SameBut z s.heap h'->Q () { s with heap:=h' })->wpAny (model prog w) A (setField (.ref z) 0 v) Q E s
 put:∀ (k:Nat) (v:Value) (Q:Unit->Shared->Prop),(∀ h',IsPair h' TO (if k=0 then v else a) (if k=1 then v else b)->Heap.SameBut TO s.heap h'->Q () { s with heap:=h' })->k < 2->wpAny (model prog w) A (updateSeq TO (·.setIfInBounds k v)) Q E s
theorem ZS.asked (Z:ZS h0 z TI TO i1 i2 l1 l2 xs ys s.heap f a b k1 k2):ZF prog w A E s z TI TO i1 i2 f a b:=by
 refine ⟨fun _ q=>wpAny_field Z.zip rfl rfl q,fun _ q=>wpAny_field Z.zip rfl rfl q,fun _ q=>wpAny_field Z.zip rfl rfl q,fun _ q=>wpAny_field Z.zip rfl rfl q,fun _ q=>wpAny_seqItems Z.tin rfl q,fun _ q=>wpAny_seqItems Z.tout rfl q,fun v _ q=>?_,fun k v _ q hk=>?_⟩
 ·exact wpAny_setField_rec Z.zip (by simp) fun h' e sb=>q h' e sb
 ·refine wpAny_updateSeq_pair Z.tout fun h' e sb=>q h' ?_ sb
  match k,hk with
  | 0,_=>exact e
  | 1,_=>exact e
noncomputable abbrev OJ (h0:Heap)(z TI TO i1 i2 l1 l2:Addr)(xs ys:iA)(a b:Value)(k1 k2:Nat)(h:Heap):List (Value×Nat)->Prop
 | []=>∃ x y,xs[k1]?=some x/\ys[k2]?=some y/\ZS h0 z TI TO i1 i2 l1 l2 xs ys h .ellipsis x y (k1 + 1) (k2 + 1)
 | [p]=>p=(.ref i2,1)/\∃ x,xs[k1]?=some x/\ZS h0 z TI TO i1 i2 l1 l2 xs ys h .ellipsis x b (k1 + 1) k2
 | [p,q]=>p=(.ref i1,0)/\q=(.ref i2,1)/\ZS h0 z TI TO i1 i2 l1 l2 xs ys h .ellipsis a b k1 k2
 | _=>False
noncomputable abbrev xC (h:Heap)(e:Addr):Prop:=∃ o,h.get? e=some o/\o.cls = .type "StopIteration"
theorem tB {draw:Sem (Option Value)}{i l:Addr}{k:Nat}{items:iA}{Q:Option Value->Shared->Prop}(hd:draw=(Builtin.SmallTypes.nextOf (.ref i) >>= fun v=>pure (some v)))(hh:A.handled=none)(it:jC s.heap i l k)(src:pN s.heap l items)(hz:IsZip s.heap z TI TO .ellipsis)(iz:i≠z)
  (item:∀ v h',items[k]?=some v->jC h' i l (k + 1)->Heap.SameBut i s.heap h'->Q (some v) { s with heap:=h' })
  (stop:items[k]?=none->∀ h' h2 e,Heap.ExtBut i s.heap h'->Heap.SameBut z h' h2->xC h2 e->E (.ref e) { s with heap:=h2 }) :
  wpAny (model prog w) A (draw.onRaise fun _=>setField (.ref z) 0 .none) Q E s:=by
 subst hd
 refine wpAny_onRaise (wpAny_bind ?_)
 cases e:items[k]? with
 | some v=>exact KP it src e fun h' a1 a2=>wpAny_pure (item v h' e a1 a2)
 | none =>
  refine M9 hh it src e fun h' x ext ⟨o,ho,hc⟩=>?_
  have zip:=ext z _ iz.symm hz
  have ne:x≠z:=fun q=>by
   rw [q,zip] at ho
   cases ho
   exact absurd (show Value.type "zip" = .type "StopIteration" from hc) (by decide)
  exact wpAny_setField_rec zip (by simp) fun h2 _ sb=>stop e h' h2 x ext sb ⟨o,sb.extBut x o ne ho,hc⟩
theorem C3 {Q:bX}(hh:A.handled=none)(Z:ZS s.heap z TI TO i1 i2 l1 l2 xs ys s.heap .none a b k1 k2)
  (item:∀ x y h',xs[k1]?=some x->ys[k2]?=some y->ZS s.heap z TI TO i1 i2 l1 l2 xs ys h' (rawInt s.heap.objs.size) x y (k1 + 1) (k2 + 1)->IsPair h' s.heap.objs.size x y->h'.objs.size=s.heap.objs.size + 1->Q (.ref s.heap.objs.size) { s with heap:=h' })
  (stop:(xs[k1]?=none∨ys[k2]?=none)->∀ h' e,(∀ c o,c ∉ [z,TO,i1,i2]->s.heap.get? c=some o->h'.get? c=some o)->xC h' e->E (.ref e) { s with heap:=h' }) :
  wpAny (model prog w) A (Builtin.«zip.__next__» ⟨[.ref z],[]⟩) (fun f t=>∃ v,f = .done (.ret v)/\Q v t) E s:=by
 have F:=Z.asked (prog:=prog) (w:=w) (A:=A) (E:=E)
 have g0:=F.f0;have g2:=F.f2;have g3:=F.f3;have g4:=F.f4;have gi:=F.ins
 have gs:=F.set .ellipsis
 obtain ⟨h,g,d,tk,os⟩:=s
 dsimp only at Z item stop
 wp_walk using g0,g2,g3,g4,gi,gs
 intro h1 hz1 sb1
 have Z1:=Z.self sb1.extBut hz1
 have size1:h1.objs.size=h.objs.size:=sb1.1
 clear F g0 g2 g3 g4 gi gs
 wp_walk using wpAny_forIn_list _ (fun rest r t=>r=((none:Option PySem.Fin),())/\∃ h',t=⟨h',g,d,tk,os⟩/\h'.objs.size=h.objs.size/\OJ h z TI TO i1 i2 l1 l2 xs ys a b k1 k2 h' rest) _
 case turn =>
  rintro p rest r t ⟨rfl,h2,rfl,size2,zr⟩
  match rest,zr with
  | [],⟨e,x,hx,Z2⟩ =>
   subst e
   refine wpAny_bind (tB rfl hh Z2.two Z2.src2 Z2.zip Z2.ap.i2z (fun v h3 hv i3 sb3=>?_) fun no h3 h4 e ext sb4 st=>?_)
   ·have Z3:=Z2.on2 sb3.extBut i3
    refine wpAny_bind (wpAny_seqItems Z3.tout rfl (wpAny_bind (wpAny_updateSeq_pair Z3.tout fun h4 p4 sb4=>wpAny_bind (wpAny_letGo (wpAny_pure ?_)))))
    exact ⟨rfl,h4,rfl,by rw [sb4.1,sb3.1];exact size2,x,v,hx,hv,Z3.out sb4.extBut p4⟩
   ·exact stop (.inr no) h4 e (fun c o hc q=>sb4.extBut c o (off4 hc).1 (ext c o (off4 hc).2.2.2 (Z2.far c o hc q))) st
  | [q],⟨e1,e2,Z2⟩ =>
   subst e1 e2
   refine wpAny_bind (tB rfl hh Z2.one Z2.src1 Z2.zip Z2.ap.i1z (fun v h3 hv i3 sb3=>?_) fun no h3 h4 e ext sb4 st=>?_)
   ·have Z3:=Z2.on1 sb3.extBut i3
    refine wpAny_bind (wpAny_seqItems Z3.tout rfl (wpAny_bind (wpAny_updateSeq_pair Z3.tout fun h4 p4 sb4=>wpAny_bind (wpAny_letGo (wpAny_pure ?_)))))
    exact ⟨rfl,h4,rfl,by rw [sb4.1,sb3.1];exact size2,rfl,v,hv,Z3.out sb4.extBut p4⟩
   ·exact stop (.inl no) h4 e (fun c o hc q=>sb4.extBut c o (off4 hc).1 (ext c o (off4 hc).2.2.1 (Z2.far c o hc q))) st
  | _ :: _ :: _,zr=>exact zr.elim
 case fin =>
  rintro r t ⟨rfl,h2,rfl,size2,x,y,hx,hy,Z2⟩
  refine wpAny_bind (wpAny_seqItems Z2.tout rfl (wpAny_bind (wpAny_newTuple ?_)))
  have Z3:=Z2.push { cls:=.type "tuple",data:=.seq #[x,y] }
  refine wpAny_bind (wpAny_bind (wpAny_setField_rec Z3.zip (by simp) fun h4 z4 sb4=>wpAny_setField_rec z4 (by simp) fun h5 z5 sb5=>wpAny_pure ⟨_,rfl,?_⟩))
  have size5:h5.objs.size=h.objs.size + 1:=by rw [sb5.1,sb4.1,Heap.size_push,size2]
  have new:z≠h2.objs.size:=Nat.ne_of_lt (Heap.lt_size Z2.zip)
  have pair:IsPair h5 h2.objs.size x y:=sb5.extBut _ _ new.symm (sb4.extBut _ _ new.symm (Heap.get?_push_size _ rfl))
  have Z5:=(Z3.self sb4.extBut (f':=rawInt h2.objs.size) z4).self sb5.extBut (f':=rawInt h2.objs.size) z5
  rw [size2] at pair Z5 ⊢
  exact item x y h5 hx hy Z5 pair size5
 case h=>exact ⟨rfl,h1,rfl,size1,rfl,rfl,Z1⟩
theorem DN {it:Addr}{T id:String}{b:Builtin}{Q:Option Value->Shared->Prop}(kind:s.TypeIs (.ref it) T)(slot:Slot T "__next__" id)(entry:entryFor table id=some b)(args:argsOk id ⟨[.ref it],[]⟩)
  (h:wpAny (model prog w) A.in1 (b ⟨[.ref it],[]⟩) (fun f t=>∃ v,f = .done (.ret v)/\Q (some v) t) (fun x t=>∃ e,x = .ref e/\xC t.heap e/\Q none t) s):wpAny (model prog w) A (pyNext (.ref it)) Q E s:=by
 have asked:wpAny (model prog w) A (callSpecial? (.ref it) "__next__") (fun r t=>∃ v,r=some v/\Q (some v) t) (fun x t=>∃ e,x = .ref e/\xC t.heap e/\Q none t) s :=
  wpAny_callSpecial?_slot kind slot (wpAny_call_entry slot kind entry (thn h fun f t ⟨v,e,q⟩=>⟨v,e,v,rfl,q⟩) args)
 refine wpAny_bind (wpAny_attempt (wpAny_mono asked ?_ ?_))
 ·rintro _ t ⟨v,rfl,q⟩
  exact wpAny_pure q
 ·rintro _ t ⟨e,rfl,⟨o,ho,hc⟩,q⟩
  exact wpAny_bind (wpAny_isInstance ⟨o,ho,hc⟩ isSubtype_stop (wpAny_pure q))
theorem tW {Q:Option Value->Shared->Prop}(hh:A.handled=none)(Z:ZS s.heap z TI TO i1 i2 l1 l2 xs ys s.heap .none a b k1 k2)
  (item:∀ x y h',xs[k1]?=some x->ys[k2]?=some y->ZS s.heap z TI TO i1 i2 l1 l2 xs ys h' (rawInt s.heap.objs.size) x y (k1 + 1) (k2 + 1)->IsPair h' s.heap.objs.size x y->h'.objs.size=s.heap.objs.size + 1->Q (some (.ref s.heap.objs.size)) { s with heap:=h' })
  (stop:(xs[k1]?=none∨ys[k2]?=none)->∀ h',(∀ c o,c ∉ [z,TO,i1,i2]->s.heap.get? c=some o->h'.get? c=some o)->Q none { s with heap:=h' }):wpAny (model prog w) A (pyNext (.ref z)) Q E s :=
 DN (b:=Builtin.«zip.__next__») ⟨_,Z.zip,rfl⟩ PySem.F.slot_zip_next PySem.F.entry_zip_next (PySem.F.args_zip_next_1 _) (C3 (Q:=fun v t=>Q (some v) t) hh Z item fun no h' e far st=>⟨e,rfl,st,stop no h' far⟩)
end
noncomputable def IK (h:Heap)(l:Addr)(nm:String):Prop:=(∃ xs,h.IsList l xs/\nm="list_iterator")∨(∃ xs,h.IsTuple l xs/\nm="tuple_iterator")
theorem IK.push {h:Heap}{l:Addr}{nm:String}{o:Obj}(x:IK h l nm):IK (h.push o) l nm:=by
 rcases x with ⟨xs,y,e⟩ | ⟨xs,y,e⟩
 ·exact .inl ⟨xs,y.push _,e⟩
 ·exact .inr ⟨xs,y.push _,e⟩
theorem HC {prog:Program}{w:World}{A:Around}{E:bX}{s:Shared}{l:Addr}{nm:String}{Q:bX}(x:IK s.heap l nm)
  (h:Q (.ref s.heap.objs.size) { s with heap:=s.heap.push { cls:=.type nm,data:=.fields #[.ref l,.int 0 0] } }):wpAny (model prog w) A (pyIter (.ref l)) Q E s:=by
 rcases x with ⟨xs,y,rfl⟩ | ⟨xs,y,rfl⟩
 ·exact wpAny_pyIter_list y h
 ·exact wpAny_pyIter_tuple y h
theorem EQ {prog:Program}{w:World}{A:Around}{E:bX}{s:Shared}{l1 l2:Addr}{n1 n2:String}{Q:bX}(a1:IK s.heap l1 n1)(a2:IK s.heap l2 n2)
  (k:∀ h' z TI TO i1 i2,ZipAt z TI TO i1 i2->(∀ c ∈ [z,TI,TO,i1,i2],s.heap.objs.size<=c)->IsZip h' z TI TO .none->IsPair h' TI (.ref i1) (.ref i2)->IsPair h' TO .none .none->jC h' i1 l1 0->jC h' i2 l2 0->(∀ c o,s.heap.get? c=some o->h'.get? c=some o)->Q (.ref z) { s with heap:=h' }):wpAny (model prog w) A (call (.type "zip") [.ref l1,.ref l2]) Q E s:=by
 have made:Meets (Builtin.«zip.__new__» ⟨[.type "zip",.ref l1,.ref l2],[]⟩) (fun _ R t=>IK t.heap l1 n1/\IK t.heap l2 n2/\∀ i1 i2 TI TO z h1 h2 h3 h4,i1=t.heap.objs.size->h1=t.heap.push { cls:=.type n1,data:=.fields #[.ref l1,.int 0 0] } ->
   i2=h1.objs.size->h2=h1.push { cls:=.type n2,data:=.fields #[.ref l2,.int 0 0] }->TI=h2.objs.size->h3=h2.push { cls:=.type "tuple",data:=.seq #[.ref i1,.ref i2] }->TO=h3.objs.size->h4=h3.push { cls:=.type "tuple",data:=.seq #[.none,.none] }->z=h4.objs.size ->
   R (.ok (.ret (.ref z))) { t with heap:=h4.push { cls:=.type "zip",data:=.fields #[.none,.bool false,.bool false,.ref TI,.ref TO] } }):=by
  refine .of_wp fun prog w A R t ⟨b1,b2,q⟩=>?_
  have isZip:=sub_zip
  obtain ⟨h,g,d,tk,os⟩:=t
  have r1:=fun (Q:bX) q=>HC (prog:=prog) (w:=w) (A:=A.in1) (E:=fun e s'=>R (.error e) s') (Q:=Q) b1 q
  have r2:=fun (Q:bX) q=>HC (prog:=prog) (w:=w) (A:=A.in1) (E:=fun e s'=>R (.error e) s') (Q:=Q) (s:=⟨h.push { cls:=.type n1,data:=.fields #[.ref l1,.int 0 0] },g,d,tk,os⟩) (IK.push b2) q
  wp_walk using r1,r2
  exact ⟨_,rfl,q _ _ _ _ _ _ _ _ _ rfl rfl rfl rfl rfl rfl rfl rfl rfl⟩
 refine callType_new PySem.F.called_zip (by decide) (PySem.F.typeCall_zip_2 _ _) (PySem.F.newCall_zip_2 _ _) (fun obj=>PySem.F.args_object_init_3 obj _ _) PySem.F.entry_zip_new made ⟨a1,a2,?_⟩
 intro i1 i2 TI TO z h1 h2 h3 h4 e1 d1 e2 d2 e3 d3 e4 d4 e5
 have s1:h1.objs.size=s.heap.objs.size + 1:=by rw [d1,Heap.size_push]
 have s2:h2.objs.size=s.heap.objs.size + 2:=by rw [d2,Heap.size_push,s1]
 have s3:h3.objs.size=s.heap.objs.size + 3:=by rw [d3,Heap.size_push,s2]
 have s4:h4.objs.size=s.heap.objs.size + 4:=by rw [d4,Heap.size_push,s3]
 have up1:∀ c o,s.heap.get? c=some o->h1.get? c=some o:=fun c o q=>by rw [d1];exact Heap.get?_push_of_some _ q
 have up2:∀ c o,h1.get? c=some o->h2.get? c=some o:=fun c o q=>by rw [d2];exact Heap.get?_push_of_some _ q
 have up3:∀ c o,h2.get? c=some o->h3.get? c=some o:=fun c o q=>by rw [d3];exact Heap.get?_push_of_some _ q
 have up4:∀ c o,h3.get? c=some o->h4.get? c=some o:=fun c o q=>by rw [d4];exact Heap.get?_push_of_some _ q
 have p1:h1.get? i1=some { cls:=.type n1,data:=.fields #[.ref l1,.int 0 0] }:=by rw [e1,d1];exact Heap.get?_push_size _ rfl
 have p2:h2.get? i2=some { cls:=.type n2,data:=.fields #[.ref l2,.int 0 0] }:=by rw [e2,d2];exact Heap.get?_push_size _ rfl
 have p3:h3.get? TI=some { cls:=.type "tuple",data:=.seq #[.ref i1,.ref i2] }:=by rw [e3,d3];exact Heap.get?_push_size _ rfl
 have p4:h4.get? TO=some { cls:=.type "tuple",data:=.seq #[.none,.none] }:=by rw [e4,d4];exact Heap.get?_push_size _ rfl
 have at5:∀ c o,h4.get? c=some o->(h4.push { cls:=.type "zip",data:=.fields #[.none,.bool false,.bool false,.ref TI,.ref TO] }).get? c=some o:=fun c o q=>Heap.get?_push_of_some _ q
 have p5:IsZip (h4.push { cls:=.type "zip",data:=.fields #[.none,.bool false,.bool false,.ref TI,.ref TO] }) z TI TO .none:=by rw [e5];exact Heap.get?_push_size _ rfl
 have sq:∀ {l i:Addr} {nm:String} {h:Heap},IK s.heap l nm->h.get? i=some { cls:=.type nm,data:=.fields #[.ref l,.int 0 0] }->jC h i l 0:=fun a e=>by
  rcases a with ⟨_,_,rfl⟩ | ⟨_,_,rfl⟩
  ·exact .inl ⟨_,e,rfl,rfl⟩
  ·exact .inr ⟨_,e,rfl,rfl⟩
 have D:ZipAt z TI TO i1 i2:=by constructor <;> (intro q;have q:(_:Nat)=_:=q;omega)
 refine ⟨⟨_,p5,rfl⟩,k _ z TI TO i1 i2 D (fun c hc=>?_) p5 (at5 _ _ (up4 _ _ p3)) (at5 _ _ p4) (sq a1 (at5 _ _ (up4 _ _ (up3 _ _ (up2 _ _ p1))))) (sq a2 (at5 _ _ (up4 _ _ (up3 _ _ p2)))) fun c o q=>at5 _ _ (up4 _ _ (up3 _ _ (up2 _ _ (up1 _ _ q))))⟩
 simp only [List.mem_cons,List.not_mem_nil,or_false] at hc
 rcases hc with q | q | q | q | q <;> (rw [q];show (_:Nat)<=_;omega)
noncomputable def N3 (a b:Addr):It :=
 ⟨fun i H=>∃ xs ys x y,eG H a xs/\eG H b ys/\xs[i]?=some x/\ys[i]?=some y,
  fun i H z H'=>∃ T x y,z = .ref T/\H T=none/\H'=upd H T (.tup [x,y])/\∀ xs ys,eG H a xs->eG H b ys->xs[i]?=some x/\ys[i]?=some y,
  fun i H=>∃ xs ys,eG H a xs/\eG H b ys/\(xs.length<=i∨ys.length<=i)⟩
theorem eG.inj {H:Hp}{a:Addr}{xs ys:List V}(h:eG H a xs)(k:eG H a ys):xs=ys:=by
 rcases h with h | h <;> rcases k with k | k <;> rw [h] at k <;> cases k <;> rfl
theorem aO.sq {X:Cx}{pins:dE}{σ:St}{H:Hp}{s:Shared}{a:Addr}{xs:List V}(I:aO X pins σ H s)(h:eG H a xs):∃ its:bP,aU xs its/\pN s.heap a its.toArray/\∃ nm,IK s.heap a nm:=by
 rcases h with h | h
 ·obtain ⟨its,rv,p,_⟩:=I.list (eA.of h)
  obtain ⟨o,e,c,n,d⟩:=p.isList
  exact ⟨its,rv,⟨o,n,e,d⟩,_,.inl ⟨_,p.isList,rfl⟩⟩
 ·obtain ⟨its,rv,p,_⟩:=I.tuple (h8.of h)
  have p':s.heap.IsTuple a its.toArray:=p
  obtain ⟨o,e,c,n,d⟩:=id p'
  exact ⟨its,rv,⟨o,n,e,d⟩,_,.inr ⟨_,p',rfl⟩⟩
theorem eG.some {H:Hp}{a:Addr}{xs:List V}(h:eG H a xs):∃ o,H a=some o:=h.elim (fun e=>⟨_,e⟩) fun e=>⟨_,e⟩
theorem LS {X:Cx}{pins:dE}{σ:St}{H:Hp}{s:Shared}{a b z TI TO i1 i2:Addr}{i:Nat}{xs ys:List V}(I:aO X pins σ H s)(hf:∀ c ∈ [z,TI,TO,i1,i2],fI X pins H c)(D:ZipAt z TI TO i1 i2)
  (st:IsZip s.heap z TI TO .none/\IsPair s.heap TI (.ref i1) (.ref i2)/\(∃ u v,IsPair s.heap TO u v)/\jC s.heap i1 a i/\jC s.heap i2 b i) (hxs:eG H a xs) (hys:eG H b ys) :
  ∃ its:bP,aU xs its/\pN s.heap a its.toArray/\(∃ its2:bP,aU ys its2/\pN s.heap b its2.toArray)/\∀ its2:bP,(aU ys its2/\pN s.heap b its2.toArray)->∃ u v,ZS s.heap z TI TO i1 i2 a b its.toArray its2.toArray s.heap .none u v i i:=by
 obtain ⟨its,rv,p,_⟩:=I.sq hxs
 obtain ⟨its2,rv2,p2,_⟩:=I.sq hys
 obtain ⟨hz,hTI,⟨u,v,hTO⟩,h1,h2⟩:=st
 have off:∀ {c:Addr} {zs:List V},eG H c zs->c ∉ [z,TO,i1,i2]:=fun {c zs} q hm=>by
  obtain ⟨o,e⟩:=q.some
  rw [(hf c (by simp at hm ⊢;rcases hm with r | r | r | r <;> simp [r])).1] at e
  cases e
 exact ⟨its,rv,p,⟨its2,rv2,p2⟩,fun its3 q3=>⟨u,v,{ toZipAt:=D,n1:=off hxs,n2:=off hys },hz,hTI,hTO,h1,h2,p,q3.2,fun _ _ _ e=>e⟩⟩
theorem C6 {P:Program}{w:World}{K:PySem.W.Frag}{elts:lW}{tk0}{tpos:Pos}(a b z TI TO i1 i2:Addr)(D:ZipAt z TI TO i1 i2) :
  pH P w K (.Tuple elts tk0 tpos) (N3 a b) [z,TI,TO,i1,i2] z (fun i h=>IsZip h z TI TO .none/\IsPair h TI (.ref i1) (.ref i2)/\(∃ u v,IsPair h TO u v)/\jC h i1 a i/\jC h i2 b i) where
 mem:=by simp
 obj:=fun i h st c hc=>by
  obtain ⟨hz,hTI,⟨u,v,hTO⟩,h1,h2⟩:=st
  obtain ⟨o1,e1,d1⟩:=h1.obj
  obtain ⟨o2,e2,d2⟩:=h2.obj
  simp only [List.mem_cons,List.not_mem_nil,or_false] at hc
  rcases hc with rfl | rfl | rfl | rfl | rfl
  ·exact ⟨_,hz,fun v z=>by cases z⟩
  ·exact ⟨_,hTI,fun v z=>by cases z⟩
  ·exact ⟨_,hTO,fun v z=>by cases z⟩
  ·exact ⟨_,e1,fun v z=>by rw [d1] at z;cases z⟩
  ·exact ⟨_,e2,fun v z=>by rw [d2] at z;cases z⟩
 keep:=fun i h h' st k=>by
  obtain ⟨hz,hTI,⟨u,v,hTO⟩,h1,h2⟩:=st
  exact ⟨k z (by simp) _ hz,k TI (by simp) _ hTI,⟨u,v,k TO (by simp) _ hTO⟩,h1.at fun o e=>k i1 (by simp) o e,h2.at fun o e=>k i2 (by simp) o e⟩
 item:=by
  intro X hP hw hK hc i pins s σ H E I hf st ⟨xs,ys,x,y,hxs,hys,hx,hy⟩
  subst hP hw hK
  obtain ⟨its,rv,p,p',Z⟩:=LS I hf D st hxs hys
  obtain ⟨its2,rv2⟩:=p'
  obtain ⟨u0,v0,Z⟩:=Z its2 rv2
  refine tW (I.ok.hd hc) Z (fun u v h' hu hv Z' pr size=>?_) fun no=>?_
  ·obtain ⟨u',hu',ru⟩:=rv.get hx
   obtain ⟨v',hv',rw'⟩:=rv2.1.get hy
   rw [show its.toArray[i]?=its[i]? from by simp] at hu
   rw [show its2.toArray[i]?=its2[i]? from by simp] at hv
   rw [hu'] at hu
   rw [hv'] at hv
   cases hu
   cases hv
   refine ⟨_,rfl,wpAny_letOwnedTupleGo_zip (s:={ s with heap:=h' }) Z'.zip fun h2 hz2 sb2=>?_⟩
   have Z2:=Z'.self sb2.extBut hz2
   have new:z≠s.heap.objs.size:=Nat.ne_of_lt (Heap.lt_size Z.zip)
   have pr2:IsPair h2 s.heap.objs.size u v:=sb2.extBut _ _ new.symm pr
   have far:∀ c o,c ∉ [z,TI,TO,i1,i2]->s.heap.get? c=some o->h2.get? c=some o:=fun c o hc e=>Z2.far c o (fun q=>hc (by simp at q ⊢;rcases q with r | r | r | r <;> simp [r])) e
   have I2:aO X pins σ (upd H s.heap.objs.size (.tup [x,y])) { s with heap:=h2 }:=I.turnedLaid (t':=s.toks) (ch:=[z,TI,TO,i1,i2]) far hf (Nat.le_refl _) ⟨by show 2<=sizeLine;decide,[u,v],.cons ru (.cons rw' .nil),⟨_,pr2,rfl,_,rfl⟩⟩
   refine ⟨.ref s.heap.objs.size,_,I2,rfl,⟨s.heap.objs.size,x,y,rfl,I.hok.fresh (Nat.le_refl _),rfl,fun xs' ys' q1 q2=>?_⟩,⟨Z2.zip,Z2.tin,⟨u,v,Z2.tout⟩,Z2.one,Z2.two⟩,fun c hc=>?_⟩
   ·rw [q1.inj hxs,q2.inj hys];exact ⟨hx,hy⟩
   ·have live:∃ o,s.heap.get? c=some o:=by
     simp only [List.mem_cons,List.not_mem_nil,or_false] at hc
     rcases hc with rfl | rfl | rfl | rfl | rfl
     ·exact ⟨_,Z.zip⟩
     ·exact ⟨_,Z.tin⟩
     ·exact ⟨_,Z.tout⟩
     ·obtain ⟨o,e,_⟩:=Z.one.obj;exact ⟨o,e⟩
     ·obtain ⟨o,e,_⟩:=Z.two.obj;exact ⟨o,e⟩
    obtain ⟨o,e⟩:=live
    rw [aC (Nat.ne_of_lt (Heap.lt_size e))];exact (hf c hc).1
  ·obtain ⟨u',hu',_⟩:=rv.get hx
   obtain ⟨v',hv',_⟩:=rv2.1.get hy
   rcases no with q | q
   ·rw [show its.toArray[i]?=its[i]? from by simp,hu'] at q;cases q
   ·rw [show its2.toArray[i]?=its2[i]? from by simp,hv'] at q;cases q
 done:=by
  intro X hP hw hK hc i pins s σ H E I hf st ⟨xs,ys,hxs,hys,hd⟩
  subst hP hw hK
  obtain ⟨its,rv,p,p',Z⟩:=LS I hf D st hxs hys
  obtain ⟨its2,rv2⟩:=p'
  obtain ⟨u0,v0,Z⟩:=Z its2 rv2
  have e1:=rv.length
  have e2:=rv2.1.length
  refine tW (I.ok.hd hc) Z (fun u v h' hu hv _ _ _=>?_) fun _ h' far=>⟨rfl,?_⟩
  ·obtain ⟨q1,_⟩:=Array.getElem?_eq_some_iff.mp hu
   obtain ⟨q2,_⟩:=Array.getElem?_eq_some_iff.mp hv
   rw [List.size_toArray] at q1 q2
   omega
  ·exact I.turnedL (t':=s.toks) (ch:=[z,TI,TO,i1,i2]) (fun c o hc e=>far c o (fun q=>hc (by simp at q ⊢;rcases q with r | r | r | r <;> simp [r])) e) hf
 self:=fun _ _ _ _ _ st h=>wpAny_pyIter_zip st.1 h
noncomputable def iZip2 (ta:TA):TI:=fun σ H R=>ta σ H fun vs H1=>∃ a b xs ys,vs=[.ref a,.ref b]/\eG H1 a xs/\eG H1 b ys/\R (N3 a b) H1
theorem JS {X:Cx}{elts:lW}{tk0:_}{tpos:Pos}{a b:Expr}{ta:TA}{p pos:Pos}(hg:Gl X "zip")(hm:X.mg "zip" = none)(ha:PA X [a,b] ta)(hs:starEach [a,b] X.env=[(false,eval a X.env),(false,eval b X.env)]:=by rfl)(hs2:starEach [b] X.env=[(false,eval b X.env)]:=by rfl) :
  PI X (.Tuple elts tk0 tpos) (.Call (.Name "zip" p) [a,b] [] pos) (iZip2 ta):=by
 intro pins s σ H R I h
 refine Call_ (kO I hg hm boot_zip (PyProof.Rows.callWith_type1 (thn (ha pos pins s σ H _ I h) fun us s1 ⟨vs,H1,I1,r1,q1⟩=>?_) (by rw [hs,hs2]) (by rw [hs2];rfl)))
 obtain ⟨l1,l2,xs,ys,e,hx,hy,q⟩:=q1
 subst e
 obtain ⟨u1,u2,rfl,e1,e2⟩:=vals2 r1
 cases e1
 cases e2
 obtain ⟨its,rv,p1,nm1,k1⟩:=I1.sq hx
 obtain ⟨its2,rv2,p2,nm2,k2⟩:=I1.sq hy
 refine EQ k1 k2 fun h' z TI TO i1 i2 D new a1 a2 a3 a4 a5 hk=>?_
 refine wpAny_pyIter_zip (s:={ s1 with heap:=h' }) a1 ?_
 exact ⟨z,[z,TI,TO,i1,i2],_,_,H1,rfl,I1.kept (t':=s1.toks) hk,C6 l1 l2 z TI TO i1 i2 D,⟨a1,a2,⟨_,_,a3⟩,a4,a5⟩,fun c hc=>I1.fpOk (new c hc) (I1.hok.fresh (new c hc)),q⟩
theorem rNeD_bb {H:Hp}{Q:VK}{i j:Bool}:rNeD (.bl i) (.bl j) H Q=Q (.bl (!decide (i=j))) H:=by
 have e:eqD (.bl i) (.bl j)=decide (i=j):=by cases i <;> cases j <;> rfl
 refine propext ⟨fun ⟨d,e',h1,h2,_,q⟩=>?_,fun q=>⟨.bl i,.bl j,rfl,rfl,Nat.zero_le _,by rw [e];exact q⟩⟩
 have d1:d = .bl i:=bB.inj h1 (show bB H (.bl i) (.bl i) from rfl)
 have d2:e' = .bl j:=bB.inj h2 (show bB H (.bl j) (.bl j) from rfl)
 rw [d1,d2,e] at q
 exact q
theorem rEqD_bb {H:Hp}{Q:VK}{i j:Bool}:rEqD (.bl i) (.bl j) H Q=Q (.bl (decide (i=j))) H:=by
 have e:eqD (.bl i) (.bl j)=decide (i=j):=by cases i <;> cases j <;> rfl
 refine propext ⟨fun ⟨d,e',h1,h2,_,q⟩=>?_,fun q=>⟨.bl i,.bl j,rfl,rfl,Nat.zero_le _,by rw [e];exact q⟩⟩
 have d1:d = .bl i:=bB.inj h1 (show bB H (.bl i) (.bl i) from rfl)
 have d2:e' = .bl j:=bB.inj h2 (show bB H (.bl j) (.bl j) from rfl)
 rw [d1,d2,e] at q
 exact q
end L2
namespace L2
open PySem
theorem OS {H:Hp}{p:Addr}{i:Int}:ixV H (.ref p) (.int i)=(match H p with
  | some (.lst xs)=>atI xs i
  | some (.tup xs)=>atI xs i
  | some (.frz _ (.lst xs))=>atI xs i
  | _=>none):=rfl
noncomputable def abc:Str:="abcdefghijklmnopqrstuvwxyz"
theorem NU (j:Nat)(h:j < 26):abc.cps.toList[j]?=some (97 + j):=by
 have:∀ j:Fin 26,abc.cps.toList[j.1]?=some (97 + j.1):=by decide +kernel
 exact this ⟨j,h⟩
theorem LH:abc.cps.toList.length=26:=by decide +kernel
theorem NM {H:Hp}{i:Int}(h0:0<=i)(h1:i < 26):ixV H (.str abc) (.int i)=some (.str ⟨#[97 + i.toNat]⟩):=by
 show (if abc.length<=sizeLine then (atI abc.cps.toList i).map fun c=>V.str ⟨#[c]⟩ else none)=_
 rw [if_pos (by decide +kernel),kU h0 (by rw [LH];exact h1),NU _ (by omega)]
 rfl
noncomputable def wordL:Nat->Int->List Nat
 | 0,_=>[]
 | k + 1,n=>(97 + (n % 26).toNat) :: wordL k (n / 26)
theorem oH:∀ k n,(wordL k n).length=k
 | 0,_=>rfl
 | k + 1,n=>by simp [wordL,oH k]
noncomputable def wordS (k:Nat)(n:Int):Str:=⟨(wordL k n).toArray⟩
theorem tyL {K:PySem.W.Frag}{H:Hp}{p:Addr}{xs:List V}(h:H p=some (.lst xs)):tyV K "list" (.ref p) H:=.inl ⟨rfl,xs,eA.of h⟩
noncomputable def hV (x:Str):Prop:=1<=x.cps.toList.length/\x.cps.toList.length<=6/\∀ c ∈ x.cps.toList,97<=c/\c<=122
theorem xE:∀ (k:Nat) (n:Int),∀ c ∈ wordL k n,97<=c/\c<=122
 | 0,_,_,h=>by simp [wordL] at h
 | k + 1,n,c,h=>by
  rw [wordL] at h
  rcases List.mem_cons.mp h with e | e
  ·have h1:=Int.emod_nonneg n (b:=26) (by decide)
   have h2:=Int.emod_lt_of_pos n (b:=26) (by decide)
   omega
  ·exact xE k _ c e
theorem E8 {k:Nat}{n:Int}(h1:1<=k)(h2:k<=6):hV (wordS k n):=by
 have e:(wordS k n).cps.toList=wordL k n:=by simp [wordS]
 refine ⟨?_,?_,?_⟩
 ·rw [e,oH];exact h1
 ·rw [e,oH];exact h2
 ·rw [e];exact xE k n
theorem C4 {k:Nat}{a b:Int}(hk:1<=k)(h:wordS k a=wordS k b):a % 26=b % 26:=by
 obtain ⟨j,rfl⟩:∃ j,k=j + 1:=⟨k - 1,by omega⟩
 have e:(wordS (j + 1) a).cps.toList=(wordS (j + 1) b).cps.toList:=by rw [h]
 simp only [wordS,wordL] at e
 injection e with e1 _
 have h1:=Int.emod_nonneg a (b:=26) (by decide)
 have h2:=Int.emod_nonneg b (b:=26) (by decide)
 omega
theorem tU {α:Type}[DecidableEq α]:∀ {xs ys:List α},xs.Nodup->(∀ x ∈ xs,x ∈ ys)->xs.length<=ys.length
 | [],_,_,_=>Nat.zero_le _
 | x :: xs,ys,nd,h=>by
  obtain ⟨h1,h2⟩:=List.nodup_cons.mp nd
  have hx:=h x List.mem_cons_self
  have q:=tU (ys:=ys.erase x) h2 fun y hy=>(List.mem_erase_of_ne (fun e=>h1 (by rw [← e];exact hy))).mpr (h y (List.mem_cons_of_mem _ hy))
  rw [List.length_erase_of_mem hx] at q
  have:=List.length_pos_of_mem hx
  simp only [List.length_cons]
  omega
theorem oG {k:Nat}{n:Int}{ws:aQ}{t:Nat}(hk:1<=k)(ht:t<=26)(h:∀ i,i < t->wordS k (n + i) ∈ ws):t<=ws.length:=by
 have nd:((List.range t).map fun i=>wordS k (n + (i:Nat))).Nodup:=by
  rw [List.nodup_iff_pairwise_ne,List.pairwise_map]
  refine List.Pairwise.imp_of_mem ?_ (List.pairwise_lt_range (n:=t))
  intro a b ha hb hab e
  have:=C4 hk e
  have h1:=List.mem_range.mp ha
  have h2:=List.mem_range.mp hb
  omega
 have q:=tU nd (ys:=ws) fun x hx=>by
  obtain ⟨i,hi,rfl⟩:=List.mem_map.mp hx
  exact h i (List.mem_range.mp hi)
 simpa using q
theorem fK {H:Hp}:∀ (ws:aQ),Reps H (ws.map D.str) (ws.map V.str)
 | []=>rfl
 | x :: r=>⟨.str x,r.map V.str,rfl,rfl,fK r⟩
theorem dep_strs:∀ ws:aQ,depDs (ws.map D.str)=0
 | []=>rfl
 | x :: r=>by rw [List.map_cons,depDs,dep_strs r];rfl
theorem nU {x:Str}:∀ ws:aQ,inD (.str x) (ws.map D.str)=decide (x ∈ ws)
 | []=>by simp [inD]
 | y :: r=>by
  have ih:=nU (x:=x) r
  unfold inD at ih ⊢
  rw [List.map_cons,List.any_cons,ih]
  have e:eqD (.str y) (.str x)=decide (y=x):=by
   show (y == x)=_
   rw [Bool.eq_iff_iff];simp
  rw [e,Bool.eq_iff_iff]
  simp only [Bool.or_eq_true,decide_eq_true_eq,List.mem_cons]
  constructor
  ·rintro (h | h)
   ·exact .inl h.symm
   ·exact .inr h
  ·rintro (h | h)
   ·exact .inl h.symm
   ·exact .inr h
noncomputable def del (H:Hp)(p:Addr):Hp:=fun b=>if b=p then none else H b
theorem kR {H:Hp}{p b:Addr}{o:HO}(h:H b=some o)(n:b≠p):del H p b=some o:=by unfold del;rw [if_neg n];exact h
theorem gM {H:Hp}{p b:Addr}{o:HO}(h:del H p b=some o):H b=some o/\b≠p:=by
 unfold del at h
 by_cases e:b=p
 ·rw [if_pos e] at h;cases h
 ·rw [if_neg e] at h;exact ⟨h,e⟩
theorem IC (H:Hp)(p:Addr):aG (del H p) H:=fun b o h=>(gM h).1
end L2
section
local macro_rules | `(tactic| walk_at "rd")=>do
 let xs:Array (Lean.TSyntax [`Lean.Parser.Tactic.simpStar,`Lean.Parser.Tactic.simpErase,`Lean.Parser.Tactic.simpLemma]):=("L2.start List.map_cons List.map_nil List.length_cons List.length_nil Nat.reduceAdd Nat.reduceSub Nat.zero_add List.replicate_succ List.replicate_zero List.cons_append List.nil_append List.set_cons_zero List.set_cons_succ L2.tSeq L2.tIfS L2.tTest L2.tOp L2.tVar L2.tC L2.rI0 L2.tAsg L2.gName L2.gSub L2.rI L2.tRet L2.tNext L2.rSetL L2.rAddF L2.rRep L2.tCB L2.r1 L2.tCons L2.tNil L2.tDrop L2.tAnd L2.tOr L2.tNot L2.tIf L2.tLst L2.tTup L2.tCall L2.tFor_eq L2.tComp_eq L2.tComp2_eq L2.iRng1 L2.iRng2 L2.iAny L2.iSq L2.iZip L2.iZip2 L2.iEnum L2.tRaise L2.tTry L2.rLtL L2.rAll L2.rAny L2.rSum L2.tUn L2.rU L2.gTup L2.gCons L2.gNil L2.tBM L2.tBM0 L2.rAppend L2.rPop L2.rPopAt L2.rExtend L2.tSl L2.tNoPart L2.tPart L2.rSlF L2.rSlU L2.rTupU L2.CStep L2.tYes L2.stC Option.bind_some Option.bind_none Option.join_some L2.tAndV L2.tOrV L2.tNotV L2.tNever not_true_eq_false not_false_eq_true L2.tChain L2.tTruth L2.rIs_eq L2.truV_bl L2.isV_ii L2.isV_ib L2.isV_ll L2.lenV_l L2.lenV_t L2.seqV_l L2.seqV_t L2.ixV_l L2.ixV_t if_true if_false Bool.not_true Bool.not_false Bool.false_eq_true Option.bind_eq_bind Option.pure_def L2.rEqD_ii L2.rNeD_ii L2.rEqD_bb L2.rNeD_bb L2.isV_bb L2.rEqD_ss L2.rNeD_ss Int.zero_add L2.catO_i L2.catO_s L2.addV L2.intV L2.atI_zero L2.atI_one L2.ixN_zero L2.ixN_one L2.upd_same L2.upd_upd Option.map_some Option.map_none List.getElem?_cons_zero List.getElem?_cons_succ Option.some.injEq L2.V.int.injEq L2.V.ref.injEq L2.V.bl.injEq L2.V.str.injEq L2.HO.lst.injEq List.cons.injEq and_true true_and exists_eq_left exists_eq_left' exists_eq_right exists_eq_right' exists_and_left exists_and_right exists_const reduceCtorEq false_and and_false exists_false or_false false_or decide_eq_true_eq ite_eq_left_iff Bool.not_eq_true Bool.not_eq_eq_eq_not decide_eq_false_iff_not decide_true decide_false".splitOn " ").toArray.map fun s=>⟨Lean.mkNode `Lean.Parser.Tactic.simpLemma #[Lean.mkNullNode,Lean.mkNullNode,Lean.mkIdent s.toName]⟩
 let xs:=xs.push ⟨Lean.mkNode `Lean.Parser.Tactic.simpStar #[Lean.mkAtom "*"]⟩
 `(tactic| simp only [$xs,*])
namespace Lw
open PySem L2
noncomputable def zD:aQ:=["_law_script","_law_k"]
noncomputable def lE:aQ:=["_law_script","_law_k"]
theorem vQ:aY zD lE (aF eM):=⟨rfl,rfl,rfl,by decide +kernel,rfl,by decide +kernel,by decide +kernel⟩
noncomputable def sO:aQ:=["_law_script","_law_k","_law_cell_here"]
noncomputable def mW:aQ:=["_law_script","_law_k"]
theorem pP:aY sO mW (aF fF):=⟨rfl,rfl,rfl,by decide +kernel,rfl,by decide +kernel,by decide +kernel⟩
noncomputable def p9:aQ:=["_law_pot_here","_law_many","_law_digit"]
noncomputable def lB:aQ:=["_law_pot_here","_law_many"]
theorem nI:aY p9 lB (aF eK):=⟨rfl,rfl,rfl,by decide +kernel,rfl,by decide +kernel,by decide +kernel⟩
noncomputable def p0:aQ:=["_law_size","_law_number","_law_word_here","_law_k"]
noncomputable def lA:aQ:=["_law_size","_law_number"]
theorem fR:aY p0 lA (aF eJ):=⟨rfl,rfl,rfl,by decide +kernel,rfl,by decide +kernel,by decide +kernel⟩
noncomputable def oA:aQ:=["_law_pot_here","_law_many","_law_found","_law_k","_law_size","_law_number"]
noncomputable def j8:aQ:=["_law_pot_here","_law_many"]
theorem eB:aY oA j8 (aF dY):=⟨rfl,rfl,rfl,by decide +kernel,rfl,by decide +kernel,by decide +kernel⟩
noncomputable def iD:aQ:=["_law_pot_here","_law_many","_law_sums","_law_names_here","_law_sure","_law_fixed","_law_left","_law_told","_law_name","_law_nought"]
noncomputable def j7:aQ:=["_law_pot_here"]
theorem bQ:aY iD j7 (aF cT):=⟨rfl,rfl,rfl,by decide +kernel,rfl,by decide +kernel,by decide +kernel⟩
noncomputable def oB:aQ:=["_law_pot_here","_law_found","_law_k","_law_wish","_law_j"]
noncomputable def kA:aQ:=["_law_pot_here"]
theorem eC:aY oB kA (aF dZ):=⟨rfl,rfl,rfl,by decide +kernel,rfl,by decide +kernel,by decide +kernel⟩
noncomputable def lG:aQ:=["_law_pot_here","_law_told","_law_own","_law_bare","_law_some"]
noncomputable def lD:aQ:=["_law_pot_here","_law_told","_law_own"]
theorem jV:aY lG lD (aF dU):=⟨rfl,rfl,rfl,by decide +kernel,rfl,by decide +kernel,by decide +kernel⟩
noncomputable def iE:aQ:=["_law_told","_law_room","_law_found"]
noncomputable def j9:aQ:=["_law_told","_law_room"]
theorem i4:aY iE j9 (aF cU):=⟨rfl,rfl,rfl,by decide +kernel,rfl,by decide +kernel,by decide +kernel⟩
noncomputable def p7:aQ:=["_law_pot_here","_law_told","_law_own","_law_room","_law_deep","_law_heads_here","_law_name","_law_parts","_law_left","_law_row","_law_k","_law_more"]
noncomputable def fN:aQ:=["_law_pot_here","_law_told","_law_own","_law_room","_law_deep"]
theorem cS:aY p7 fN (aF dG):=⟨rfl,rfl,rfl,by decide +kernel,rfl,by decide +kernel,by decide +kernel⟩
noncomputable def qA:aQ:=["_law_term_here"]
noncomputable def lC:aQ:=["_law_term_here"]
theorem vP:aY qA lC (aF eL):=⟨rfl,rfl,rfl,by decide +kernel,rfl,by decide +kernel,by decide +kernel⟩
noncomputable def oC:aQ:=["_law_one","_law_other","_law_here","_law_there"]
noncomputable def eW:aQ:=["_law_one","_law_other"]
theorem lY:aY oC eW (aF cV):=⟨rfl,rfl,rfl,by decide +kernel,rfl,by decide +kernel,by decide +kernel⟩
noncomputable def mG:aQ:=["_law_name","_law_nought","_law_parts","_law_found","_law_part"]
noncomputable def jG:aQ:=["_law_name","_law_nought","_law_parts"]
theorem fS:aY mG jG (aF dL):=⟨rfl,rfl,rfl,by decide +kernel,rfl,by decide +kernel,by decide +kernel⟩
noncomputable def lH:aQ:=["_law_told","_law_term_here","_law_parts","_law_noughts","_law_found","_law_part","_law_at"]
noncomputable def fP:aQ:=["_law_told","_law_term_here"]
theorem dW:aY lH fP (aF dA):=⟨rfl,rfl,rfl,by decide +kernel,rfl,by decide +kernel,by decide +kernel⟩
noncomputable def L3:aQ:=["_law_script","_law_pot_here","_law_told","_law_signs_here","_law_some","_law_k","_law_term_here","_law_due"]
noncomputable def L1:aQ:=["_law_script"]
theorem kI:aY L3 L1 (aF lZ):=⟨rfl,rfl,rfl,by decide +kernel,rfl,by decide +kernel,by decide +kernel⟩
noncomputable def jP:aQ:=["thing"]
noncomputable def pJ:aQ:=["thing"]
theorem zX:aY jP pJ (aF eS):=⟨rfl,rfl,rfl,by decide +kernel,rfl,by decide +kernel,by decide +kernel⟩
noncomputable def sM:aQ:=["signs","thing"]
noncomputable def mT:aQ:=["signs","thing"]
theorem xP:aY sM mT (aF fC):=⟨rfl,rfl,rfl,by decide +kernel,rfl,by decide +kernel,by decide +kernel⟩
noncomputable def kC:aQ:=["signs","thing","todo","at","depth"]
noncomputable def j6:aQ:=["signs","thing"]
theorem gL:aY kC j6 (aF dF):=⟨rfl,rfl,rfl,by decide +kernel,rfl,by decide +kernel,by decide +kernel⟩
noncomputable def zB:aQ:=["term","found","todo","at"]
noncomputable def sC:aQ:=["term"]
theorem lJ:aY zB sC (aF iJ):=⟨rfl,rfl,rfl,by decide +kernel,rfl,by decide +kernel,by decide +kernel⟩
noncomputable def n9:aQ:=["term"]
noncomputable def j5:aQ:=["term"]
theorem sS:aY n9 j5 (aF dX):=⟨rfl,rfl,rfl,by decide +kernel,rfl,by decide +kernel,by decide +kernel⟩
noncomputable def lF:aQ:=["term"]
noncomputable def kZ:aQ:=["term"]
theorem vO:aY lF kZ (aF dS):=⟨rfl,rfl,rfl,by decide +kernel,rfl,by decide +kernel,by decide +kernel⟩
noncomputable def zC:aQ:=["name","term"]
noncomputable def sE:aQ:=["name","term"]
theorem DL:aY zC sE (aF iK):=⟨rfl,rfl,rfl,by decide +kernel,rfl,by decide +kernel,by decide +kernel⟩
noncomputable def sN:aQ:=["name","nought","parts","left","part"]
noncomputable def mU:aQ:=["name","nought","parts"]
theorem kJ:aY sN mU (aF fE):=⟨rfl,rfl,rfl,by decide +kernel,rfl,by decide +kernel,by decide +kernel⟩
noncomputable def kE:aQ:=["signs","name","parts","nought"]
noncomputable def g8:aQ:=["signs","name","parts"]
theorem jL:aY kE g8 (aF cK):=⟨rfl,rfl,rfl,by decide +kernel,rfl,by decide +kernel,by decide +kernel⟩
noncomputable def jH:aQ:=["term","filling","whole","made","at","parts"]
noncomputable def jD:aQ:=["term","filling","whole"]
theorem fQ:aY jH jD (aF cY):=⟨rfl,rfl,rfl,by decide +kernel,rfl,by decide +kernel,by decide +kernel⟩
noncomputable def IM:aQ:=["signs","filling","term"]
noncomputable def sD:aQ:=["signs","filling","term"]
theorem DK:aY IM sD (aF cP):=⟨rfl,rfl,rfl,by decide +kernel,rfl,by decide +kernel,by decide +kernel⟩
noncomputable def IN:aQ:=["signs","term"]
noncomputable def BG:aQ:=["signs","term"]
theorem JF:aY IN BG (aF mK):=⟨rfl,rfl,rfl,by decide +kernel,rfl,by decide +kernel,by decide +kernel⟩
noncomputable def pM:aQ:=["thing"]
noncomputable def pK:aQ:=["thing"]
theorem zY:aY pM pK (aF fJ):=⟨rfl,rfl,rfl,by decide +kernel,rfl,by decide +kernel,by decide +kernel⟩
noncomputable def sK:aQ:=["thing"]
noncomputable def mS:aQ:=["thing"]
theorem xO:aY sK mS (aF fB):=⟨rfl,rfl,rfl,by decide +kernel,rfl,by decide +kernel,by decide +kernel⟩
noncomputable def hW:aQ:=["thing","least","most","pair"]
noncomputable def g9:aQ:=["thing","least","most"]
theorem jM:aY hW g9 (aF cA):=⟨rfl,rfl,rfl,by decide +kernel,rfl,by decide +kernel,by decide +kernel⟩
noncomputable def gN:aQ:=["pairs","names"]
noncomputable def jF:aQ:=["pairs"]
theorem kL:aY gN jF (aF cF):=⟨rfl,rfl,rfl,by decide +kernel,rfl,by decide +kernel,by decide +kernel⟩
noncomputable def jI:aQ:=["fixed_rows","name","many"]
noncomputable def jE:aQ:=["fixed_rows"]
theorem kK:aY jI jE (aF cZ):=⟨rfl,rfl,rfl,by decide +kernel,rfl,by decide +kernel,by decide +kernel⟩
noncomputable def hX:aQ:=["sum_rows","bare_names","name","nought","noughts"]
noncomputable def hG:aQ:=["sum_rows","bare_names"]
theorem gE:aY hX hG (aF cB):=⟨rfl,rfl,rfl,by decide +kernel,rfl,by decide +kernel,by decide +kernel⟩
noncomputable def gK:aQ:=["self","fixed","sums","fixed_rows","sum_rows"]
noncomputable def gJ:aQ:=["self","fixed","sums"]
theorem fU:aY gK gJ (aF bT):=⟨rfl,rfl,rfl,by decide +kernel,rfl,by decide +kernel,by decide +kernel⟩
noncomputable def oE:aQ:=["self","name"]
noncomputable def kB:aQ:=["self","name"]
theorem sT:aY oE kB (aF d5):=⟨rfl,rfl,rfl,by decide +kernel,rfl,by decide +kernel,by decide +kernel⟩
noncomputable def lI:aQ:=["self","name"]
noncomputable def iN:aQ:=["self","name"]
theorem qB:aY lI iN (aF dB):=⟨rfl,rfl,rfl,by decide +kernel,rfl,by decide +kernel,by decide +kernel⟩
noncomputable def sJ:aQ:=["signs","term"]
noncomputable def sF:aQ:=["signs","term"]
theorem DM:aY sJ sF (aF gQ):=⟨rfl,rfl,rfl,by decide +kernel,rfl,by decide +kernel,by decide +kernel⟩
noncomputable def sI:aQ:=["signs","term"]
noncomputable def sB:aQ:=["signs","term"]
theorem DH:aY sI sB (aF gO):=⟨rfl,rfl,rfl,by decide +kernel,rfl,by decide +kernel,by decide +kernel⟩
noncomputable def mH:aQ:=["_law_term_here","_law_found","_law_part"]
noncomputable def eE:aQ:=["_law_term_here"]
theorem fT:aY mH eE (aF cG):=⟨rfl,rfl,rfl,by decide +kernel,rfl,by decide +kernel,by decide +kernel⟩
noncomputable def hZ:aQ:=["_law_signs_here","_law_term_here","_law_some","_law_found","_law_due","_law_told"]
noncomputable def hO:aQ:=["_law_signs_here","_law_term_here"]
theorem dQ:aY hZ hO (aF cC):=⟨rfl,rfl,rfl,by decide +kernel,rfl,by decide +kernel,by decide +kernel⟩
structure iH (mg:gA):Prop where
 n_len:mg "len" = none
 n_range:mg "range" = none
 n_int:mg "int" = none
 n_abs:mg "abs" = none
 n_min:mg "min" = none
 n_max:mg "max" = none
 n_tuple:mg "tuple" = none
 n_list:mg "list" = none
 n_dict:mg "dict" = none
 n_set:mg "set" = none
 n_isinstance:mg "isinstance" = none
 n_str:mg "str" = none
 n_bool:mg "bool" = none
 n_sorted:mg "sorted" = none
 n_reversed:mg "reversed" = none
 n_all:mg "all" = none
 n_any:mg "any" = none
 n_zip:mg "zip" = none
 n_repr:mg "repr" = none
 n_enumerate:mg "enumerate" = none
 c_WISH_SIGNS:∃ u,mg "WISH_SIGNS" = some u/\aX (.str "abcdefghijklmnopqrstuvwxyz0123456789") u
 c_LETTERS:∃ u,mg "LETTERS" = some u/\aX (.str "abcdefghijklmnopqrstuvwxyz") u
 c_LONGEST_WISH:∃ u,mg "LONGEST_WISH" = some u/\aX (.int 9) u
 c_DEEPEST:∃ u,mg "DEEPEST" = some u/\aX (.int 1000) u
 c_LONGEST_NAME:∃ u,mg "LONGEST_NAME" = some u/\aX (.int 6) u
 c_MOST_FIXED:∃ u,mg "MOST_FIXED" = some u/\aX (.int 12) u
 c_MOST_SUMS:∃ u,mg "MOST_SUMS" = some u/\aX (.int 3) u
 c_MOST_PARTS:∃ u,mg "MOST_PARTS" = some u/\aX (.int 3) u
section
variable {P:Program}{w:World}{K:PySem.W.Frag}{mg:gA}{base:Heap}
noncomputable def zT (K:PySem.W.Frag):Sp:=fun vs H Q _=>∃ (a:Addr) (k:Int) (ns:List Int),vs=[.ref a,.int k]/\eA K H a (ns.map V.int)/\0<=k/\k<=1000/\∀ n,Q (.int n) H
theorem KN {f:Addr}{fd:FuncData}(F:gY K "_law_cell" "_law_cell" eM f fd)(T:iH mg):bR P w K mg base bC 1 f fd lE (zT K):=by
 refine F.ok vQ (fun vs H Q E h=>?_) (fun cdv A outer s H vs Q E hr h=>?_)
 ·obtain ⟨a,k,ns,rfl,_⟩:=h
  rfl
 ·obtain ⟨a,k,ns,rfl,ha,h0,h1,q⟩:=h
  have hu:=hr.units
  refine ⟨_,(aE (bK (a0 (i5 hu) (pv 1) (aK iC rfl T.n_len rfl (aA (pv 0) aB)) (nomark _)) (aH (aP (bN HA (pv 0) (pv 1) (fun _ _=>rfl)))) aW)
   (aH (aP aJ))),?_⟩
  refine ⟨_,rfl,_,rfl,a,_,rfl,.inl ha,.inl (.inl ⟨_,_,rfl,rfl,_,rfl,?_⟩)⟩
  refine ite2 (fun c=>?_) (fun c=>?_)
  ·have c:k < ((ns.map V.int).length:Int):=by simpa using c
   have hl:k.toNat < ns.length:=by rw [List.length_map] at c;omega
   refine ⟨_,rfl,_,rfl,.inl ⟨a,_,k,.int (ns[k.toNat]),rfl,rfl,ha,?_,q _⟩⟩
   rw [kU h0 c]
   simp [hl]
  ·exact q 0
noncomputable def spPot (K:PySem.W.Frag):Sp:=fun vs H Q _=>∃ (a:Addr) (k:Int) (ns:List Int),vs=[.ref a,.int k]/\eA K H a (ns.map V.int)/\0<=k/\k<=1000/\∀ p x y,H p=none->Q (.ref p) (upd H p (.lst [.int x,.int y]))
theorem M5 {f:Addr}{fd:FuncData}(F:gY K "_law_pot" "_law_pot" fF f fd)(T:iH mg)(O__law_cell:cH P w K mg base bC 1 "_law_cell" (zT K)):bR P w K mg base bC 2 f fd mW (spPot K):=by
 refine F.ok pP (fun vs H Q E h=>?_) (fun cdv A outer s H vs Q E hr h=>?_)
 ·obtain ⟨a,k,ns,rfl,_⟩:=h
  rfl
 ·obtain ⟨a,k,ns,rfl,ha,h0,h1,q⟩:=h
  refine ⟨_,(aE (aZ (i:=2) pP.nd rfl (Or.inl rfl) (aM O__law_cell (hr.mono (by decide)) pass0 rfl (aA (pv 0) (aA (pv 1) aB))))
   (aH (aP (cM (aA (bO (oZ.or oY) (pv 2) (bZ pG rfl T.n_int rfl (aA (dH LW (pv 2) (bO MV aJ aJ) (nomark _)) aB))) (aA (bO bV (bO bV (bO (oZ.or oY) (bO rC (aK EZ rfl T.n_abs rfl (aA (pv 2) aB)) aJ) aJ) (bO (oZ.or oY) aJ (pv 1))) aJ) aB)))))),?_⟩
  refine ⟨_,rfl,_,rfl,a,k,ns,rfl,ha,h0,h1,fun n=>?_⟩
  simp only [sO]
  clear F T O__law_cell hr
  walk_at "rd"
  have e1:OR 10 18:=⟨by decide,by decide,by decide⟩
  have e2:∀ i:Int,E6 i (if (10:Int) ^ Int.toNat 18<=n then 1 else 0):=fun i=>.inr (by split <;> decide)
  have e3:∀ i:Int,E6 i 3:=fun i=>.inr (by decide)
  have e4:∀ i:Int,E6 977 i:=fun i=>.inl (by decide)
  exact ⟨e1,e2 _,by decide,e3 _,e4 _,by decide,fun p hp=>q p _ _ hp⟩
noncomputable def bW (H:Hp)(p:Addr):Prop:=∃ a b:Int,H p=some (.lst [.int a,.int b])
theorem bW.but {p l:Addr}{H:Hp}{o:HO}(h:bW H p)(n:p≠l):bW (upd H l o) p:=by obtain ⟨x,y,e⟩:=h;exact ⟨x,y,by rw [aC n];exact e⟩
theorem bW.ne {p l:Addr}{H:Hp}(h:bW H p)(n:H l=none):p≠l:=by obtain ⟨x,y,e⟩:=h;exact aD e n
noncomputable def gZ:Sp:=fun vs H Q _=>∃ p n,vs=[.ref p,.int n]/\bW H p/\0 < n/\n < 1073741824/\∀ d a b,0<=d->d < n->Q (.int d) (upd H p (.lst [.int a,.int b]))
theorem KF {f:Addr}{fd:FuncData}(F:gY K "_law_take" "_law_take" eK f fd)(T:iH mg):bR P w K mg base bC 1 f fd lB gZ:=by
 refine F.ok nI (fun vs H Q E h=>?_) (fun cdv A outer s H vs Q E hr h=>?_)
 ·obtain ⟨p,n,rfl,_⟩:=h
  rfl
 ·obtain ⟨p,n,rfl,⟨a,b,hp⟩,h0,h1,k⟩:=h
  refine ⟨_,(aE (bK (a0 xY (bN dD (pv 0) aJ (fun _ _=>rfl)) aJ (nomark _)) (aE (aZ (i:=2) nI.nd rfl (Or.inl rfl) (bO rC (bN dD (pv 0) aJ (fun _ _=>rfl)) (pv 1)))
   (aE (vS (bO wB (bN dD (pv 0) aJ (fun _ _=>rfl)) (pv 1)) (GB (pv 0) aJ xM))
   (aH (aP (pv 2))))) aW)
   (aE (vS (bO rC (bO bV (bO (oZ.or oY) (bN dD (pv 0) aJ (fun _ _=>rfl)) aJ) aJ) aJ) (GB (pv 0) aJ xM))
   (aH (aP (bO rC (bO wB (bN dD (pv 0) aJ (fun _ _=>rfl)) aJ) (pv 1)))))),?_⟩
  simp only [p9]
  clear hr F T
  walk_at "rd"
  split
  ·exact ⟨⟨h0,h1⟩,k _ _ _ (Int.emod_nonneg _ (by omega)) (Int.emod_lt_of_pos _ h0)⟩
  ·exact ⟨.inr (by decide),by decide,⟨by decide,by decide⟩,k _ _ _ (Int.emod_nonneg _ (by omega)) (Int.emod_lt_of_pos _ h0)⟩
noncomputable def zN:Sp:=fun vs H Q _=>∃ (k:Nat) (n:Int),vs=[.int k,.int n]/\k<=6/\Q (.str (wordS k n)) H
theorem KA {f:Addr}{fd:FuncData}(F:gY K "_law_word" "_law_word" eJ f fd)(T:iH mg):bR P w K mg base bC 1 f fd lA zN:=by
 refine F.ok fR (fun vs H Q E h=>?_) (fun cdv A outer s H vs Q E hr h=>?_)
 ·obtain ⟨k,n,rfl,_⟩:=h
  rfl
 ·obtain ⟨k,n,rfl,hk,q⟩:=h
  refine ⟨_,(aE (aZ (i:=2) fR.nd rfl (Or.inl rfl) gH)
   (aE (eY PassesOwn.never rfl (gG rfl T.n_range (aA (pv 0) aB)) (bJ (i:=3) fR.nd rfl (Or.inl rfl)) (aE (aZ (i:=2) fR.nd rfl (Or.inl rfl) (bO bV (pv 2) (bN dD gH (bO rC (pv 1) aJ) (fun _ _=>rfl))))
   (aH (aZ (i:=1) fR.nd rfl (Or.inl rfl) (bO wB (pv 1) aJ)))))
   (aH (aP (pv 2))))),?_⟩
  simp only [p0]
  clear hr F T
  walk_at "rd"
  refine ⟨by omega,by omega,?_⟩
  rw [Int.toNat_natCast]
  refine gI (fun i σ H'=>H'=H/\∃ (m:Int) (l:List Nat) (o:Option V),σ=[some (.int k),some (.int m),some (.str ⟨l.toArray⟩),o]/\l.length=i/\l ++ wordL (k - i) m=wordL k n) ⟨rfl,n,[],none,rfl,rfl,rfl⟩ ?_ ?_
  ·rintro i σ H' hi ⟨rfl,m,l,o,rfl,hl,he⟩
   have hx:=NM (H:=H') (i:=m % 26) (Int.emod_nonneg _ (by decide)) (Int.emod_lt_of_pos _ (by decide))
   have hx':ixV H' (.str (PySem.Str.ofString "abcdefghijklmnopqrstuvwxyz")) (.int (m % 26))=some (.str ⟨#[97 + (m % 26).toNat]⟩):=hx
   walk_at "rd"
   have e1:k - i=(k - (i + 1)) + 1:=by omega
   rw [e1,wordL] at he
   refine ⟨by decide,_,if_pos (Nat.le_trans (m:=100) ?_ (by decide)),⟨by decide,by decide⟩,_,l ++ [97 + (m % 26).toNat],⟨rfl,congrArg V.str ?_⟩,by simp [hl],by rw [List.append_assoc];exact he⟩
   ·show l.toArray.size + 1<=100
    rw [List.size_toArray]
    omega
   ·exact congrArg Str.mk (by simp)
  ·rintro σ H' ⟨rfl,m,l,o,rfl,hl,he⟩
   walk_at "rd"
   rw [Nat.sub_self,wordL,List.append_nil] at he
   rw [he]
   exact q
noncomputable def vJ:Sp:=fun vs H Q _=>∃ (p:Addr) (m:Nat),vs=[.ref p,.int m]/\bW H p/\m<=15/\∀ (l:Addr) (ws:aQ) (H':Hp),H l=none->H' l=some (.lst (ws.map V.str))->dM p H H'->bW H' p->ws.length=m->ws.Nodup->(∀ x ∈ ws,hV x)->Q (.ref l) H'
noncomputable def O1 (p l:Addr)(m:Nat)(H:Hp)(i:Nat)(σ:St)(H1:Hp):Prop:=∃ (ws:aQ) (o1 o2 o3:Option V),σ=[some (.ref p),some (.int m),some (.ref l),o1,o2,o3]/\H1 l=some (.lst (ws.map V.str))/\dM p H H1/\bW H1 p/\ws.length=i/\ws.Nodup/\∀ x ∈ ws,hV x
theorem GT {f:Addr}{fd:FuncData}(F:gY K "_law_names" "_law_names" dY f fd)(T:iH mg)(O__law_take:cH P w K mg base bC 1 "_law_take" gZ)(O__law_word:cH P w K mg base bC 1 "_law_word" zN):bR P w K mg base bC 2 f fd j8 vJ:=by
 refine F.ok eB (fun vs H Q E h=>?_) (fun cdv A outer s H vs Q E hr h=>?_)
 ·obtain ⟨p,m,rfl,_⟩:=h
  rfl
 ·obtain ⟨p,m,rfl,hp,hm,q⟩:=h
  have hu:=hr.units
  refine ⟨_,(aE (aZ (i:=2) eB.nd rfl (Or.inl rfl) (cM aB))
   (aE (eY PassesOwn.never rfl (gG rfl T.n_range (aA (pv 1) aB)) (bJ (i:=3) eB.nd rfl (Or.inl rfl)) (aE (aZ (i:=4) eB.nd rfl (Or.inl rfl) (bO bV aJ (aM O__law_take (hr.mono (by decide)) pass0 rfl (aA (pv 0) (aA aJ aB)))))
   (aE (aZ (i:=5) eB.nd rfl (Or.inl rfl) (aM O__law_take (hr.mono (by decide)) pass0 rfl (aA (pv 0) (aA (bN dD (cM (aA aJ (aA aJ (aA aJ (aA aJ (aA aJ (aA aJ aB))))))) (bO oX (pv 4) aJ) (fun _ _=>rfl)) aB))))
   (aE (nL PassesOwn.never (a0 (M0 hu) (aM O__law_word (hr.mono (by decide)) pass0 rfl (aA (pv 4) (aA (pv 5) aB))) (pv 2) (by with_unfolding_all rfl)) (aH (aZ (i:=5) eB.nd rfl (Or.inl rfl) (bO bV (pv 5) aJ))))
   (aH (cW (iW PySem.F.plainAttrs_list PySem.F.slot_list_append PySem.F.type_list_append eV (pv 2) (aA (aM O__law_word (hr.mono (by decide)) pass0 rfl (aA (pv 4) (aA (pv 5) aB))) aB))))))))
   (aH (aP (pv 2))))),?_⟩
  simp only [oA]
  clear hr F T O__law_take O__law_word hu
  walk_at "rd"
  refine ⟨by decide,fun l hl=>⟨by omega,by omega,?_⟩⟩
  rw [Int.toNat_natCast]
  have npl:p≠l:=by obtain ⟨a,b,e⟩:=hp;exact aD e hl
  refine gI (O1 p l m H)
   ⟨[],none,none,none,rfl,upd_same,dM.new hl,by obtain ⟨a,b,e⟩:=hp;exact ⟨a,b,by rw [aC npl];exact e⟩,rfl,List.nodup_nil,by simp⟩ ?_ ?_
  ·rintro i σ H1 hi ⟨ws,o1,o2,o3,rfl,hl1,hb,hp1,hlen,nd,ok⟩
   clear q
   walk_at "rd"
   refine ⟨p,6,rfl,hp1,by decide,by decide,fun d a b h0 h1=>?_⟩
   obtain ⟨kk,hkk⟩:∃ kk:Nat,(kk:Int)=1 + d:=⟨(1 + d).toNat,by omega⟩
   clear hp1
   walk_at "rd"
   rw [← hkk]
   refine ⟨by decide,fun r hr=>?_⟩
   have npr:p≠r:=aD upd_same hr
   have nlr:l≠r:=aD (by rw [aC npl.symm];exact hl1) hr
   obtain ⟨B,hB,hB0,hB1⟩:∃ B:Int,atI [V.int 26,V.int 676,V.int 17576,V.int 456976,V.int 11881376,V.int 308915776] ((kk:Int) - 1)=some (.int B)/\0 < B/\B < 1073741824:=by
    have:kk=1∨kk=2∨kk=3∨kk=4∨kk=5∨kk=6:=by omega
    rcases this with rfl | rfl | rfl | rfl | rfl | rfl
    ·exact ⟨26,by decide,by decide,by decide⟩
    ·exact ⟨676,by decide,by decide,by decide⟩
    ·exact ⟨17576,by decide,by decide,by decide⟩
    ·exact ⟨456976,by decide,by decide,by decide⟩
    ·exact ⟨11881376,by decide,by decide,by decide⟩
    ·exact ⟨308915776,by decide,by decide,by decide⟩
   refine ⟨_,hB,p,B,rfl,⟨a,b,by rw [aC npr,upd_same]⟩,hB0,hB1,fun n a2 b2 hn0 hn1=>?_⟩
   have hl4:upd (upd (upd H1 p (.lst [.int a,.int b])) r (.lst [.int 26,.int 676,.int 17576,.int 456976,.int 11881376,.int 308915776])) p (.lst [.int a2,.int b2]) l=some (.lst (ws.map V.str)):=by
    rw [aC npl.symm,aC nlr,aC npl.symm];exact hl1
   have hb4:dM p H (upd (upd (upd H1 p (.lst [.int a,.int b])) r (.lst [.int 26,.int 676,.int 17576,.int 456976,.int 11881376,.int 308915776])) p (.lst [.int a2,.int b2])) :=
    hb.trans (((dM.upd p H1 _).trans (dM.new hr)).trans (dM.upd p _ _))
   have hp4:bW (upd (upd (upd H1 p (.lst [.int a,.int b])) r (.lst [.int 26,.int 676,.int 17576,.int 456976,.int 11881376,.int 308915776])) p (.lst [.int a2,.int b2])) p:=⟨a2,b2,upd_same⟩
   generalize upd (upd (upd H1 p (.lst [.int a,.int b])) r (.lst [.int 26,.int 676,.int 17576,.int 456976,.int 11881376,.int 308915776])) p (.lst [.int a2,.int b2])=H4 at hl4 hb4 hp4 ⊢
   clear hr npr nlr hB hB0 hB1 hl1 hb
   refine L9 (fun σ' H'=>H'=H4/\∃ t:Nat,σ'=[some (.ref p),some (.int m),some (.ref l),some (.int (0 + i)),some (.int kk),some (.int (n + t))]/\∀ j:Nat,j < t->wordS kk (n + j) ∈ ws)
    (fun (σ':St) (_:Hp)=>match σ'[5]? with | some (some (V.int x))=>(n + 30 - x).toNat | _=>0) ⟨rfl,0,by simp,by simp⟩ ?_
   rintro σ' H' ⟨rfl,t,rfl,ht⟩
   have ht26:t<=26->t<=ws.length:=fun h=>oG (by omega) h ht
   have hty:=tyL (K:=K) hl4
   refine ⟨decide (wordS kk (n + t) ∈ ws),fun R hR=>?_,fun hb=>?_,fun hb=>?_⟩
   ·have hin:=nU (x:=wordS kk (n + t)) ws
    refine ⟨_,rfl,_,rfl,kk,n + t,rfl,by omega,_,rfl,.inl ⟨.str _,ws.map D.str,rfl,.inl ⟨l,_,rfl,hl4,fK ws⟩,by rw [dep_strs];decide,_,rfl,?_⟩⟩
    show R (inD _ _) _
    rw [hin]
    exact hR
   ·have hmem:wordS kk (n + t) ∈ ws:=of_decide_eq_true hb
    have hall:∀ j:Nat,j < t + 1->wordS kk (n + j) ∈ ws:=fun j hj=>by
     by_cases e:j < t
     ·exact ht j e
     ·have:j=t:=by omega
      subst this;exact hmem
    have few:t < 26->t + 1<=ws.length:=fun h=>oG (by omega) (by omega) hall
    refine ⟨_,rfl,.inl ⟨_,rfl,⟨rfl,t + 1,?_,hall⟩,?_⟩⟩
    ·simp only [List.set_cons_zero,List.set_cons_succ]
     have:n + (t:Int) + 1=n + ((t + 1:Nat):Int):=by omega
     rw [this]
    ·have ht25:t < 26:=by
      by_cases e:t < 26
      ·exact e
      ·have:=oG (t:=16) (n:=n) (by omega:1<=kk) (by omega) fun j hj=>ht j (by omega)
       omega
     have:=few ht25
     show (n + 30 - (n + (t:Int) + 1)).toNat < (n + 30 - (n + (t:Int))).toNat
     omega
   ·have hnm:wordS kk (n + t) ∉ ws:=of_decide_eq_false hb
    refine ⟨_,rfl,hty,_,rfl,_,rfl,kk,n + t,rfl,by omega,l,_,_,rfl,rfl,hl4,Nat.lt_of_le_of_lt (m:=100) (by rw [List.length_map];omega) (by decide),?_⟩
    refine ⟨ws ++ [wordS kk (n + t)],_,_,_,rfl,?_,fun c o hc e=>?_,?_,by simp [hlen],B5 nd hnm,fun x hx=>?_⟩
    ·rw [upd_same,List.map_append];rfl
    ·have nlc:c≠l:=aD e hl
     rw [aC nlc]
     exact hb4 c o hc e
    ·obtain ⟨a3,b3,e3⟩:=hp4
     exact ⟨a3,b3,by rw [aC npl];exact e3⟩
    ·obtain h | h:=List.mem_append.mp hx
     ·exact ok x h
     ·rw [List.mem_singleton.mp h]
      exact E8 (by omega) (by omega)
  ·rintro σ H1 ⟨ws,o1,o2,o3,rfl,hl1,hb,hp1,hlen,nd,ok⟩
   exact ⟨_,rfl,q l ws H1 hl hl1 hb hp1 hlen nd ok⟩
end
section
variable {P:Program}{w:World}{K:PySem.W.Frag}{mg:gA}{base:Heap}
noncomputable def bF (H H':Hp):Prop:=∀ b xs,H b=some (.tup xs)->H' b=some (.tup xs)
theorem bF.refl (H:Hp):bF H H:=fun _ _ h=>h
theorem bF.trans {H H1 H2:Hp}(a:bF H H1)(b:bF H1 H2):bF H H2:=fun c xs h=>b c xs (a c xs h)
theorem bF.of {H H':Hp}(s:aG H H'):bF H H':=fun b xs h=>s b _ h
theorem bF.lst {H:Hp}{a:Addr}{ys:List V}{o:HO}(h:H a=some (.lst ys)):bF H (upd H a o):=fun b xs e=>by rw [aC (fun z=>by rw [z,h] at e;cases e)];exact e
theorem BC {p a:Addr}{H H':Hp}{o:HO}(h:dM p H H')(n:H a=none):dM p H (upd H' a o):=fun c u nc e=>by rw [aC (aD e n)];exact h c u nc e
theorem bF.pot {H:Hp}{p:Addr}{o:HO}(h:bW H p):bF H (upd H p o):=by obtain ⟨x,y,e⟩:=h;exact bF.lst e
noncomputable def dN (H:Hp):cQ->List V->Prop
 | [],vs=>vs=[]
 | r :: l,vs=>∃ t us,vs = .ref t :: us/\H t=some (.tup [.str r.1,.int r.2])/\dN H l us
noncomputable def fH (H:Hp):bY->List V->Prop
 | [],vs=>vs=[]
 | r :: l,vs=>∃ t us,vs = .ref t :: us/\H t=some (.tup [.str r.1,.str r.2])/\fH H l us
theorem dN.same {H H':Hp}(s:bF H H'):∀ {l:cQ} {vs:List V},dN H l vs->dN H' l vs
 | [],_,h=>h
 | _ :: _,_,⟨t,us,e,h,q⟩=>⟨t,us,e,s _ _ h,dN.same s q⟩
theorem fH.same {H H':Hp}(s:bF H H'):∀ {l:bY} {vs:List V},fH H l vs->fH H' l vs
 | [],_,h=>h
 | _ :: _,_,⟨t,us,e,h,q⟩=>⟨t,us,e,s _ _ h,fH.same s q⟩
theorem dN.snoc {H:Hp}{n:Str}{k:Int}{t:Addr}(ht:H t=some (.tup [.str n,.int k])):∀ {l:cQ} {vs:List V},dN H l vs->dN H (l ++ [(n,k)]) (vs ++ [.ref t])
 | [],_,h=>by cases h;exact ⟨t,[],rfl,ht,rfl⟩
 | _ :: _,_,⟨u,us,e,h,q⟩=>by subst e;exact ⟨u,us ++ [.ref t],rfl,h,dN.snoc ht q⟩
theorem fH.snoc {H:Hp}{n k:Str}{t:Addr}(ht:H t=some (.tup [.str n,.str k])):∀ {l:bY} {vs:List V},fH H l vs->fH H (l ++ [(n,k)]) (vs ++ [.ref t])
 | [],_,h=>by cases h;exact ⟨t,[],rfl,ht,rfl⟩
 | _ :: _,_,⟨u,us,e,h,q⟩=>by subst e;exact ⟨u,us ++ [.ref t],rfl,h,fH.snoc ht q⟩
theorem dN.len {H:Hp}:∀ {l:cQ} {vs:List V},dN H l vs->vs.length=l.length
 | [],_,h=>by cases h;rfl
 | _ :: _,_,⟨t,us,e,h,q⟩=>by subst e;simp [dN.len q]
theorem dN.get {H:Hp}:∀ {l:cQ} {vs:List V} {i:Nat} {v:V},dN H l vs->vs[i]?=some v->∃ r t,l[i]?=some r/\v = .ref t/\H t=some (.tup [.str r.1,.int r.2])
 | [],_,_,_,h,e=>by cases h;simp at e
 | r :: _,_,0,_,⟨t,us,e,h,q⟩,k=>by subst e;simp at k;exact ⟨r,t,rfl,k.symm,h⟩
 | _ :: _,_,i + 1,_,⟨t,us,e,h,q⟩,k=>by subst e;simp at k;obtain ⟨r,t,h1,h2,h3⟩:=dN.get q k;exact ⟨r,t,by simpa using h1,h2,h3⟩
noncomputable def zeros (fx:cQ):aQ:=(fx.filter fun r=>decide (r.2=0)).map (·.1)
structure dJ (fx:cQ)(sm:bY):Prop where
 f1:1<=fx.length
 f2:fx.length<=12
 s2:sm.length<=3
 nm:∀ x ∈ fx.map (·.1) ++ sm.map (·.1),hV x
 nd:(fx.map (·.1) ++ sm.map (·.1)).Nodup
 parts:∀ r ∈ fx,0<=r.2/\r.2<=3
 bare:∃ r ∈ fx,r.2=0
 nought:∀ r ∈ sm,r.2≠("" : Str)->r.2 ∈ zeros fx
 once:((sm.map (·.2)).filter fun (x:Str)=>decide (x≠("" : Str))).Nodup
theorem iI (fx:cQ)(r:Str×Int):zeros (fx ++ [r])=zeros fx ++ (if r.2=0 then [r.1] else []):=by
 unfold zeros
 rw [List.filter_append,List.map_append]
 congr 1
 by_cases z:r.2=0 <;> simp [z]
theorem jJ (fx:cQ):(zeros fx).Sublist (fx.map (·.1)):=List.Sublist.map _ List.filter_sublist
theorem aV {α:Type}{xs:List α}{i:Nat}{x:α}(h:xs[i]?=some x):xs.take (i + 1)=xs.take i ++ [x]:=by rw [List.take_succ,h];rfl
theorem rW (xs:List V)(n:Nat):cutV xs (some (n:Int)) none=xs.drop n:=by
 unfold cutV
 rw [HT.sIx_nat,HT.sIx_none,← List.length_drop]
 rcases Nat.le_total n xs.length with h | h
 ·rw [Nat.min_eq_left h,List.take_length]
 ·rw [Nat.min_eq_right h,List.drop_eq_nil_of_le h,List.drop_eq_nil_of_le (Nat.le_refl _)];rfl
theorem tY {α β:Type}(f:α->β):∀ (l:List α) (k:Nat),(l.map f).eraseIdx k=(l.eraseIdx k).map f
 | [],_=>rfl
 | _ :: _,0=>rfl
 | a :: l,k + 1=>by show f a :: (l.map f).eraseIdx k=f a :: (l.eraseIdx k).map f;rw [tY f l k]
theorem tX {α:Type}{l:List α}{k:Nat}{x:α}(h:x ∈ l.eraseIdx k):x ∈ l:=List.eraseIdx_subset h
theorem mC {α:Type}:∀ {l:List α} {k:Nat} {x:α},l.Nodup->l[k]?=some x->x ∉ l.eraseIdx k
 | [],_,_,_,z=>by simp at z
 | a :: l,0,x,n,h=>by simp at h;subst h;exact (List.nodup_cons.mp n).1
 | a :: l,k + 1,x,n,h=>by
  simp at h
  intro m
  obtain e | e:=List.mem_cons.mp m
  ·subst e;exact (List.nodup_cons.mp n).1 (List.mem_of_getElem? h)
  ·exact mC (List.nodup_cons.mp n).2 h e
structure NS (fx:cQ)(ns:aQ)(sm:bY)(lz:aQ):Prop where
 names:sm.map (·.1)=ns
 lzl:lz.length<=(zeros fx).length
 lzn:lz.Nodup
 lz1:∀ x ∈ lz,x ∈ zeros fx
 no:∀ r ∈ sm,r.2≠("" : Str)->r.2 ∈ zeros fx/\r.2 ∉ lz
 once:((sm.map (·.2)).filter fun (x:Str)=>decide (x≠("" : Str))).Nodup
theorem NS.none {fx:cQ}{ns:aQ}{sm:bY}{lz:aQ}(h:NS fx ns sm lz)(n:Str):NS fx (ns ++ [n]) (sm ++ [(n,("" : Str))]) lz:=by
 refine ⟨by rw [List.map_append,h.names];rfl,h.lzl,h.lzn,h.lz1,fun r hr ne=>?_,?_⟩
 ·obtain m | m:=List.mem_append.mp hr
  ·exact h.no r m ne
  ·rw [List.mem_singleton.mp m] at ne;exact absurd rfl ne
 ·rw [List.map_append,List.filter_append]
  have e:(List.filter (fun (x:Str)=>decide (x≠("" : Str))) (List.map (fun r:Str×Str=>r.2) [(n,("" : Str))]))=[]:=by simp
  rw [e,List.append_nil]
  exact h.once
theorem NS.pop {fx:cQ}{ns:aQ}{sm:bY}{lz:aQ}(h:NS fx ns sm lz)(n:Str){k:Nat}{y:Str}(hk:lz[k]?=some y):NS fx (ns ++ [n]) (sm ++ [(n,y)]) (lz.eraseIdx k):=by
 have hy:=List.mem_of_getElem? hk
 refine ⟨by rw [List.map_append,h.names];rfl,Nat.le_trans (List.eraseIdx_sublist _ _).length_le h.lzl,h.lzn.sublist (List.eraseIdx_sublist _ _),fun x hx=>h.lz1 x (tX hx),fun r hr ne=>?_,?_⟩
 ·obtain m | m:=List.mem_append.mp hr
  ·exact ⟨(h.no r m ne).1,fun z=>(h.no r m ne).2 (tX z)⟩
  ·rw [List.mem_singleton.mp m];exact ⟨h.lz1 y hy,mC h.lzn hk⟩
 ·rw [List.map_append,List.filter_append]
  refine List.nodup_append.mpr ⟨h.once,?_,?_⟩
  ·by_cases z:y=("" : Str) <;> simp [z]
  ·intro a ha b hb e
   subst e
   obtain ⟨m1,m2⟩:=List.mem_filter.mp ha
   obtain ⟨r,hr,er⟩:=List.mem_map.mp m1
   have ny:a=y:=by
    obtain ⟨m3,_⟩:=List.mem_filter.mp hb
    simpa using m3
   have ne:r.2≠("" : Str):=by rw [er];simpa using m2
   exact (h.no r hr ne).2 (by rw [er,ny];exact hy)
structure OQ (p fl lf tl sl:Addr)(H:Hp):Prop where
 fp:fl≠p
 lp:lf≠p
 tp:tl≠p
 sp:sl≠p
 lf1:lf≠fl
 ls:lf≠sl
 lt:lf≠tl
 tf:tl≠fl
 ts:tl≠sl
 nl:H lf=none
 nt:H tl=none
structure HS (p fl lf tl sl:Addr)(H:Hp)(fx:cQ)(acc zl:List V)(lv:List V)(sm:bY)(sv:List V)(H':Hp):Prop where
 b:dM p H H'
 pot:bW H' p
 f:H' fl=some (.lst acc)
 r:dN H' fx acc
 l:H' lf=some (.lst lv)
 t:H' tl=some (.lst sv)
 s:fH H' sm sv
 z:H' sl=some (.lst zl)
section
variable {p fl lf tl sl:Addr}{H H':Hp}{fx:cQ}{acc zl lv sv:List V}{sm:bY}
theorem HS.new (h:HS p fl lf tl sl H fx acc zl lv sm sv H'){q:Addr}{o:HO}(hq:H' q=none):HS p fl lf tl sl H fx acc zl lv sm sv (upd H' q o) :=
 ⟨h.b.trans (dM.new hq),h.pot.but (h.pot.ne hq),by rw [aC (aD h.f hq)];exact h.f,h.r.same (bF.of (aG.upd hq)),by rw [aC (aD h.l hq)];exact h.l,by rw [aC (aD h.t hq)];exact h.t,h.s.same (bF.of (aG.upd hq)),by rw [aC (aD h.z hq)];exact h.z⟩
theorem HS.take (h:HS p fl lf tl sl H fx acc zl lv sm sv H')(d:OQ p fl lf tl sl H)(x y:Int):HS p fl lf tl sl H fx acc zl lv sm sv (upd H' p (.lst [.int x,.int y])) :=
 ⟨h.b.trans (dM.upd _ _ _),⟨_,_,upd_same⟩,by rw [aC d.fp];exact h.f,h.r.same (bF.pot h.pot),by rw [aC d.lp];exact h.l,by rw [aC d.tp];exact h.t,h.s.same (bF.pot h.pot),by rw [aC d.sp];exact h.z⟩
theorem HS.left (h:HS p fl lf tl sl H fx acc zl lv sm sv H')(d:OQ p fl lf tl sl H)(lv':List V):HS p fl lf tl sl H fx acc zl lv' sm sv (upd H' lf (.lst lv')) :=
 ⟨BC h.b d.nl,h.pot.but d.lp.symm,by rw [aC d.lf1.symm];exact h.f,h.r.same (bF.lst h.l),upd_same,by rw [aC d.lt.symm];exact h.t,h.s.same (bF.lst h.l),by rw [aC d.ls.symm];exact h.z⟩
theorem HS.told (h:HS p fl lf tl sl H fx acc zl lv sm sv H')(d:OQ p fl lf tl sl H){sm':bY}{sv':List V}(hs:fH H' sm' sv'):HS p fl lf tl sl H fx acc zl lv sm' sv' (upd H' tl (.lst sv')) :=
 ⟨BC h.b d.nt,h.pot.but d.tp.symm,by rw [aC d.tf.symm];exact h.f,h.r.same (bF.lst h.t),by rw [aC d.lt];exact h.l,upd_same,hs.same (bF.lst h.t),by rw [aC d.ts.symm];exact h.z⟩
end
noncomputable def LI (fx:cQ)(H0:Hp)(i:Nat)(acc:List V)(σ:St)(H1:Hp):Prop:=∃ o1 o2:Option V,σ=[o1,o2]/\H1=H0/\acc=(zeros (fx.take i)).map V.str
noncomputable def SI (p fl lf tl sl l:Addr)(many sums sure:Nat)(ws:aQ)(fx:cQ)(acc zl:List V)(H:Hp)(i:Nat)(σ:St)(H':Hp):Prop :=
 ∃ (o8 o9:Option V) (sm:bY) (lz:aQ) (sv:List V),σ=[some (.ref p),some (.int many),some (.int sums),some (.ref l),some (.int sure),some (.ref fl),some (.ref lf),some (.ref tl),o8,o9]/\HS p fl lf tl sl H fx acc zl (lz.map V.str) sm sv H'/\NS fx ((ws.drop many).take i) sm lz/\sv.length=i
theorem xR (H:Hp):∀ lz:aQ,Reps H (lz.map D.str) (lz.map V.str)
 | []=>rfl
 | _ :: l=>⟨_,_,rfl,rfl,xR H l⟩
theorem uL:∀ lz:aQ,depDs (lz.map D.str)=0
 | []=>rfl
 | _ :: l=>by rw [List.map_cons,depDs,uL l];rfl
theorem oN {p fl lf tl sl:Addr}{H H':Hp}{fx:cQ}{acc zl lv sv:List V}{sm:bY}{K0:PySem.W.Frag}{D:jQ}{σ:St}{n y:Str}(d:OQ p fl lf tl sl H)(e7:σ[7]?=some (some (.ref tl)))(e8:σ[8]?=some (some (.str n)))(e9:σ[9]?=some (some (.str y)))
  (h:HS p fl lf tl sl H fx acc zl lv sm sv H') (hl:sv.length < 20) (hn:∀ t H'',HS p fl lf tl sl H fx acc zl lv (sm ++ [(n,y)]) (sv ++ [.ref t]) H''->D.nx σ H''):tDrop (tBM K0 "list" rAppend (tVar 7) (tCons (tTup (tCons (tVar 8) (tCons (tVar 9) tNil))) tNil)) D σ H':=by
 refine ⟨_,e7,.inl ⟨rfl,_,eA.of h.t⟩,_,e8,_,e9,(by show 2<=sizeLine;decide),fun t ht=>⟨tl,sv,.ref t,rfl,rfl,(h.new ht).t,Nat.lt_of_lt_of_le hl (by decide),?_⟩⟩
 exact hn t _ ((h.new ht).told d ((h.new ht).s.snoc upd_same))
noncomputable def FI (p l:Addr)(ws:aQ)(sure:Nat)(H0:Hp)(i:Nat)(acc:List V)(σ:St)(H1:Hp):Prop :=
 ∃ (fx:cQ) (o:Option V),σ=[o,some (.ref p),some (.ref l),some (.int sure)]/\dM p H0 H1/\bW H1 p/\fx.map (·.1)=ws.take i/\(∀ r ∈ fx,0<=r.2/\r.2<=3)/\(sure < i->∃ r ∈ fx,r.2=0)/\dN H1 fx acc
noncomputable def vF:Sp:=fun vs H Q _=>∃ p:Addr,vs=[.ref p]/\bW H p/\∀ (t a b:Addr) (fx:cQ) (sm:bY) (fv sv:List V) (H':Hp),dM p H H'->bW H' p->H' t=some (.tup [.ref a,.ref b])->H' a=some (.lst fv)->H' b=some (.lst sv)->dN H' fx fv->fH H' sm sv->dJ fx sm->a≠p->b≠p->Q (.ref t) H'
theorem GP {f:Addr}{fd:FuncData}(F:gY K "_law_signs" "_law_signs" cT f fd)(T:iH mg)(O__law_take:cH P w K mg base bC 1 "_law_take" gZ)(O__law_names:cH P w K mg base bC 2 "_law_names" vJ):bR P w K mg base bC 3 f fd j7 vF:=by
 refine F.ok bQ (fun vs H Q E h=>?_) (fun cdv A outer s H vs Q E hr h=>?_)
 ·obtain ⟨p,rfl,_⟩:=h
  rfl
 ·obtain ⟨p,rfl,hp,q⟩:=h
  have hu:=hr.units
  refine ⟨_,(aE (aZ (i:=1) bQ.nd rfl (Or.inl rfl) (bO bV aJ (aM O__law_take (hr.mono (by decide)) pass0 rfl (aA (pv 0) (aA aJ aB)))))
   (aE (aZ (i:=2) bQ.nd rfl (Or.inl rfl) (aM O__law_take (hr.mono (by decide)) pass0 rfl (aA (pv 0) (aA aJ aB))))
   (aE (aZ (i:=3) bQ.nd rfl (Or.inr rfl) (aM O__law_names (hr.mono (by decide)) pass0 rfl (aA (pv 0) (aA (bO bV (pv 1) (pv 2)) aB))))
   (aE (aZ (i:=4) bQ.nd rfl (Or.inr rfl) (aM O__law_take (hr.mono (by decide)) pass0 rfl (aA (pv 0) (aA (pv 1) aB))))
   (aE (iV (i:=5) bQ.nd rfl rfl rfl rfl (bG.by (N:=iD) (names:=(aF cT).names) (N':=["_law_k","_law_pot_here","_law_names_here","_law_sure"]) (src:=[none,some 0,some 3,some 4]) (by decide +kernel) rfl rfl) (gG rfl T.n_range (aA (pv 1) aB)) (fun _ _ _ _=>(bJ (i:=0) (show List.Nodup (["_law_k","_law_pot_here","_law_names_here","_law_sure"]:aQ) by decide +kernel) rfl (Or.inl rfl))) (fun _ _ _ _=>eT) (fun _ _ _ _=>(fW (aA (bN dD (pv 2) (pv 0) (fun _ _=>rfl)) (aA (bO (oZ.or oY) (aM O__law_take (hr.mono (by decide)) pass0 rfl (aA (pv 1) (aA aJ aB))) (bZ pG rfl T.n_int rfl (aA (dH (fG hu) (pv 0) (pv 3) (nomark _)) aB))) aB)))))
   (aE (iV (i:=6) bQ.nd rfl rfl rfl rfl (bG.by (N:=iD) (names:=(aF cT).names) (N':=["_law_name","_law_parts"]) (src:=[none,none]) (by decide +kernel) rfl rfl) (cX K rfl (pv 5)) (fun _ _ _ _=>(dR K rfl (i:=0) (j:=1) rfl (show List.Nodup (["_law_name","_law_parts"]:aQ) by decide +kernel) rfl rfl rfl rfl)) (fun _ _ _ _=>(iU (a0 (eF hu) (pv 1) aJ (nomark _)))) (fun _ _ _ _=>(pv 0)))
   (aE (aZ (i:=7) bQ.nd rfl (Or.inl rfl) (cM aB))
   (aE (eY PassesOwn.never rfl (cX K rfl (eN jU (pv 3) (d8 (pv 1)) eU)) (bJ (i:=8) bQ.nd rfl (Or.inl rfl)) (aE (aZ (i:=9) bQ.nd rfl (Or.inl rfl) gH)
   (aE (bK (PW.pt (oV (a0 (fG hu) (pv 6) (cM aB) (nomark _)) (lK (a0 xY (aM O__law_take (hr.mono (by decide)) pass0 rfl (aA (pv 0) (aA aJ aB))) aJ (nomark _))))) (aH (aZ (i:=9) bQ.nd rfl (Or.inl rfl) (iW PySem.F.plainAttrs_list PySem.F.slot_list_pop PySem.F.type_list_pop G0 (pv 6) (aA (aM O__law_take (hr.mono (by decide)) pass0 rfl (aA (pv 0) (aA (aK bD rfl T.n_len rfl (aA (pv 6) aB)) aB))) aB)))) aW)
   (aH (cW (iW PySem.F.plainAttrs_list PySem.F.slot_list_append PySem.F.type_list_append eV (pv 7) (aA (fW (aA (pv 8) (aA (pv 9) aB))) aB)))))))
   (aH (aP (fW (aA (pv 5) (aA (pv 7) aB))))))))))))),?_⟩
  simp only [iD]
  clear hr F T O__law_take O__law_names hu
  have hq:=q
  clear q
  walk_at "rd"
  refine ⟨p,12,rfl,hp,by decide,by decide,fun d a b h0 h1=>?_⟩
  walk_at "rd"
  obtain ⟨many,hm1,hm2,hmd⟩:∃ many:Nat,1<=many/\many<=12/\1 + d=(many:Int):=⟨(1 + d).toNat,by omega,by omega,by omega⟩
  rw [hmd]
  clear hmd h0 h1 d
  refine ⟨p,4,rfl,⟨_,_,upd_same⟩,by decide,by decide,fun d2 a b h2 h3=>?_⟩
  obtain ⟨sums,rfl⟩:∃ k:Nat,d2=(k:Int):=⟨d2.toNat,by omega⟩
  have hs4:sums < 4:=by omega
  clear h2 h3
  rw [upd_upd]
  have em:(many:Int) + (sums:Int)=((many + sums:Nat):Int):=by omega
  dsimp only
  refine ⟨_,rfl,?_⟩
  rw [em]
  refine ⟨p,many + sums,rfl,⟨_,_,upd_same⟩,by omega,fun l ws H1 hl hl1 hb1 hp1 hlen nd ok=>?_⟩
  have hlp:l≠p:=fun z=>by rw [z,upd_same] at hl;cases hl
  dsimp only
  refine ⟨p,many,rfl,hp1,by omega,by omega,fun d3 x3 y3 h4 h5=>?_⟩
  obtain ⟨sure,rfl⟩:∃ k:Nat,d3=(k:Int):=⟨d3.toNat,by omega⟩
  have hsm:sure < many:=by omega
  have b2:dM p H (upd H1 p (.lst [.int x3,.int y3])):=((dM.upd p H _).trans hb1).trans (dM.upd p H1 _)
  have p2:bW (upd H1 p (.lst [.int x3,.int y3])) p:=⟨_,_,upd_same⟩
  have l2:upd H1 p (.lst [.int x3,.int y3]) l=some (.lst (ws.map V.str)):=by rw [aC hlp];exact hl1
  generalize upd H1 p (.lst [.int x3,.int y3])=H2 at b2 p2 l2 ⊢
  clear hl hl1 hb1 hp1 h4 h5 em hp
  refine ⟨by omega,by omega,?_⟩
  rw [Int.toNat_natCast]
  refine yZ (FI p l ws sure H2) ⟨[],none,rfl,dM.refl _ _,p2,rfl,by simp,fun z=>absurd z (Nat.not_lt_zero _),rfl⟩ ?_ ?_
  ·rintro i acc σ H3 hi ⟨fx,o,rfl,b3,p3,hfx,hpt,hsu,hrow⟩
   have l3:=b3 l _ hlp l2
   obtain ⟨wd,hwd⟩:∃ wd,ws[i]?=some wd:=⟨ws[i],List.getElem?_eq_getElem (by omega)⟩
   have e1:atI (ws.map V.str) (i:Int)=some (.str wd):=CY (by rw [List.getElem?_map,hwd];rfl)
   refine ⟨_,rfl,_,rfl,_,(by rw [ixV_l l3,Int.zero_add];exact e1),_,rfl,p,4,rfl,p3,by decide,by decide,fun d x4 y4 d0 d1=>?_⟩
   have ek:(if (!eqD (.int (0 + (i:Int))) (.int (sure:Int)))=true then (1:Int) else 0)=if i=sure then 0 else 1:=by
    by_cases z:i=sure
    ·subst z
     rw [Int.zero_add,iM,if_pos rfl];rfl
    ·have e:eqD (.int (0 + (i:Int))) (.int (sure:Int))=false:=by
      show ((0 + (i:Int)) == (sure:Int))=false
      rw [Int.zero_add]
      exact beq_eq_false_iff_ne.mpr (by omega)
     rw [e,if_neg z];rfl
   refine ⟨_,rfl,_,rfl,.int _,.int _,rfl,rfl,Nat.zero_le _,_,_,rfl,rfl,.inl ⟨d,rfl,_,rfl,.inr (by rw [ek];split <;> constructor <;> omega),?_⟩⟩
   rw [ek]
   refine ⟨(by show 2<=sizeLine;decide),fun t ht=>⟨Nat.lt_of_le_of_lt (m:=20) ?_ (by decide),?_⟩⟩
   ·rw [hrow.len]
    have:=congrArg List.length hfx
    rw [List.length_map,List.length_take] at this
    omega
   have p4:bW (upd H3 p (.lst [.int x4,.int y4])) p:=⟨_,_,upd_same⟩
   have hv:0<=d * (if i=sure then 0 else 1)/\d * (if i=sure then 0 else 1)<=3:=by split <;> constructor <;> omega
   have row4:dN (upd (upd H3 p (.lst [.int x4,.int y4])) t (.tup [.str wd,.int (d * (if i=sure then 0 else 1))])) fx acc:=(hrow.same (bF.pot p3)).same (bF.of (aG.upd ht))
   refine ⟨fx ++ [(wd,d * (if i=sure then 0 else 1))],_,rfl,(b3.trans (dM.upd p _ _)).trans (dM.new ht),p4.but (p4.ne ht),?_,fun r hr=>?_,fun hlt=>?_,row4.snoc upd_same⟩
   ·rw [List.map_append,hfx,List.take_succ,hwd];rfl
   ·obtain h | h:=List.mem_append.mp hr
    ·exact hpt r h
    ·rw [List.mem_singleton.mp h];exact hv
   ·by_cases z:i=sure
    ·exact ⟨_,List.mem_append_right _ List.mem_cons_self,by show d * (if i=sure then 0 else 1)=0;rw [if_pos z];omega⟩
    ·obtain ⟨r,h1,h2⟩:=hsu (by omega)
     exact ⟨r,List.mem_append_left _ h1,h2⟩
  ·rintro acc σ H3 ⟨fx,o,rfl,b3,p3,hfx,hpt,hsu,hrow⟩ fl hfl
   have l3:=b3 l _ hlp l2
   have f4:upd H3 fl (.lst acc) fl=some (.lst acc):=upd_same
   have b4:dM p H (upd H3 fl (.lst acc)):=(b2.trans b3).trans (dM.new hfl)
   have p4:=p3.but (o:=.lst acc) (p3.ne hfl)
   have l4:upd H3 fl (.lst acc) l=some (.lst (ws.map V.str)):=by rw [aC (aD l3 hfl)];exact l3
   have row4:dN (upd H3 fl (.lst acc)) fx acc:=hrow.same (bF.of (aG.upd hfl))
   have nfp:fl≠p:=(p3.ne hfl).symm
   generalize upd H3 fl (.lst acc)=H4 at f4 b4 p4 l4 row4 ⊢
   obtain ⟨r0,hr0,hz0⟩:=hsu hsm
   clear hrow hfl l3 p3 b3 b2 p2 l2 hsu
   refine ⟨fl,rfl,_,.inl f4,fun J hJ=>?_⟩
   have hfn:(fx.map (·.1)).Nodup:=by rw [hfx];exact nd.sublist (List.take_sublist _ _)
   have hzl:(zeros fx).length<=12:=by
    have h1:=(jJ fx).length_le
    rw [hfx,List.length_take] at h1
    omega
   refine dC hJ (LI fx H4) ⟨none,none,rfl,rfl,rfl⟩ (by rintro i acc' σ H' _ ⟨_,_,_,rfl,_⟩;rfl) ?_ ?_
   ·rintro i x acc' σ H' hx ⟨o1,o2,rfl,rfl,rfl⟩
    obtain ⟨r,t,hr,rfl,ht⟩:=row4.get hx
    refine ⟨t,_,rfl,h8.of ht,rfl,_,_,rfl,_,_,rfl,rfl,_,rfl,?_⟩
    dsimp only [tC]
    rw [rEqD_ii]
    refine ⟨_,rfl,?_⟩
    by_cases z:r.2=0
    ·rw [if_pos (by simpa using z)]
     refine ⟨_,rfl,?_,?_⟩
     ·rw [List.length_map]
      have h1:=(jJ (fx.take i)).length_le
      have h2:(fx.take i).length<=12:=by
       have h3:=congrArg List.length hfx
       rw [List.length_map,List.length_take] at h3
       rw [List.length_take];omega
      rw [List.length_map] at h1
      exact Nat.lt_of_le_of_lt (m:=12) (by omega) (by decide)
     ·exact ⟨_,_,rfl,rfl,by rw [aV hr,iI,if_pos z,List.map_append];rfl⟩
    ·rw [if_neg (by simpa using z)]
     exact ⟨_,_,rfl,rfl,by rw [aV hr,iI,if_neg z,List.append_nil]⟩
   ·rintro acc' σ H' ⟨o1,o2,rfl,rfl,rfl⟩ lf hlf
    rw [List.take_of_length_le (by rw [row4.len];exact Nat.le_refl _)]
    refine ⟨Nat.zero_le _,fun tl htl=>⟨l,rfl,ws.map V.str,.inl ?_,?_,fun sl o hsl ho=>?_⟩⟩
    ·rw [aC,aC (aD l4 hlf)]
     ·exact l4
     ·intro e;subst e;rw [aC (aD l4 hlf),l4] at htl;cases htl
    ·rintro ⟨ys,hy⟩
     rw [aC,aC (aD l4 hlf),l4] at hy
     ·cases hy
     ·intro e;subst e;rw [aC (aD l4 hlf),l4] at htl;cases htl
    ·have l5:upd H' lf (HO.lst (List.map V.str (zeros fx))) l=some (.lst (ws.map V.str)):=by rw [aC (aD l4 hlf)];exact l4
     have l6:upd (upd H' lf (HO.lst (List.map V.str (zeros fx)))) tl (.lst []) l=some (.lst (ws.map V.str)):=by rw [aC (aD l5 htl)];exact l5
     have eo:o = .lst ((ws.drop many).map V.str):=by
      rcases ho with ⟨e,_⟩ | ⟨_,e⟩
      ·rw [e,rW,List.map_drop]
      ·rw [l6] at e;cases e
     subst eo
     clear ho
     have htf:tl≠lf:=fun e=>by subst e;rw [upd_same] at htl;cases htl
     have htl':H' tl=none:=by rw [aC htf] at htl;exact htl
     have hst:sl≠tl:=fun e=>by subst e;rw [upd_same] at hsl;cases hsl
     have hsf:sl≠lf:=fun e=>by subst e;rw [aC hst,upd_same] at hsl;cases hsl
     have hsl':H' sl=none:=by rw [aC hst,aC hsf] at hsl;exact hsl
     have nn:∀ a,H' a=none->H a=none:=fun a ha=>by
      cases e:H a with
      | none=>rfl
      | some o=>have z:=b4 a o (p4.ne ha).symm e;rw [ha] at z;cases z
     have dst:OQ p fl lf tl sl H:=⟨nfp,(p4.ne hlf).symm,(p4.ne htl').symm,(p4.ne hsl').symm,(aD f4 hlf).symm,hsf.symm,htf.symm,(aD f4 htl').symm,hst.symm,nn _ hlf,nn _ htl'⟩
     have h0:HS p fl lf tl sl H fx acc ((ws.drop many).map V.str) ((zeros fx).map V.str) [] [] (upd (upd (upd H' lf (.lst ((zeros fx).map V.str))) tl (.lst [])) sl (.lst ((ws.drop many).map V.str))):=by
      have s1:aG H' (upd (upd (upd H' lf (.lst ((zeros fx).map V.str))) tl (.lst [])) sl (.lst ((ws.drop many).map V.str))):=((aG.upd hlf).trans (aG.upd htl)).trans (aG.upd hsl)
      obtain ⟨px,py,pe⟩:=p4
      exact ⟨b4.trans s1.but,⟨px,py,s1 _ _ pe⟩,s1 _ _ f4,row4.same (bF.of s1),by rw [aC hsf.symm,aC htf.symm,upd_same],by rw [aC hst.symm,upd_same],rfl,upd_same⟩
     have n0:NS fx [] [] (zeros fx):=⟨rfl,Nat.le_refl _,hfn.sublist (jJ fx),fun _ h=>h,by simp,by simp⟩
     generalize upd (upd (upd H' lf (.lst ((zeros fx).map V.str))) tl (.lst [])) sl (.lst ((ws.drop many).map V.str))=H7 at h0 ⊢
     refine ⟨_,.inl h0.z,fun J2 hJ2=>?_⟩
     refine iY hJ2 (SI p fl lf tl sl l many sums sure ws fx acc ((ws.drop many).map V.str) H) ⟨none,none,[],zeros fx,[],rfl,h0,n0,rfl⟩ (by rintro i σ H'' _ ⟨_,_,_,_,_,_,hh,_⟩;rw [hh.z,h0.z]) ?_ ?_
     ·rintro i x σ H8 hx ⟨o8,o9,sm,lz,sv,rfl,hh,ns,hsv⟩
      obtain ⟨n,hn,rfl⟩:∃ n,(ws.drop many)[i]?=some n/\x = .str n:=by
       rw [List.getElem?_map] at hx
       cases e:(ws.drop many)[i]? with
       | none=>rw [e] at hx;cases hx
       | some n=>rw [e] at hx;exact ⟨n,rfl,by cases hx;rfl⟩
      have hi:i < 4:=by
       have:=(List.getElem?_eq_some_iff.mp hn).1
       rw [List.length_drop] at this
       omega
      refine ⟨_,rfl,Nat.zero_le _,fun q hq2=>⟨.lst (lz.map D.str),.lst [],⟨lf,_,rfl,(hh.new hq2).l,xR _ _⟩,⟨q,[],rfl,upd_same,rfl⟩,by rw [depD,uL];decide,_,rfl,?_⟩⟩
      have h9:=hh.new (o:=.lst []) hq2
      generalize upd H8 q (.lst [])=H9 at h9 ⊢
      cases lz with
      | nil =>
       dsimp only
       rw [if_neg (by decide),if_neg (by decide)]
       refine oN dst rfl rfl rfl h9 (by omega) fun t H'' h''=>?_
       exact ⟨_,_,_,_,_,rfl,h'',by rw [aV hn];exact ns.none n,by rw [List.length_append,hsv];rfl⟩
      | cons z lz =>
       dsimp only
       rw [if_pos (by rfl)]
       refine ⟨_,rfl,p,3,rfl,h9.pot,by decide,by decide,fun d1 x1 y1 d0 d1'=>⟨_,_,rfl,rfl,_,rfl,?_⟩⟩
       have h10:=h9.take dst x1 y1
       generalize upd H9 p (.lst [.int x1,.int y1])=H10 at h10 ⊢
       dsimp only
       by_cases hd:0 < d1
       ·rw [if_pos (by simpa using hd)]
        have hlz:(z :: lz).length<=12:=by
         have h1:=ns.lzl
         omega
        refine ⟨_,rfl,.inl ⟨rfl,_,eA.of h10.l⟩,_,rfl,_,rfl,_,_,rfl,(by dsimp only;rw [lenV_l h10.l];rfl),p,_,rfl,h10.pot,?_,?_,fun d2 x2 y2 e0 e1=>?_⟩
        ·rw [List.length_map,List.length_cons];omega
        ·rw [List.length_map];omega
        ·have h11:=h10.take dst x2 y2
         generalize upd H10 p (.lst [.int x2,.int y2])=H11 at h11 ⊢
         rw [List.length_map] at e1
         obtain ⟨y,hy⟩:∃ y,(z :: lz)[d2.toNat]?=some y:=⟨_,List.getElem?_eq_getElem (by omega)⟩
         refine ⟨lf,_,d2,d2.toNat,.str y,rfl,rfl,h11.l,by omega,by omega,PySem.StrLaws.seqIndex_nonneg e0 (by rw [List.length_map];exact e1),by rw [List.getElem?_map,hy];rfl,?_⟩
         have h12:=h11.left dst (((z :: lz).eraseIdx d2.toNat).map V.str)
         rw [tY]
         refine oN dst rfl rfl rfl h12 (by omega) fun t H'' h''=>?_
         exact ⟨_,_,_,_,_,rfl,h'',by rw [aV hn];exact ns.pop n hy,by rw [List.length_append,hsv];rfl⟩
       ·rw [if_neg (by simpa using hd)]
        refine oN dst rfl rfl rfl h10 (by omega) fun t H'' h''=>?_
        exact ⟨_,_,_,_,_,rfl,h'',by rw [aV hn];exact ns.none n,by rw [List.length_append,hsv];rfl⟩
     ·rintro σ H8 ⟨o8,o9,sm,lz,sv,rfl,hh,ns,hsv⟩
      refine ⟨_,rfl,_,rfl,(by show 2<=sizeLine;decide),fun t ht=>?_⟩
      have h9:=hh.new (o:=.tup [.ref fl,.ref tl]) ht
      refine hq t fl tl fx sm acc sv _ h9.b h9.pot upd_same h9.f h9.t h9.r h9.s ?_ dst.fp dst.tp
      have e1:=ns.names
      rw [List.length_map,List.take_length] at e1
      have e2:=congrArg List.length e1
      have e3:=congrArg List.length hfx
      rw [List.length_map,List.length_drop] at e2
      rw [List.length_map,List.length_take] at e3
      have e4:fx.map (·.1) ++ sm.map (·.1)=ws:=by rw [hfx,e1,List.take_append_drop]
      exact ⟨by omega,by omega,by omega,by rw [e4];exact ok,by rw [e4];exact nd,hpt,⟨r0,hr0,hz0⟩,fun r hr ne=>(ns.no r hr ne).1,ns.once⟩
end
section
variable {P:Program}{w:World}{K:PySem.W.Frag}{mg:gA}{base:Heap}
noncomputable def isWd (c:Nat):Prop:=(97<=c/\c<=122)∨(48<=c/\c<=57)
noncomputable def eQ (x:Str):Prop:=∃ l:List Nat,x=⟨(63 :: l).toArray⟩/\1<=l.length/\l.length<=8/\∀ c ∈ l,isWd c
noncomputable def wds:Str:=PySem.Str.ofString "abcdefghijklmnopqrstuvwxyz0123456789"
theorem BO:wds.cps.toList.length=36:=by decide +kernel
theorem IW:wds.cps.toList.all (fun c=>(decide (97<=c) && decide (c<=122)) || (decide (48<=c) && decide (c<=57)))=true:=by decide +kernel
theorem MA {c:Nat}(h:c ∈ wds.cps.toList):isWd c:=by
 have:=List.all_eq_true.mp IW c h
 simpa [isWd] using this
theorem NJ {H:Hp}{i:Int}(h0:0<=i)(h1:i < 36):∃ c,isWd c/\ixV H (.str wds) (.int i)=some (.str ⟨#[c]⟩):=by
 have hl:i.toNat < wds.cps.toList.length:=by rw [BO];omega
 refine ⟨wds.cps.toList[i.toNat],MA (List.getElem_mem hl),?_⟩
 show (if wds.length<=sizeLine then (atI wds.cps.toList i).map fun c=>V.str ⟨#[c]⟩ else none)=_
 rw [if_pos (by decide +kernel),kU h0 (by rw [BO];exact h1),List.getElem?_eq_getElem hl]
 rfl
noncomputable def vL:Sp:=fun vs H Q _=>∃ p:Addr,vs=[.ref p]/\bW H p/\∀ (o:Addr) (os:aQ) (H':Hp),o≠p->dM p H H'->bW H' p->H' o=some (.lst (os.map V.str))->os.length=5->(∀ x ∈ os,eQ x)->Q (.ref o) H'
noncomputable def DI (p l:Addr)(H:Hp)(i:Nat)(σ:St)(H1:Hp):Prop:=∃ (os:aQ) (o2 o3 o4:Option V),σ=[some (.ref p),some (.ref l),o2,o3,o4]/\H1 l=some (.lst (os.map V.str))/\dM p H H1/\bW H1 p/\os.length=i/\∀ x ∈ os,eQ x
noncomputable def DJ (p l:Addr)(os:aQ)(i:Int)(H:Hp)(j:Nat)(σ:St)(H1:Hp):Prop:=∃ (cs:List Nat) (o4:Option V),σ=[some (.ref p),some (.ref l),some (.int i),some (.str ⟨(63 :: cs).toArray⟩),o4]/\H1 l=some (.lst (os.map V.str))/\dM p H H1/\bW H1 p/\cs.length=j/\∀ c ∈ cs,isWd c
theorem GW {f:Addr}{fd:FuncData}(F:gY K "_law_drawn" "_law_drawn" dZ f fd)(T:iH mg)(O__law_take:cH P w K mg base bC 1 "_law_take" gZ):bR P w K mg base bC 2 f fd kA vL:=by
 refine F.ok eC (fun vs H Q E h=>?_) (fun cdv A outer s H vs Q E hr h=>?_)
 ·obtain ⟨p,rfl,_⟩:=h
  rfl
 ·obtain ⟨p,rfl,hp,q⟩:=h
  have hu:=hr.units
  refine ⟨_,(aE (aZ (i:=1) eC.nd rfl (Or.inl rfl) (cM aB))
   (aE (eY PassesOwn.never rfl (gG rfl T.n_range (aA aJ aB)) (bJ (i:=2) eC.nd rfl (Or.inl rfl)) (aE (aZ (i:=3) eC.nd rfl (Or.inl rfl) gH)
   (aE (eY PassesOwn.never rfl (gG rfl T.n_range (aA (bO bV aJ (aM O__law_take (hr.mono (by decide)) pass0 rfl (aA (pv 0) (aA (bN dD (cM (aA aJ (aA aJ (aA aJ aB)))) (aM O__law_take (hr.mono (by decide)) pass0 rfl (aA (pv 0) (aA aJ aB))) (fun _ _=>rfl)) aB)))) aB)) (bJ (i:=4) eC.nd rfl (Or.inl rfl)) (aH (aZ (i:=3) eC.nd rfl (Or.inl rfl) (bO bV (pv 3) (bN dD gH (aM O__law_take (hr.mono (by decide)) pass0 rfl (aA (pv 0) (aA aJ aB))) (fun _ _=>rfl))))))
   (aH (cW (iW PySem.F.plainAttrs_list PySem.F.slot_list_append PySem.F.type_list_append eV (pv 1) (aA (pv 3) aB)))))))
   (aH (aP (pv 1))))),?_⟩
  simp only [oB]
  clear hr F T O__law_take hu
  walk_at "rd"
  refine ⟨by decide,fun l hl=>⟨by decide,by decide,?_⟩⟩
  have npl:p≠l:=hp.ne hl
  refine gI (DI p l H) ⟨[],none,none,none,rfl,upd_same,dM.new hl,hp.but npl,rfl,by simp⟩ ?_ ?_
  ·rintro i σ H1 hi ⟨os,o2,o3,o4,rfl,hl1,hb,hp1,hlen,ok⟩
   clear q hp
   have keep:=aI hl (aI hl1 (aI hb (aI hp1 (aI hlen ok))))
   clear hl hl1 hb hp1 hlen ok
   walk_at "rd"
   obtain ⟨hl,hl1,hb,hp1,hlen,ok⟩:=keep
   refine ⟨by decide,fun r hr=>⟨p,3,rfl,hp1.but (hp1.ne hr),by decide,by decide,fun d a b h0 h1=>?_⟩⟩
   have npr:p≠r:=hp1.ne hr
   have nlr:l≠r:=aD hl1 hr
   obtain ⟨B,hB,hB0,hB1⟩:∃ B:Int,atI [V.int 1,V.int 2,V.int 8] d=some (.int B)/\0 < B/\B<=8:=by
    have:d=0∨d=1∨d=2:=by omega
    rcases this with rfl | rfl | rfl
    ·exact ⟨1,by decide,by decide,by decide⟩
    ·exact ⟨2,by decide,by decide,by decide⟩
    ·exact ⟨8,by decide,by decide,by decide⟩
   dsimp only
   refine ⟨.int B,by rw [ixV_l (xs:=[.int 1,.int 2,.int 8]) (by rw [aC npr.symm,upd_same])];exact hB,p,B,rfl,⟨a,b,upd_same⟩,hB0,by omega,fun n a2 b2 n0 n1=>⟨.int (1 + n),rfl,1 + n,rfl,by omega,by omega,?_⟩⟩
   have hb2:dM p H (upd (upd (upd H1 r (.lst [.int 1,.int 2,.int 8])) p (.lst [.int a,.int b])) p (.lst [.int a2,.int b2])):=((hb.trans (dM.new hr)).trans (dM.upd _ _ _)).trans (dM.upd _ _ _)
   have hp2:bW (upd (upd (upd H1 r (.lst [.int 1,.int 2,.int 8])) p (.lst [.int a,.int b])) p (.lst [.int a2,.int b2])) p:=⟨_,_,upd_same⟩
   have hl2:upd (upd (upd H1 r (.lst [.int 1,.int 2,.int 8])) p (.lst [.int a,.int b])) p (.lst [.int a2,.int b2]) l=some (.lst (os.map V.str)):=by rw [aC npl.symm,aC npl.symm,aC nlr];exact hl1
   generalize upd (upd (upd H1 r (.lst [.int 1,.int 2,.int 8])) p (.lst [.int a,.int b])) p (.lst [.int a2,.int b2])=H2 at hb2 hp2 hl2 ⊢
   refine gI (DJ p l os i H) ⟨[],o4,rfl,hl2,hb2,hp2,rfl,by simp⟩ ?_ ?_
   ·rintro j σ H3 hj ⟨cs,o4',rfl,hl3,hb3,hp3,hcs,hcw⟩
    refine ⟨_,rfl,_,rfl,p,36,rfl,hp3,by decide,by decide,fun d3 a3 b3 e0 e1=>?_⟩
    obtain ⟨c,hc,hx⟩:=NJ (H:=upd H3 p (.lst [.int a3,.int b3])) e0 e1
    refine ⟨_,hx,?_⟩
    refine .inl ⟨.str ⟨(63 :: (cs ++ [c])).toArray⟩,?_,?_⟩
    ·show (if (63 :: cs).toArray.size + 1<=sizeLine then some (V.str _) else none)=_
     rw [if_pos (Nat.le_trans (m:=100) (by simp;omega) (by decide))]
     exact congrArg some (congrArg V.str (congrArg Str.mk (by simp)))
    ·exact ⟨cs ++ [c],_,rfl,by rw [aC npl.symm];exact hl3,hb3.trans (dM.upd _ _ _),⟨_,_,upd_same⟩,by rw [List.length_append,hcs];rfl,fun x hx=>(List.mem_append.mp hx).elim (hcw x) fun h=>by rw [List.mem_singleton.mp h];exact hc⟩
   ·rintro σ H3 ⟨cs,o4',rfl,hl3,hb3,hp3,hcs,hcw⟩
    refine ⟨_,rfl,tyL hl3,_,rfl,l,_,_,rfl,rfl,hl3,Nat.lt_of_le_of_lt (m:=10) (by rw [List.length_map];omega) (by decide),?_⟩
    refine ⟨os ++ [⟨(63 :: cs).toArray⟩],_,_,_,rfl,by rw [upd_same,List.map_append];rfl,?_,hp3.but npl,by rw [List.length_append,hlen];rfl,fun x hx=>(List.mem_append.mp hx).elim (ok x) fun h=>by rw [List.mem_singleton.mp h];exact ⟨cs,rfl,by omega,by omega,hcw⟩⟩
    intro c u hc e
    rw [aC (fun z=>?_)]
    ·exact hb3 c u hc e
    ·subst z;rw [hl] at e;cases e
  ·rintro σ H1 ⟨os,o2,o3,o4,rfl,hl1,hb,hp1,hlen,ok⟩
   exact ⟨_,rfl,q l os H1 npl.symm hb hp1 hl1 hlen ok⟩
end
section
variable {P:Program}{w:World}{K:PySem.W.Frag}{mg:gA}{base:Heap}
noncomputable def E2 (p t:Addr)(fx:cQ)(sm:bY)(H:Hp):Prop:=∃ (a b:Addr) (fv sv:List V),H t=some (.tup [.ref a,.ref b])/\H a=some (.lst fv)/\H b=some (.lst sv)/\dN H fx fv/\fH H sm sv/\a≠p/\b≠p
theorem bF.ofBut {p:Addr}{H H':Hp}(h:dM p H H')(hp:bW H p):bF H H':=fun b xs e=>h b _ (fun z=>by obtain ⟨x,y,q⟩:=hp;rw [z,q] at e;cases e) e
theorem E2.but {p t:Addr}{fx:cQ}{sm:bY}{H H':Hp}(h:E2 p t fx sm H)(hb:dM p H H')(hp:bW H p):E2 p t fx sm H':=by
 obtain ⟨a,b,fv,sv,h1,h2,h3,h4,h5,h6,h7⟩:=h
 exact ⟨a,b,fv,sv,bF.ofBut hb hp _ _ h1,hb _ _ h6 h2,hb _ _ h7 h3,h4.same (bF.ofBut hb hp),h5.same (bF.ofBut hb hp),h6,h7⟩
noncomputable def IL (p o:Addr)(os:aQ)(H:Hp):Prop:=H o=some (.lst (os.map V.str))/\o≠p
theorem IL.but {p o:Addr}{os:aQ}{H H':Hp}(h:IL p o os H)(hb:dM p H H'):IL p o os H':=⟨hb _ _ h.2 h.1,h.2⟩
noncomputable def oR:Sp:=fun vs H Q _=>∃ (p t o:Addr) (fx:cQ) (sm:bY) (os:aQ),vs=[.ref p,.ref t,.ref o]/\bW H p/\E2 p t fx sm H/\IL p o os H/\1<=os.length/\os.length<=10/\fx.length<=12/\(∃ r ∈ fx,r.2=0) /\
 ∀ (x:Str) (H':Hp),dM p H H'->bW H' p->(x ∈ os∨x ∈ zeros fx)->Q (.str x) H'
theorem zH {K0:PySem.W.Frag}{J:It}{a:Addr}{fx:cQ}{fv:List V}{H4:Hp}{Qk:VK}(hJ:IO K0 a fv J H4)(row4:dN H4 fx fv)(h12:fx.length<=12)(hd:∀ lf,H4 lf=none->Qk (.ref lf) (upd H4 lf (.lst ((zeros fx).map V.str)))) :
  oF J (gTup K0 2 (gCons (gName 0) (gCons (gName 1) gNil))) (tTest (tOp rEqD (tVar 1) (tC (.int 0)))) (tVar 0) Qk [none,none] H4:=by
 refine dC hJ (LI fx H4) ⟨none,none,rfl,rfl,rfl⟩ (by rintro i acc' σ H' _ ⟨_,_,_,rfl,_⟩;rfl) ?_ ?_
 ·rintro i x acc' σ H' hx ⟨o1,o2,rfl,rfl,rfl⟩
  obtain ⟨r,t,hr,rfl,ht⟩:=row4.get hx
  refine ⟨t,_,rfl,h8.of ht,rfl,_,_,rfl,_,_,rfl,rfl,_,rfl,?_⟩
  dsimp only [tC]
  rw [rEqD_ii]
  refine ⟨_,rfl,?_⟩
  by_cases z:r.2=0
  ·rw [if_pos (by simpa using z)]
   refine ⟨_,rfl,?_,?_⟩
   ·rw [List.length_map]
    have h1:=(jJ (fx.take i)).length_le
    rw [List.length_map,List.length_take] at h1
    exact Nat.lt_of_le_of_lt (m:=12) (by omega) (by decide)
   ·exact ⟨_,_,rfl,rfl,by rw [aV hr,iI,if_pos z,List.map_append];rfl⟩
  ·rw [if_neg (by simpa using z)]
   exact ⟨_,_,rfl,rfl,by rw [aV hr,iI,if_neg z,List.append_nil]⟩
 ·rintro acc' σ H' ⟨o1,o2,rfl,rfl,rfl⟩ lf hlf
  rw [List.take_of_length_le (by rw [row4.len];exact Nat.le_refl _)]
  exact hd lf hlf
theorem KK {f:Addr}{fd:FuncData}(F:gY K "_law_leaf" "_law_leaf" dU f fd)(T:iH mg)(O__law_take:cH P w K mg base bC 1 "_law_take" gZ):bR P w K mg base bC 2 f fd lD oR:=by
 refine F.ok jV (fun vs H Q E h=>?_) (fun cdv A outer s H vs Q E hr h=>?_)
 ·obtain ⟨p,t,o,fx,sm,os,rfl,_⟩:=h
  rfl
 ·obtain ⟨p,t,o,fx,sm,os,rfl,hp,ht,ho,h1,h2,h3,hz,q⟩:=h
  have hu:=hr.units
  refine ⟨_,(aE (iV (i:=3) jV.nd rfl rfl rfl rfl (bG.by (N:=lG) (names:=(aF dU).names) (N':=["_law_name","_law_parts"]) (src:=[none,none]) (by decide +kernel) rfl rfl) (cX K rfl (bN dD (pv 1) aJ (fun _ _=>rfl))) (fun _ _ _ _=>(dR K rfl (i:=0) (j:=1) rfl (show List.Nodup (["_law_name","_law_parts"]:aQ) by decide +kernel) rfl rfl rfl rfl)) (fun _ _ _ _=>(iU (a0 (eF hu) (pv 1) aJ (nomark _)))) (fun _ _ _ _=>(pv 0)))
   (aE (aZ (i:=4) jV.nd rfl (Or.inl rfl) (bN dD (cM (aA (pv 2) (aA (pv 3) aB))) (aM O__law_take (hr.mono (by decide)) pass0 rfl (aA (pv 0) (aA aJ aB))) (fun _ _=>rfl)))
   (aH (aP (bN dD (pv 4) (aM O__law_take (hr.mono (by decide)) pass0 rfl (aA (pv 0) (aA (aK bD rfl T.n_len rfl (aA (pv 4) aB)) aB))) (fun _ _=>rfl)))))),?_⟩
  simp only [lG]
  clear hr F T O__law_take hu
  obtain ⟨a,b,fv,sv,t1,t2,t3,t4,t5,t6,t7⟩:=ht
  have keep:=aI q (aI hp (aI ho (aI h1 (aI h2 (aI h3 hz)))))
  clear q hp ho h1 h2 h3 hz
  walk_at "rd"
  obtain ⟨q,hp,ho,h1,h2,h3,hz⟩:=keep
  refine ⟨.ref a,by rw [ixV_t t1];rfl,a,rfl,fv,.inl t2,fun J hJ=>zH hJ t4 h3 fun lf hlf=>⟨by decide,fun r hr=>?_⟩⟩
  have hne:1<=(zeros fx).length:=by
   obtain ⟨y,hy,e⟩:=hz
   exact List.length_pos_of_mem (List.mem_map.mpr ⟨y,List.mem_filter.mpr ⟨hy,by simpa using e⟩,rfl⟩)
  have hle:(zeros fx).length<=12:=by have:=(jJ fx).length_le;rw [List.length_map] at this;omega
  have p1:=hp.but (o:=.lst ((zeros fx).map V.str)) (hp.ne hlf)
  have p2:=p1.but (o:=.lst [.ref o,.ref lf]) (p1.ne hr)
  have b2:dM p H (upd (upd H lf (.lst ((zeros fx).map V.str))) r (.lst [.ref o,.ref lf])):=(dM.new hlf).trans (dM.new hr)
  have f2:upd (upd H lf (.lst ((zeros fx).map V.str))) r (.lst [.ref o,.ref lf]) lf=some (.lst ((zeros fx).map V.str)):=by rw [aC (aD upd_same hr)];exact upd_same
  have o2:=(ho.but b2)
  have r2:upd (upd H lf (.lst ((zeros fx).map V.str))) r (.lst [.ref o,.ref lf]) r=some (.lst [.ref o,.ref lf]):=upd_same
  have nr:=(p1.ne hr).symm
  have nl:=(hp.ne hlf).symm
  generalize upd (upd H lf (.lst ((zeros fx).map V.str))) r (.lst [.ref o,.ref lf])=H2 at p2 b2 f2 o2 r2 ⊢
  refine ⟨p,2,rfl,p2,by decide,by decide,fun d x y d0 d1=>?_⟩
  have p3:bW (upd H2 p (.lst [.int x,.int y])) p:=⟨_,_,upd_same⟩
  have b3:=b2.trans (dM.upd p H2 (.lst [.int x,.int y]))
  have f3:upd H2 p (.lst [.int x,.int y]) lf=some (.lst ((zeros fx).map V.str)):=by rw [aC nl];exact f2
  have o3:=o2.but (dM.upd p H2 (.lst [.int x,.int y]))
  have r3:upd H2 p (.lst [.int x,.int y]) r=some (.lst [.ref o,.ref lf]):=by rw [aC nr];exact r2
  generalize upd H2 p (.lst [.int x,.int y])=H3 at p3 b3 f3 o3 r3 ⊢
  have fin:∀ (l:Addr) (ls:aQ),H3 l=some (.lst (ls.map V.str))->1<=ls.length->ls.length<=12->l≠p->(∀ z ∈ ls,z ∈ os∨z ∈ zeros fx) ->
    ∃ x,Option.map (fun n=>V.int n) ((lenV H3 (.ref l)).bind fun a=>some (a:Int))=some x/\gZ [V.ref p,x] H3 (fun y H2=>∃ v_1,ixV H2 (.ref l) y=some v_1/\Q v_1 H2) E0:=by
   intro l ls hl g1 g2 nlp gin
   refine ⟨.int ls.length,by rw [lenV_l hl];simp,p,ls.length,rfl,p3,by omega,by omega,fun e x4 y4 e0 e1=>?_⟩
   have he:e.toNat < ls.length:=by omega
   refine ⟨.str ls[e.toNat],?_,q _ _ (b3.trans (dM.upd _ _ _)) ⟨_,_,upd_same⟩ (gin _ (List.getElem_mem he))⟩
   rw [ixV_l (xs:=ls.map V.str) (by rw [aC nlp];exact hl),kU e0 (by rw [List.length_map];exact e1),List.getElem?_map,List.getElem?_eq_getElem he]
   rfl
  dsimp only
  have:d=0∨d=1:=by omega
  rcases this with rfl | rfl
  ·exact ⟨.ref o,by rw [ixV_l r3];rfl,fin o os o3.1 h1 (by omega) o3.2 fun z hz=>.inl hz⟩
  ·exact ⟨.ref lf,by rw [ixV_l r3];rfl,fin lf _ f3 hne hle nl fun z hz=>.inr hz⟩
end
section
variable {P:Program}{w:World}{K:PySem.W.Frag}{mg:gA}{base:Heap}
noncomputable def N4 (fx:cQ)(sm:bY)(room:Int)(r:Str×Int):Prop:=(0 < r.2/\r.2<=room/\r ∈ fx)∨(r.2=0/\1 < room/\r.1 ∈ sm.map (·.1))
noncomputable def nE:Sp:=fun vs H Q _=>∃ (p t:Addr) (room:Int) (fx:cQ) (sm:bY),vs=[.ref t,.int room]/\E2 p t fx sm H/\fx.length<=12/\sm.length<=3 /\
 ∀ (l:Addr) (hs:cQ) (hv:List V) (H':Hp),aG H H'->H l=none->H' l=some (.lst hv)->dN H' hs hv->hs.length<=18->(∀ r ∈ hs,N4 fx sm room r)->Q (.ref l) H'
noncomputable def HI (fx:cQ)(room:Int)(H:Hp)(i:Nat)(acc:List V)(σ:St)(H1:Hp):Prop:=∃ (o1 o2:Option V) (hs:cQ),σ=[o1,o2,some (.int room)]/\aG H H1/\dN H1 hs acc/\hs.length<=i/\∀ r ∈ hs,0 < r.2/\r.2<=room/\r ∈ fx
noncomputable def HJ (sm:bY)(H:Hp)(i:Nat)(acc:List V)(σ:St)(H1:Hp):Prop:=∃ (o1 o2:Option V) (hs:cQ),σ=[o1,o2]/\aG H H1/\dN H1 hs acc/\hs.length=i/\∀ r ∈ hs,r.2=0/\r.1 ∈ sm.map (·.1)
theorem fH.get {H:Hp}:∀ {l:bY} {vs:List V} {i:Nat} {v:V},fH H l vs->vs[i]?=some v->∃ r t,l[i]?=some r/\v = .ref t/\H t=some (.tup [.str r.1,.str r.2])
 | [],_,_,_,h,e=>by cases h;simp at e
 | r :: _,_,0,_,⟨t,us,e,h,q⟩,k=>by subst e;simp at k;exact ⟨r,t,rfl,k.symm,h⟩
 | _ :: _,_,i + 1,_,⟨t,us,e,h,q⟩,k=>by subst e;simp at k;obtain ⟨r,t,h1,h2,h3⟩:=fH.get q k;exact ⟨r,t,by simpa using h1,h2,h3⟩
theorem fH.len {H:Hp}:∀ {l:bY} {vs:List V},fH H l vs->vs.length=l.length
 | [],_,h=>by cases h;rfl
 | _ :: _,_,⟨t,us,e,h,q⟩=>by subst e;simp [fH.len q]
theorem dN.app {H:Hp}:∀ {l m:cQ} {vs us:List V},dN H l vs->dN H m us->dN H (l ++ m) (vs ++ us)
 | [],_,_,_,h,k=>by cases h;exact k
 | _ :: _,_,_,_,⟨t,us,e,h,q⟩,k=>by subst e;exact ⟨t,_,rfl,h,dN.app q k⟩
theorem GU {f:Addr}{fd:FuncData}(F:gY K "_law_heads" "_law_heads" cU f fd)(T:iH mg):bR P w K mg base bC 1 f fd j9 nE:=by
 refine F.ok i4 (fun vs H Q E h=>?_) (fun cdv A outer s H vs Q E hr h=>?_)
 ·obtain ⟨p,t,room,fx,sm,rfl,_⟩:=h
  rfl
 ·obtain ⟨p,t,room,fx,sm,rfl,ht,h1,h2,q⟩:=h
  have hu:=hr.units
  refine ⟨_,(aE (iV (i:=2) i4.nd rfl rfl rfl rfl (bG.by (N:=iE) (names:=(aF cU).names) (N':=["_law_name","_law_parts","_law_room"]) (src:=[none,none,some 1]) (by decide +kernel) rfl rfl) (cX K rfl (bN dD (pv 0) aJ (fun _ _=>rfl))) (fun _ _ _ _=>(dR K rfl (i:=0) (j:=1) rfl (show List.Nodup (["_law_name","_law_parts","_law_room"]:aQ) by decide +kernel) rfl rfl rfl rfl)) (fun _ _ _ _=>(iU (jN (i5 hu) kM aJ (pv 1) (pv 2)))) (fun _ _ _ _=>(fW (aA (pv 0) (aA (pv 1) aB)))))
   (aE (bK (a0 xY (pv 1) aJ (nomark _)) (aH (aZ (i:=2) i4.nd rfl (Or.inl rfl) (bO bV (pv 2) (bO (oZ.or oY) (fA rfl (bG.by (N:=iE) (names:=(aF cU).names) (N':=["_law_name","_law_nought"]) (src:=[none,none]) (by decide +kernel) rfl rfl) (cX K rfl (bN dD (pv 0) aJ (fun _ _=>rfl))) (fun _ _ _ _=>(dR K rfl (i:=0) (j:=1) rfl (show List.Nodup (["_law_name","_law_nought"]:aQ) by decide +kernel) rfl rfl rfl rfl)) (fun _ _ _ _=>eT) (fun _ _ _ _=>(fW (aA (pv 0) (aA aJ aB))))) aJ)))) aW)
   (aH (aP (pv 2))))),?_⟩
  simp only [iE]
  clear hr F T hu
  obtain ⟨a,b,fv,sv,t1,t2,t3,t4,t5,t6,t7⟩:=ht
  have keep:=aI q (aI h1 h2)
  clear q h1 h2
  walk_at "rd"
  obtain ⟨q,h1,h2⟩:=keep
  refine ⟨.ref a,by rw [ixV_t t1];rfl,a,rfl,fv,.inl t2,fun J hJ=>dC hJ (HI fx room H) ⟨none,none,[],rfl,fun _ _ h=>h,rfl,Nat.le_refl _,by simp⟩ ?_ ?_ ?_⟩
  ·rintro i acc σ H' _ ⟨_,_,_,_,s1,_⟩
   rw [s1 _ _ t2,t2]
  ·rintro i x acc σ H1 hx ⟨o1,o2,hs,rfl,s1,row,hl,hin⟩
   obtain ⟨r,t',hr,rfl,ht⟩:=(t4.same (bF.of s1)).get hx
   have hi:i < 12:=by
    have:=(List.getElem?_eq_some_iff.mp hr).1
    omega
   refine ⟨t',_,rfl,h8.of ht,rfl,_,_,rfl,_,_,rfl,rfl,_,rfl,.inl (.inl ⟨0,rfl,r.2,rfl,_,rfl,?_⟩)⟩
   by_cases z:0 < r.2
   ·rw [if_pos (by simpa using z)]
    refine ⟨_,rfl,_,_,rfl,rfl,_,rfl,?_⟩
    dsimp only
    by_cases z2:r.2<=room
    ·rw [if_pos (by simpa using z2)]
     refine ⟨_,rfl,_,rfl,(by show 2<=sizeLine;decide),fun u hu=>⟨Nat.lt_of_le_of_lt (m:=12) (by rw [row.len];omega) (by decide),?_⟩⟩
     have row2:=(row.same (bF.of (aG.upd (o:=.tup [.str r.1,.int r.2]) hu))).snoc (n:=r.1) (k:=r.2) upd_same
     exact ⟨_,_,hs ++ [(r.1,r.2)],rfl,s1.trans (aG.upd hu),row2,by rw [List.length_append];simp;omega,fun y hy=>(List.mem_append.mp hy).elim (hin y) fun h=>by rw [List.mem_singleton.mp h];exact ⟨z,z2,List.mem_of_getElem? hr⟩⟩
    ·rw [if_neg (by simpa using z2)]
     exact ⟨_,_,hs,rfl,s1,row,by omega,hin⟩
   ·rw [if_neg (by simpa using z)]
    refine ⟨false,rfl,?_⟩
    dsimp only
    rw [if_neg (by decide)]
    exact ⟨_,_,hs,rfl,s1,row,by omega,hin⟩
  ·rintro acc σ H1 ⟨o1,o2,hs,rfl,s1,row,hl,hin⟩ l hl1
   rw [t4.len] at hl
   have s2:aG H (upd H1 l (.lst acc)):=s1.trans (aG.upd hl1)
   have nl:H l=none:=by
    cases e:H l with
    | none=>rfl
    | some o=>have z:=s1 l o e;rw [hl1] at z;cases z
   have row2:=row.same (bF.of (aG.upd (o:=.lst acc) hl1))
   have l2:upd H1 l (.lst acc) l=some (.lst acc):=upd_same
   generalize upd H1 l (.lst acc)=H2 at s2 row2 l2 ⊢
   by_cases hr:1 < room
   ·rw [if_pos hr]
    refine ⟨.ref b,by rw [ixV_t (s2 _ _ t1)];rfl,b,rfl,sv,.inl (s2 _ _ t3),fun J2 hJ2=>dC hJ2 (HJ sm H2) ⟨none,none,[],rfl,fun _ _ h=>h,rfl,rfl,by simp⟩ ?_ ?_ ?_⟩
    ·rintro i acc σ H' _ ⟨_,_,_,_,s3,_⟩
     rw [s3 _ _ (s2 _ _ t3),s2 _ _ t3]
    ·rintro i x acc2 σ H3 hx ⟨o1,o2,hs2,rfl,s3,row3,hl3,hin3⟩
     obtain ⟨r,t',hr',rfl,ht⟩:=(t5.same (bF.of (s2.trans s3))).get hx
     have hi:=(List.getElem?_eq_some_iff.mp hr').1
     refine ⟨t',_,rfl,h8.of ht,rfl,_,_,rfl,_,_,rfl,rfl,?_⟩
     dsimp only [tYes]
     rw [if_pos rfl]
     refine ⟨_,rfl,(by show 2<=sizeLine;decide),fun u hu=>⟨Nat.lt_of_le_of_lt (m:=12) (by rw [row3.len];omega) (by decide),?_⟩⟩
     have row4:=(row3.same (bF.of (aG.upd (o:=.tup [.str r.1,.int 0]) hu))).snoc (n:=r.1) (k:=0) upd_same
     exact ⟨_,_,hs2 ++ [(r.1,0)],rfl,s3.trans (aG.upd hu),row4,by rw [List.length_append,hl3];rfl,fun y hy=>(List.mem_append.mp hy).elim (hin3 y) fun h=>by rw [List.mem_singleton.mp h];exact ⟨rfl,List.mem_map.mpr ⟨r,List.mem_of_getElem? hr',rfl⟩⟩⟩
    ·rintro acc2 σ H3 ⟨o1,o2,hs2,rfl,s3,row3,hl3,hin3⟩ m hm
     rw [t5.len] at hl3
     have s4:=s3.trans (aG.upd (o:=.lst acc2) hm)
     have row4:=row3.same (bF.of (aG.upd (o:=.lst acc2) hm))
     have m4:upd H3 m (.lst acc2) m=some (.lst acc2):=upd_same
     generalize upd H3 m (.lst acc2)=H4 at s4 row4 m4 ⊢
     refine .inr ⟨m,rfl,acc2,m4,by decide,by decide,Nat.le_trans (m:=100) (by rw [row4.len];show _ * 2<=_;omega) (by decide),fun u hu=>?_⟩
     have e2:(List.replicate (Int.toNat 2) acc2).flatten=acc2 ++ acc2:=by show acc2 ++ (acc2 ++ [])=_;rw [List.append_nil]
     rw [e2]
     have l5:upd H4 u (.lst (acc2 ++ acc2)) l=some (.lst acc):=by rw [aC (aD (s4 _ _ l2) hu)];exact s4 _ _ l2
     have s5:=s4.trans (aG.upd (o:=.lst (acc2 ++ acc2)) hu)
     have row5:=row4.same (bF.of (aG.upd (o:=.lst (acc2 ++ acc2)) hu))
     have u5:upd H4 u (.lst (acc2 ++ acc2)) u=some (.lst (acc2 ++ acc2)):=upd_same
     generalize upd H4 u (.lst (acc2 ++ acc2))=H5 at l5 s5 row5 u5 ⊢
     refine ⟨.lst (acc ++ (acc2 ++ acc2)),?_,fun v hv=>?_⟩
     ·simp only [catO,l5,u5]
      exact if_pos (Nat.le_trans (m:=100) (by rw [List.length_append,row5.len,(row2.same (bF.of s5)).len];omega) (by decide))
     ·have s6:=(s2.trans s5).trans (aG.upd (o:=.lst (acc ++ (acc2 ++ acc2))) hv)
      have row6:=((row2.same (bF.of s5)).app (row5.app row5)).same (bF.of (aG.upd (o:=.lst (acc ++ (acc2 ++ acc2))) hv))
      refine q v _ _ _ s6 ?_ upd_same row6 (by simp only [List.length_append];omega) fun y hy=>?_
      ·cases e:H v with
       | none=>rfl
       | some o=>have z:=(s2.trans s5) v o e;rw [hv] at z;cases z
      ·obtain h | h:=List.mem_append.mp hy
       ·exact .inl (hin y h)
       ·have:=(List.mem_append.mp h).elim (hin3 y) (hin3 y)
        exact .inr ⟨this.1,hr,this.2⟩
   ·rw [if_neg hr]
    exact q l hs acc H2 s2 nl l2 row2 (by omega) fun y hy=>.inl (hin y hy)
end
section
variable {P:Program}{w:World}{K:PySem.W.Frag}{mg:gA}{base:Heap}
noncomputable def E4 (fx:cQ)(sm:bY)(n:Str)(k:Nat):Prop:=(0 < k/\(n,(k:Int)) ∈ fx)∨(2<=k/\n ∈ sm.map (·.1))
mutual
noncomputable def bM (fx:cQ)(sm:bY)(os:aQ):D->Prop
 | .str x=>x ∈ os∨x ∈ zeros fx
 | .tup (.str n :: ds)=>E4 fx sm n ds.length/\IsTms fx sm os ds
 | .lst (.str n :: ds)=>E4 fx sm n ds.length/\IsTms fx sm os ds
 | _=>False
noncomputable def IsTms (fx:cQ)(sm:bY)(os:aQ):List D->Prop
 | []=>True
 | d :: ds=>bM fx sm os d/\IsTms fx sm os ds
end
mutual
noncomputable def lvs:D->Nat
 | .tup (_ :: ds)=>lvss ds
 | .lst (_ :: ds)=>lvss ds
 | _=>1
noncomputable def lvss:List D->Nat
 | []=>0
 | d :: ds=>lvs d + lvss ds
end
theorem IsTms.snoc {fx:cQ}{sm:bY}{os:aQ}{d:D}(h:bM fx sm os d):∀ {ds:List D},IsTms fx sm os ds->IsTms fx sm os (ds ++ [d])
 | [],_=>⟨h,trivial⟩
 | _ :: _,⟨a,b⟩=>⟨a,IsTms.snoc h b⟩
theorem t8 (d:D):∀ ds:List D,lvss (ds ++ [d])=lvss ds + lvs d
 | []=>by simp [lvss]
 | e :: ds=>by rw [List.cons_append,lvss,t8 d ds,lvss];omega
theorem rV (d:D):∀ ds:List D,depDs (ds ++ [d])=max (depDs ds) (depD d)
 | []=>Nat.max_comm _ _
 | e :: ds=>by rw [List.cons_append,depDs,rV d ds,depDs,Nat.max_assoc]
theorem Reps.snoc {H:Hp}{d:D}{v:V}(h:bB H d v):∀ {ds:List D} {vs:List V},Reps H ds vs->Reps H (ds ++ [d]) (vs ++ [v])
 | [],_,e=>by cases e;exact ⟨v,[],rfl,h,rfl⟩
 | _ :: _,_,⟨x,r,e,a,b⟩=>by subst e;exact ⟨x,r ++ [v],rfl,a,Reps.snoc h b⟩
theorem Reps.len {H:Hp}:∀ {ds:List D} {vs:List V},Reps H ds vs->vs.length=ds.length
 | [],_,e=>by cases e;rfl
 | _ :: _,_,⟨x,r,e,a,b⟩=>by subst e;simp [Reps.len b]
noncomputable def nw (H H':Hp):Hp:=fun a=>if H a=none then H' a else none
noncomputable def nwB (r:Addr)(H H':Hp):Hp:=fun a=>if H a=none/\a≠r then H' a else none
theorem g7 {H H':Hp}{a:Addr}{o:HO}:nw H H' a=some o ↔ H a=none/\H' a=some o:=by
 unfold nw
 by_cases h:H a=none
 ·rw [if_pos h];exact ⟨fun e=>⟨h,e⟩,fun e=>e.2⟩
 ·rw [if_neg h];exact ⟨fun e=>(by cases e),fun e=>absurd e.1 h⟩
theorem qF {r:Addr}{H H':Hp}{a:Addr}{o:HO}:nwB r H H' a=some o ↔ (H a=none/\a≠r)/\H' a=some o:=by
 unfold nwB
 by_cases h:H a=none/\a≠r
 ·rw [if_pos h];exact ⟨fun e=>⟨h,e⟩,fun e=>e.2⟩
 ·rw [if_neg h];exact ⟨fun e=>(by cases e),fun e=>absurd e.1 h⟩
noncomputable def pI (p t o:Addr)(fx:cQ)(sm:bY)(os:aQ)(H:Hp):Prop:=bW H p/\E2 p t fx sm H/\IL p o os H/\dJ fx sm/\1<=os.length/\os.length<=10
theorem pI.but {p t o:Addr}{fx:cQ}{sm:bY}{os:aQ}{H H':Hp}(h:pI p t o fx sm os H)(hb:dM p H H')(hp:bW H' p):pI p t o fx sm os H' :=
 ⟨hp,h.2.1.but hb h.1,h.2.2.1.but hb,h.2.2.2⟩
noncomputable def mI (n:Nat):Sp:=fun vs H Q _=>∃ (p t o:Addr) (fx:cQ) (sm:bY) (os:aQ) (room deep:Nat),vs=[.ref p,.ref t,.ref o,.int room,.int deep]/\pI p t o fx sm os H/\1<=room/\room<=64/\deep<=n /\
 ∀ (d:D) (v:V) (H':Hp),dM p H H'->bW H' p->bB (nw H H') d v->bM fx sm os d->lvs d<=room->depD d<=deep->Q v H'
theorem tP {H:Hp}:∀ {hs:cQ} {hv:List V},dN H hs hv->Reps H (hs.map fun r=>D.tup [.str r.1,.int r.2]) hv
 | [],_,e=>e
 | r :: _,_,⟨t,us,e,h,q⟩=>⟨.ref t,us,e,⟨t,_,rfl,h,_,_,rfl,rfl,_,_,rfl,rfl,rfl⟩,tP q⟩
theorem yW:∀ hs:cQ,depDs (hs.map fun r=>D.tup [.str r.1,.int r.2])<=1
 | []=>Nat.zero_le _
 | r :: hs=>by
  have:=yW hs
  rw [List.map_cons,depDs]
  show max 1 _<=1
  omega
noncomputable def TI (p t o l rw:Addr)(room deep parts:Nat)(nm:Str)(fx:cQ)(sm:bY)(os:aQ)(H:Hp)(i:Nat)(σ:St)(H1:Hp):Prop :=
 ∃ (left:Nat) (ds:List D) (vs:List V) (o10 o11:Option V),σ=[some (.ref p),some (.ref t),some (.ref o),some (.int room),some (.int deep),some (.ref l),some (.str nm),some (.int parts),some (.int left),some (.ref rw),o10,o11] /\
  dM p H H1/\bW H1 p/\H1 rw=some (.lst (.str nm :: vs))/\Reps (nwB rw H H1) ds vs/\ds.length=i/\IsTms fx sm os ds/\lvss ds + left + (parts - i)<=room/\depDs ds + 1<=deep
theorem tK {K0:PySem.W.Frag}{Q:VK}{H H5:Hp}{p t o l rw:Addr}{fx:cQ}{sm:bY}{os:aQ}{room deep parts n:Nat}{nm:Str}(hin:pI p t o fx sm os H)(dn:deep<=n)(d1:1<=deep)(r2:room<=64)(hpr:parts<=room)(hh:E4 fx sm nm parts)
  (b5:dM p H H5) (p5:bW H5 p) (nr:H rw=none) (r5:H5 rw=some (.lst [.str nm]))
  (q:∀ (d:D) (v:V) (H':Hp),dM p H H'->bW H' p->bB (nw H H') d v->bM fx sm os d->lvs d<=room->depD d<=deep->Q v H') :
  zF (IT 0 parts) (gName 10) (tSeq (tAsg (tCall gZ [] E0 (tCons (tVar 0) (tCons (tOp rAddF (tVar 8) (tC (V.int 1))) tNil))) (gName 11)) (tSeq (tAsg (tOp (rI0 fun i j=>V.int (i - j)) (tVar 8) (tVar 11)) (gName 8))
   (tDrop (tBM K0 "list" rAppend (tVar 9) (tCons (tCall (fun vs H Q E=>∃ m,m < n/\mI m vs H Q E) [] E0 (tCons (tVar 0) (tCons (tVar 1) (tCons (tVar 2) (tCons (tOp rAddF (tC (V.int 1)) (tVar 11)) (tCons (tOp (rI0 fun i j=>V.int (i - j)) (tVar 4) (tC (V.int 1))) tNil)))))) tNil)))))
   { nx:=tRet (tOp (fun x y H Q=>∃ v,ixV H x y=some v/\Q v H) (tLst (tCons (tVar 9) (tCons (tCB rTupU (tCons (tVar 9) tNil)) tNil))) (tCall gZ [] E0 (tCons (tVar 0) (tCons (tC (V.int 2)) tNil)))) { nx:=fun x H'=>Q V.non H',rt:=Q },rt:=Q }
   [some (.ref p),some (.ref t),some (.ref o),some (.int room),some (.int deep),some (.ref l),some (.str nm),some (.int parts),some (.int ((room:Int) - (parts:Int))),some (.ref rw),none,none] H5:=by
 have nrp:rw≠p:=fun z=>by obtain ⟨x,y,e⟩:=hin.1;rw [← z,nr] at e;cases e
 have hp0:H p≠none:=fun z=>by obtain ⟨x,y,e⟩:=hin.1;rw [z] at e;cases e
 refine gI (TI p t o l rw room deep parts nm fx sm os H) ⟨room - parts,[],[],none,none,by rw [Int.ofNat_sub hpr],b5,p5,r5,rfl,rfl,trivial,by show 0 + (room - parts) + (parts - 0)<=room;omega,d1⟩ ?_ ?_
 ·rintro i σ H1 hi ⟨left,ds,vs,o10,o11,rfl,b1,p1,r1,rp,hl,tm,lv,dp⟩
  refine ⟨_,rfl,_,rfl,.inl ⟨.int (left + 1),rfl,p,left + 1,rfl,p1,by omega,by omega,fun more x y m0 m1=>?_⟩⟩
  obtain ⟨k,rfl⟩:∃ k:Nat,more=(k:Int):=⟨more.toNat,by omega⟩
  have b2:=b1.trans (dM.upd p H1 (.lst [.int x,.int y]))
  have p2:bW (upd H1 p (.lst [.int x,.int y])) p:=⟨_,_,upd_same⟩
  have r2':upd H1 p (.lst [.int x,.int y]) rw=some (.lst (.str nm :: vs)):=by rw [aC nrp];exact r1
  have s2:∀ a,a≠p->upd H1 p (.lst [.int x,.int y]) a=H1 a:=fun a ha=>aC ha
  generalize upd H1 p (.lst [.int x,.int y])=H2 at b2 p2 r2' s2 ⊢
  refine ⟨_,rfl,_,rfl,_,_,rfl,rfl,?_⟩
  have e1:(1:Int) + (k:Int)=((1 + k:Nat):Int):=by omega
  have e2:(deep:Int) - 1=((deep - 1:Nat):Int):=by omega
  refine ⟨_,rfl,.inl ⟨rfl,_,eA.of r2'⟩,_,rfl,_,rfl,_,rfl,_,rfl,.inl ⟨_,rfl,_,rfl,_,_,rfl,rfl,deep - 1,by omega,p,t,o,fx,sm,os,1 + k,deep - 1,(by rw [← e1,← e2];rfl),hin.but b2 p2,by omega,by omega,Nat.le_refl _,fun d v H3 b3 p3 rep3 tm3 lv3 dp3=>?_⟩⟩
  have r3:=b3 rw _ nrp r2'
  have old:∀ a,H2 a=none->H a=none:=fun a ha=>by
   cases e:H a with
   | none=>rfl
   | some u =>
    by_cases z:a=p
    ·obtain ⟨x,y,e'⟩:=p2;rw [z,e'] at ha;cases ha
    ·have:=b2 a u z e;rw [ha] at this;cases this
  refine ⟨rw,_,v,rfl,rfl,r3,Nat.lt_of_le_of_lt (m:=100) (by simp only [List.length_cons];rw [Reps.len rp];omega) (by decide),?_⟩
  refine ⟨left - k,ds ++ [d],vs ++ [v],some (.int (0 + i)),some (.int k),?_,BC (b2.trans b3) nr,p3.but nrp.symm,by rw [upd_same];rfl,?_,by rw [List.length_append,hl];rfl,tm.snoc tm3,?_,?_⟩
  ·rw [Int.ofNat_sub (by omega)];rfl
  ·refine Reps.snoc (bB.same ?_ rep3) (Reps.same ?_ rp)
   ·intro a u e
    obtain ⟨g1,g2⟩:=g7.mp e
    have nar:a≠rw:=fun z=>by rw [z,r2'] at g1;cases g1
    exact qF.mpr ⟨⟨old a g1,nar⟩,by rw [aC nar];exact g2⟩
   ·intro a u e
    obtain ⟨⟨g1,g2⟩,g3⟩:=qF.mp e
    have nap:a≠p:=fun z=>hp0 (by rw [← z];exact g1)
    exact qF.mpr ⟨⟨g1,g2⟩,by rw [aC g2];exact b3 a u nap (by rw [s2 a nap];exact g3)⟩
  ·rw [t8];omega
  ·rw [rV];omega
 ·rintro σ H1 ⟨left,ds,vs,o10,o11,rfl,b1,p1,r1,rp,hl,tm,lv,dp⟩
  refine ⟨_,rfl,_,rfl,rw,_,rfl,.inl r1,fun tp H2 hc=>?_⟩
  rcases hc with ⟨z,_⟩ | ⟨_,ht,rfl⟩
  ·rw [r1] at z;cases z
  refine ⟨(by show 2<=sizeLine;decide),fun u hu=>⟨_,rfl,p,2,rfl,(p1.but (p1.ne ht)).but ((p1.but (p1.ne ht)).ne hu),by decide,by decide,fun d x y d0 d2=>?_⟩⟩
  have s2:aG H1 (upd (upd H1 tp (.tup (.str nm :: vs))) u (.lst [.ref rw,.ref tp])):=(aG.upd ht).trans (aG.upd hu)
  have t2:upd (upd H1 tp (.tup (.str nm :: vs))) u (.lst [.ref rw,.ref tp]) tp=some (.tup (.str nm :: vs)):=by rw [aC (aD upd_same hu)];exact upd_same
  have u2:upd (upd H1 tp (.tup (.str nm :: vs))) u (.lst [.ref rw,.ref tp]) u=some (.lst [.ref rw,.ref tp]):=upd_same
  have nup:u≠p:=((p1.but (o:=.tup (.str nm :: vs)) (p1.ne ht)).ne hu).symm
  have ntp:tp≠p:=(p1.ne ht).symm
  generalize upd (upd H1 tp (.tup (.str nm :: vs))) u (.lst [.ref rw,.ref tp])=H2 at s2 t2 u2 ⊢
  have b3:dM p H (upd H2 p (.lst [.int x,.int y])):=(b1.trans s2.but).trans (dM.upd _ _ _)
  have r3:upd H2 p (.lst [.int x,.int y]) rw=some (.lst (.str nm :: vs)):=by rw [aC nrp];exact s2 _ _ r1
  have t3:upd H2 p (.lst [.int x,.int y]) tp=some (.tup (.str nm :: vs)):=by rw [aC ntp];exact t2
  have u3:upd H2 p (.lst [.int x,.int y]) u=some (.lst [.ref rw,.ref tp]):=by rw [aC nup];exact u2
  have nt:H tp=none:=by
   cases e:H tp with
   | none=>rfl
   | some w=>have:=b1 tp w ntp e;rw [ht] at this;cases this
  have rp3:Reps (nw H (upd H2 p (.lst [.int x,.int y]))) (.str nm :: ds) (.str nm :: vs):=by
   refine ⟨_,_,rfl,rfl,Reps.same (fun a w e=>?_) rp⟩
   obtain ⟨⟨g1,g2⟩,g3⟩:=qF.mp e
   exact g7.mpr ⟨g1,by rw [aC (fun z=>hp0 (by rw [← z];exact g1))];exact s2 _ _ g3⟩
  have dd:depDs (.str nm :: ds) + 1<=deep:=by
   rw [depDs,show depD (.str nm)=0 from rfl];omega
  have ll:lvss ds<=room:=by omega
  dsimp only
  have:d=0∨d=1:=by omega
  rcases this with rfl | rfl
  ·refine ⟨.ref rw,by rw [ixV_l u3];rfl,q (.lst (.str nm :: ds)) _ _ b3 ⟨_,_,upd_same⟩ ⟨rw,_,rfl,g7.mpr ⟨nr,r3⟩,rp3⟩ ?_ (by rw [lvs];exact ll) (by rw [depD];exact dd)⟩
   unfold bM;exact ⟨by rw [hl];exact hh,tm⟩
  ·refine ⟨.ref tp,by rw [ixV_l u3];rfl,q (.tup (.str nm :: ds)) _ _ b3 ⟨_,_,upd_same⟩ ⟨tp,_,rfl,g7.mpr ⟨nt,t3⟩,rp3⟩ ?_ (by rw [lvs];exact ll) (by rw [depD];exact dd)⟩
   unfold bM;exact ⟨by rw [hl];exact hh,tm⟩
theorem KD {f:Addr}{fd:FuncData}(n:Nat)(F:gY K "_law_term" "_law_term" dG f fd)(T:iH mg)(O__law_take:cH P w K mg base bC 1 "_law_take" gZ)(O__law_leaf:cH P w K mg base bC 2 "_law_leaf" oR)(O__law_heads:cH P w K mg base bC 1 "_law_heads" nE)
  (O__law_term:cH P w K mg base bC (n + 3) "_law_term" (fun vs H Q E=>∃ m,m < n/\mI m vs H Q E)):bR P w K mg base bC (n + 4) f fd fN (mI n):=by
 refine F.ok cS (fun vs H Q E h=>?_) (fun cdv A outer s H vs Q E hr h=>?_)
 ·obtain ⟨p,t,o,fx,sm,os,room,deep,rfl,_⟩:=h
  rfl
 ·obtain ⟨p,t,o,fx,sm,os,room,deep,rfl,hin,r1,r2,dn,q⟩:=h
  have hu:=hr.units
  refine ⟨_,(aE (aZ (i:=5) cS.nd rfl (Or.inl rfl) (aM O__law_heads (hr.mono (by omega)) pass0 rfl (aA (pv 1) (aA (pv 3) aB))))
   (aE (bK (PW.pt (iL (a0 (eF hu) (pv 4) aJ (nomark _)) (iL (a0 (eF hu) (pv 5) (cM aB) (nomark _)) (gF (a0 (eF hu) (aM O__law_take (hr.mono (by omega)) pass0 rfl (aA (pv 0) (aA aJ aB))) aJ (nomark _)))))) (aH (aP (aM O__law_leaf (hr.mono (by omega)) pass0 rfl (aA (pv 0) (aA (pv 1) (aA (pv 2) aB)))))) aW)
   (aE (vS (bN dD (pv 5) (aM O__law_take (hr.mono (by omega)) pass0 rfl (aA (pv 0) (aA (aK bD rfl T.n_len rfl (aA (pv 5) aB)) aB))) (fun _ _=>rfl)) (dR K rfl (i:=6) (j:=7) rfl cS.nd rfl rfl rfl rfl))
   (aE (bK (a0 (eF hu) (pv 7) aJ (nomark _)) (aH (aZ (i:=7) cS.nd rfl (Or.inl rfl) (bO bV aJ (aM O__law_take (hr.mono (by omega)) pass0 rfl (aA (pv 0) (aA (aK (uR rfl) rfl T.n_min rfl (aA aJ (aA (bO oX (pv 3) aJ) aB))) aB)))))) aW)
   (aE (aZ (i:=8) cS.nd rfl (Or.inl rfl) (bO oX (pv 3) (pv 7)))
   (aE (aZ (i:=9) cS.nd rfl (Or.inl rfl) (cM (aA (pv 6) aB)))
   (aE (eY PassesOwn.never rfl (gG rfl T.n_range (aA (pv 7) aB)) (bJ (i:=10) cS.nd rfl (Or.inl rfl)) (aE (aZ (i:=11) cS.nd rfl (Or.inl rfl) (aM O__law_take (hr.mono (by omega)) pass0 rfl (aA (pv 0) (aA (bO bV (pv 8) aJ) aB))))
   (aE (aZ (i:=8) cS.nd rfl (Or.inl rfl) (bO oX (pv 8) (pv 11)))
   (aH (cW (iW PySem.F.plainAttrs_list PySem.F.slot_list_append PySem.F.type_list_append eV (pv 9) (aA (aM O__law_term (hr.mono (by omega)) pass0 rfl (aA (pv 0) (aA (pv 1) (aA (pv 2) (aA (bO bV aJ (pv 11)) (aA (bO oX (pv 4) aJ) aB)))))) aB)))))))
   (aH (aP (bN dD (cM (aA (pv 9) (aA (bZ fM rfl T.n_tuple rfl (aA (pv 9) aB)) aB))) (aM O__law_take (hr.mono (by omega)) pass0 rfl (aA (pv 0) (aA aJ aB))) (fun _ _=>rfl))))))))))),?_⟩
  simp only [p7]
  clear hr F T hu O__law_take O__law_leaf O__law_heads O__law_term
  have keep:=aI q (aI hin (aI r1 (aI r2 dn)))
  clear q hin r1 r2 dn
  walk_at "rd"
  obtain ⟨q,hin,r1,r2,dn⟩:=keep
  have leaf:∀ H1,dM p H H1->bW H1 p->oR [.ref p,.ref t,.ref o] H1 Q E0:=fun H1 b1 p1=>by
   have i1:=hin.but b1 p1
   exact ⟨p,t,o,fx,sm,os,rfl,p1,i1.2.1,i1.2.2.1,i1.2.2.2.2.1,i1.2.2.2.2.2,hin.2.2.2.1.f2,hin.2.2.2.1.bare,fun x H' b2 p2 hx=>q (.str x) (.str x) H' (b1.trans b2) p2 rfl (by unfold bM;exact hx) r1 (Nat.zero_le _)⟩
  refine ⟨p,t,room,fx,sm,rfl,hin.2.1,hin.2.2.2.1.f2,hin.2.2.2.1.s2,fun l hs hv H1 s1 nl l1 row hl hok=>?_⟩
  have b1:dM p H H1:=s1.but
  have p1:bW H1 p:=by obtain ⟨x,y,e⟩:=hin.1;exact ⟨x,y,s1 _ _ e⟩
  have nlp:l≠p:=fun z=>by obtain ⟨x,y,e⟩:=hin.1;rw [← z,nl] at e;cases e
  dsimp only
  by_cases hd0:(deep:Int)=0
  ·rw [if_pos hd0];exact leaf H1 b1 p1
  rw [if_neg hd0]
  refine ⟨Nat.zero_le _,fun u hu=>?_⟩
  have b2:=b1.trans (dM.new (p:=p) (o:=.lst []) hu)
  have p2:=p1.but (o:=.lst []) (p1.ne hu)
  have l2:upd H1 u (.lst []) l=some (.lst hv):=by rw [aC (aD l1 hu)];exact l1
  have row2:=row.same (bF.of (aG.upd (o:=.lst []) hu))
  have u2:upd H1 u (.lst []) u=some (.lst []):=upd_same
  generalize upd H1 u (.lst [])=H2 at b2 p2 l2 row2 u2 ⊢
  refine ⟨.lst (hs.map fun r=>D.tup [.str r.1,.int r.2]),.lst [],⟨l,hv,rfl,l2,tP row2⟩,⟨u,[],rfl,u2,rfl⟩,?_,_,rfl,?_⟩
  ·have:=yW hs
   rw [depD];omega
  by_cases he:hs=[]
  ·subst he
   rw [if_pos (by rfl)];exact leaf H2 b2 p2
  rw [if_neg (by cases hs with | nil=>exact absurd rfl he | cons a b=>exact Bool.false_ne_true)]
  refine ⟨p,7,rfl,p2,by decide,by decide,fun d x y d0 d1=>?_⟩
  have b3:=b2.trans (dM.upd p H2 (.lst [.int x,.int y]))
  have p3:bW (upd H2 p (.lst [.int x,.int y])) p:=⟨_,_,upd_same⟩
  have l3:upd H2 p (.lst [.int x,.int y]) l=some (.lst hv):=by rw [aC nlp];exact l2
  have row3:=row2.same (bF.pot (o:=.lst [.int x,.int y]) p2)
  generalize upd H2 p (.lst [.int x,.int y])=H3 at b3 p3 l3 row3 ⊢
  dsimp only
  rw [rEqD_ii]
  refine ⟨_,rfl,?_⟩
  by_cases hd:d=0
  ·rw [if_pos (by simpa using hd)];exact leaf H3 b3 p3
  rw [if_neg (by simpa using hd)]
  have hn:1<=hs.length:=by cases hs with | nil=>exact absurd rfl he | cons a b=>simp
  refine ⟨.int hs.length,by rw [lenV_l l3,row3.len];rfl,p,hs.length,rfl,p3,by omega,by omega,fun e x4 y4 e0 e1=>?_⟩
  have b4:=b3.trans (dM.upd p H3 (.lst [.int x4,.int y4]))
  have p4:bW (upd H3 p (.lst [.int x4,.int y4])) p:=⟨_,_,upd_same⟩
  have l4:upd H3 p (.lst [.int x4,.int y4]) l=some (.lst hv):=by rw [aC nlp];exact l3
  have row4:=row3.same (bF.pot (o:=.lst [.int x4,.int y4]) p3)
  generalize upd H3 p (.lst [.int x4,.int y4])=H4 at b4 p4 l4 row4 ⊢
  have hle:e.toNat < hv.length:=by rw [row4.len];omega
  obtain ⟨r,tt,hr,hv',ht⟩:=row4.get (List.getElem?_eq_getElem hle)
  have hok':=hok r (List.mem_of_getElem? hr)
  refine ⟨.ref tt,by rw [ixV_l l4,kU e0 (by omega),List.getElem?_eq_getElem hle,hv'],tt,rfl,_,h8.of ht,rfl,_,_,rfl,_,_,rfl,rfl,?_⟩
  rw [rEqD_ii]
  refine ⟨_,rfl,?_⟩
  by_cases hz:r.2=0
  ·rw [if_pos (by simpa using hz)]
   have h0:1 < (room:Int)/\r.1 ∈ sm.map (·.1):=by
    rcases hok' with ⟨a,_,_⟩ | ⟨_,b,c⟩
    ·omega
    ·exact ⟨b,c⟩
   refine ⟨4,(room:Int) - 1,⟨rfl,rfl⟩,p,_,rfl,p4,by split <;> omega,by split <;> omega,fun g x5 y5 g0 g1=>⟨.int (2 + g),rfl,2 + g,rfl,by decide,fun u5 hu5=>⟨2 + g,rfl,by split at g1 <;> omega,by split at g1 <;> omega,?_⟩⟩⟩
   obtain ⟨k,hk⟩:∃ k:Nat,2 + g=(k:Int):=⟨(2 + g).toNat,by omega⟩
   have hk2:2<=k/\k<=room:=by split at g1 <;> omega
   rw [hk,Int.toNat_natCast]
   have b5:=(b4.trans (dM.upd p H4 (.lst [.int x5,.int y5]))).trans (dM.new (o:=.lst [.str r.1]) hu5)
   have p5:bW (upd H4 p (.lst [.int x5,.int y5])) p:=⟨_,_,upd_same⟩
   refine tK hin dn (by omega) r2 hk2.2 (.inr ⟨hk2.1,h0.2⟩) b5 (p5.but (p5.ne hu5)) ?_ upd_same q
   cases e:H u5 with
   | none=>rfl
   | some w=>have:=(b4.trans (dM.upd p H4 (.lst [.int x5,.int y5]))) u5 w (p5.ne hu5).symm e;rw [hu5] at this;cases this
  ·rw [if_neg (by simpa using hz)]
   have h0:0 < r.2/\r.2<=(room:Int)/\r ∈ fx:=by
    rcases hok' with h | ⟨h,_⟩
    ·exact h
    ·exact absurd h hz
   refine ⟨r.2,rfl,by decide,fun u5 hu5=>⟨r.2,rfl,by omega,by omega,?_⟩⟩
   obtain ⟨k,hk⟩:∃ k:Nat,r.2=(k:Int):=⟨r.2.toNat,by omega⟩
   have hm:(r.1,(k:Int)) ∈ fx:=by rw [← hk];exact h0.2.2
   rw [hk,Int.toNat_natCast]
   have b5:=b4.trans (dM.new (p:=p) (o:=.lst [.str r.1]) hu5)
   refine tK hin dn (by omega) r2 (by omega) (.inl ⟨by omega,hm⟩) b5 (p4.but (p4.ne hu5)) ?_ upd_same q
   cases e:H u5 with
   | none=>rfl
   | some w=>have:=b4 u5 w (p4.ne hu5).symm e;rw [hu5] at this;cases this
theorem K5 {f:Addr}{fd:FuncData}(F:gY K "_law_term" "_law_term" dG f fd)(T:iH mg)(O__law_take:cH P w K mg base bC 1 "_law_take" gZ)(O__law_leaf:cH P w K mg base bC 2 "_law_leaf" oR)(O__law_heads:cH P w K mg base bC 1 "_law_heads" nE)
  (hm:mg "_law_term" = some (.ref f)) (hk:PySem.W.keepIn K (.ref f)=true) (hb:eX K fd fN []):∀ n,bR P w K mg base bC (n + 4) f fd fN (mI n):=by
 intro n
 induction n using Nat.strongRecOn with
 | ind n ih =>
  exact KD n F T O__law_take O__law_leaf O__law_heads ⟨f,fd,_,⟨fun vs H Q E ⟨m,h1,h⟩=>(ih m h1).len vs H Q E h,fun A outer s H args us vs Q E hr he hb hv ⟨m,h1,h⟩=>((ih m h1).mono (by omega)).run A outer s H args us vs Q E hr he hb hv h⟩,hm,hk,hb⟩
theorem GH {f:Addr}{fd:FuncData}(F:gY K "_law_term" "_law_term" dG f fd)(T:iH mg)(O__law_take:cH P w K mg base bC 1 "_law_take" gZ)(O__law_leaf:cH P w K mg base bC 2 "_law_leaf" oR)(O__law_heads:cH P w K mg base bC 1 "_law_heads" nE)
  (hm:mg "_law_term" = some (.ref f)) (hk:PySem.W.keepIn K (.ref f)=true) (hb:eX K fd fN []) (n:Nat):cH P w K mg base bC (n + 4) "_law_term" (mI n):=⟨f,fd,_,K5 F T O__law_take O__law_leaf O__law_heads hm hk hb n,hm,hk,hb⟩
end
noncomputable abbrev M:=Nat×Str×Nat
noncomputable def sL (x y:Str):Bool:=decide (x.cps.toList < y.cps.toList)
theorem I8 {x y:Str}(h:x.cps.toList=y.cps.toList):x=y:=by
 cases x;cases y;simp only [Str.mk.injEq];exact Array.toList_inj.mp h
theorem MM (x:Str):sL x x=false:=decide_eq_false (List.lt_irrefl _)
theorem JG {x y:Str}(h:sL x y=true):sL y x=false:=decide_eq_false fun k=>absurd (List.lt_trans (of_decide_eq_true h) k) (List.lt_irrefl _)
theorem FU {x y:Str}(n:x≠y):sL x y=true∨sL y x=true:=by
 by_cases h:x.cps.toList < y.cps.toList
 ·exact .inl (decide_eq_true h)
 ·by_cases k:y.cps.toList < x.cps.toList
  ·exact .inr (decide_eq_true k)
  ·exact absurd (I8 (List.le_antisymm (List.not_lt.mp k) (List.not_lt.mp h))) n
noncomputable def ltM (a b:M):Bool:=if a.1=b.1 then (if a.2.1=b.2.1 then decide (a.2.2 < b.2.2) else sL a.2.1 b.2.1) else decide (a.1 < b.1)
theorem rF {a b:M}(h:ltM a b=true):ltM b a=false:=by
 obtain ⟨a1,a2,a3⟩:=a
 obtain ⟨b1,b2,b3⟩:=b
 unfold ltM at h ⊢
 dsimp only at h ⊢
 by_cases e1:a1=b1
 ·subst e1
  rw [if_pos rfl] at h ⊢
  by_cases e2:a2=b2
  ·subst e2
   rw [if_pos rfl] at h ⊢
   exact decide_eq_false (by have:=of_decide_eq_true h;omega)
  ·rw [if_neg e2] at h;rw [if_neg (Ne.symm e2)];exact JG h
 ·rw [if_neg e1] at h;rw [if_neg (Ne.symm e1)]
  exact decide_eq_false (by have:=of_decide_eq_true h;omega)
theorem pA {a b:M}(n:a≠b):ltM a b=true∨ltM b a=true:=by
 obtain ⟨a1,a2,a3⟩:=a
 obtain ⟨b1,b2,b3⟩:=b
 unfold ltM
 dsimp only
 by_cases e1:a1=b1
 ·subst e1
  rw [if_pos rfl,if_pos rfl]
  by_cases e2:a2=b2
  ·subst e2
   rw [if_pos rfl,if_pos rfl]
   have:a3≠b3:=fun z=>n (by rw [z])
   rcases Nat.lt_or_gt_of_ne this with h | h
   ·exact .inl (decide_eq_true h)
   ·exact .inr (decide_eq_true h)
  ·rw [if_neg e2,if_neg (Ne.symm e2)];exact FU e2
 ·rw [if_neg e1,if_neg (Ne.symm e1)]
  rcases Nat.lt_or_gt_of_ne e1 with h | h
  ·exact .inl (decide_eq_true h)
  ·exact .inr (decide_eq_true h)
noncomputable def lexK:List M->List M->Bool
 | [],[]=>false
 | [],_ :: _=>true
 | _ :: _,[]=>false
 | a :: s,b :: t=>if a=b then lexK s t else ltM a b
theorem nS:∀ s:List M,lexK s s=false
 | []=>rfl
 | a :: s=>by rw [lexK,if_pos rfl,nS s]
theorem pB:∀ {s t:List M},lexK s t=true->lexK t s=false
 | [],[],h=>by cases h
 | [],_ :: _,_=>rfl
 | _ :: _,[],h=>by cases h
 | a :: s,b :: t,h=>by
  rw [lexK] at h ⊢
  by_cases e:a=b
  ·rw [if_pos e] at h;rw [if_pos e.symm];exact pB h
  ·rw [if_neg e] at h;rw [if_neg (Ne.symm e)];exact rF h
theorem rH:∀ {s t:List M},s≠t->lexK s t=true∨lexK t s=true
 | [],[],n=>absurd rfl n
 | [],_ :: _,_=>.inl rfl
 | _ :: _,[],_=>.inr rfl
 | a :: s,b :: t,n=>by
  rw [lexK,lexK]
  by_cases e:a=b
  ·rw [if_pos e,if_pos e.symm];exact rH fun z=>n (by rw [e,z])
  ·rw [if_neg e,if_neg (Ne.symm e)];exact pA e
noncomputable def sortS (x:Str):Nat:=if x.cps.toList[0]?=some 63 then 0 else 1
mutual
noncomputable def key:D->List M
 | .str x=>[(sortS x,x,0)]
 | .tup (.str n :: ds)=>(2,n,ds.length + 1) :: keys ds
 | _=>[]
noncomputable def keys:List D->List M
 | []=>[]
 | d :: ds=>key d ++ keys ds
end
mutual
/-- texts and tuples whose first is a text -/
noncomputable def Fl:D->Prop
 | .str x=>1<=x.cps.toList.length/\x.cps.toList.length<=20
 | .tup (.str _ :: ds)=>Fls ds
 | _=>False
noncomputable def Fls:List D->Prop
 | []=>True
 | d :: ds=>Fl d/\Fls ds
end
noncomputable def sortD:D->Nat
 | .str x=>sortS x
 | _=>2
mutual
/-- part by part -/
noncomputable def ah:D->D->Bool
 | .str x,.str y=>if sortS x=sortS y then sL x y else decide (sortS x < sortS y)
 | .tup (.str n :: ds),.tup (.str m :: es)=>if n=m then (if ds.length=es.length then ahs ds es else decide (ds.length < es.length)) else sL n m
 | d,e=>decide (sortD d < sortD e)
noncomputable def ahs:List D->List D->Bool
 | d :: ds,e :: es=>if eqD d e=true then ahs ds es else ah d e
 | _,_=>false
end
theorem nG (x:Str):sortS x < 2:=by unfold sortS;split <;> omega
mutual
theorem wM:∀ (d e:D) (s t:List M),Fl d->Fl e->lexK (key d ++ s) (key e ++ t)=if eqD d e=true then lexK s t else ah d e
 | .str x,.str y,s,t,_,_=>by
  have e1:eqD (.str x) (.str y)=(x == y):=rfl
  show (if ((sortS x,x,0):M)=(sortS y,y,0) then lexK s t else ltM (sortS x,x,0) (sortS y,y,0))=_
  rw [e1]
  by_cases e:x=y
  ·subst e;rw [if_pos rfl,if_pos (by simp)]
  ·rw [if_neg (fun z=>e (by simp at z;exact z.2)),if_neg (by simpa using e),ah]
   unfold ltM
   dsimp only
   by_cases h:sortS x=sortS y
   ·rw [if_pos h,if_neg e,if_pos h]
   ·rw [if_neg h,if_neg h]
 | .str x,.tup (.str m :: es),s,t,_,_=>by
  have e1:eqD (.str x) (.tup (.str m :: es))=false:=rfl
  have:=nG x
  show (if ((sortS x,x,0):M)=(2,m,es.length + 1) then _ else ltM (sortS x,x,0) (2,m,es.length + 1))=_
  rw [e1,if_neg (fun z=>by simp at z),if_neg (by decide),ah]
  ·unfold ltM
   rw [if_neg (by dsimp only;omega)]
   rfl
  all_goals (intros;simp_all)
 | .tup (.str n :: ds),.str y,s,t,_,_=>by
  have e1:eqD (.tup (.str n :: ds)) (.str y)=false:=rfl
  have:=nG y
  show (if ((2,n,ds.length + 1):M)=(sortS y,y,0) then _ else ltM (2,n,ds.length + 1) (sortS y,y,0))=_
  rw [e1,if_neg (fun z=>by simp at z),if_neg (by decide),ah]
  ·unfold ltM
   rw [if_neg (by dsimp only;omega)]
   rfl
  all_goals (intros;simp_all)
 | .tup (.str n :: ds),.tup (.str m :: es),s,t,fd,fe=>by
  have e1:eqD (.tup (.str n :: ds)) (.tup (.str m :: es))=((n == m) && eqDs ds es):=rfl
  show (if ((2,n,ds.length + 1):M)=(2,m,es.length + 1) then lexK (keys ds ++ s) (keys es ++ t) else ltM (2,n,ds.length + 1) (2,m,es.length + 1))=_
  rw [e1,ah]
  by_cases hn:n=m
  ·subst hn
   by_cases hl:ds.length=es.length
   ·rw [if_pos (by rw [hl]),if_pos rfl,if_pos hl,yN ds es s t hl fd fe]
    simp
   ·rw [if_neg (fun z=>hl (by simp at z;omega)),if_pos rfl,if_neg hl]
    have:eqDs ds es=false:=by
     cases h:eqDs ds es with
     | false=>rfl
     | true=>rw [gU] at h;simp at h;exact absurd h.2 hl
    rw [this,if_neg (by simp)]
    unfold ltM
    dsimp only
    rw [if_pos rfl,if_pos rfl]
    simp
  ·rw [if_neg (fun z=>hn (by simp at z;exact z.1)),if_neg (by simp [hn]),if_neg hn]
   unfold ltM
   dsimp only
   rw [if_pos rfl,if_neg hn]
theorem yN:∀ (ds es:List D) (s t:List M),ds.length=es.length->Fls ds->Fls es->lexK (keys ds ++ s) (keys es ++ t)=if eqDs ds es=true then lexK s t else ahs ds es
 | [],[],s,t,_,_,_=>by rw [eqDs,if_pos rfl];rfl
 | d :: ds,e :: es,s,t,hl,⟨f1,f2⟩,⟨g1,g2⟩=>by
  rw [keys,keys,List.append_assoc,List.append_assoc,wM d e _ _ f1 g1,yN ds es s t (by simpa using hl) f2 g2,eqDs,ahs]
  by_cases h:eqD d e=true
  ·rw [if_pos h,if_pos h,h,Bool.true_and]
  ·have h':eqD d e=false:=by simpa using h
   rw [if_neg h,if_neg h,h',Bool.false_and,if_neg (by decide)]
 | [],_ :: _,_,_,h,_,_=>by simp at h
 | _ :: _,[],_,_,h,_,_=>by simp at h
end
theorem rJ {d e:D}(fd:Fl d)(fe:Fl e):lexK (key d) (key e)=(!eqD d e && ah d e):=by
 have:=wM d e [] [] fd fe
 rw [List.append_nil,List.append_nil] at this
 rw [this]
 cases h:eqD d e <;> simp [lexK]
theorem KZ {d e:D}(fd:Fl d)(fe:Fl e)(h:key d=key e):eqD d e=true:=by
 have a:=rJ fd fe
 have b:=wM d e [] [(0,default,0)] fd fe
 rw [List.append_nil,h] at b
 cases q:eqD d e with
 | true=>rfl
 | false =>
  rw [q,if_neg (by decide)] at b
  rw [q,h,nS,← b] at a
  have:∀ (s:List M) (m:M),lexK s (s ++ [m])=true:=by
   intro s m
   induction s with
   | nil=>rfl
   | cons a s ih=>rw [List.cons_append,lexK,if_pos rfl,ih]
  rw [this] at a
  cases a
section
variable {P:Program}{w:World}{K:PySem.W.Frag}{mg:gA}{base:Heap}
theorem wO {H:Hp}{a:Addr}{xs:List V}(h:H a=some (.tup xs)):isV H (.ref a) (.ty "tuple")=some true:=by unfold isV tyN;simp only [h];rfl
noncomputable def qU:Sp:=fun vs H Q _=>∃ (d:D) (v:V),vs=[v]/\bB H d v/\Fl d/\Q (.int (sortD d)) H
theorem KG {f:Addr}{fd:FuncData}(F:gY K "_law_sort" "_law_sort" eL f fd)(T:iH mg):bR P w K mg base bC 1 f fd lC qU:=by
 refine F.ok vP (fun vs H Q E h=>?_) (fun cdv A outer s H vs Q E hr h=>?_)
 ·obtain ⟨d,v,rfl,_⟩:=h
  rfl
 ·obtain ⟨d,v,rfl,rep,fl,q⟩:=h
  have hu:=hr.units
  refine ⟨_,(aE (bK (aR K rfl (aK aL rfl T.n_isinstance rfl (aA (pv 0) (aA (bH (v:=V.ty "tuple") rfl T.n_tuple rfl rfl) aB))) (fun _=>rfl)) (aH (aP aJ)) aW)
   (aH (aP (bZ pG rfl T.n_int rfl (aA (dH (fG hu) (bN dD (pv 0) aJ (fun _ _=>rfl)) gH (nomark _)) aB))))),?_⟩
  simp only [qA]
  clear hr F T hu
  have keep:=aI q (aI rep fl)
  clear q rep fl
  walk_at "rd"
  obtain ⟨q,rep,fl⟩:=keep
  cases d with
  | str x =>
   cases (show v = .str x from rep)
   obtain ⟨f1,f2⟩:=(show 1<=x.cps.toList.length/\x.cps.toList.length<=20 from by unfold Fl at fl;exact fl)
   obtain ⟨c,hc⟩:∃ c,x.cps.toList[0]?=some c:=⟨_,List.getElem?_eq_getElem (by omega)⟩
   refine ⟨false,rfl,?_⟩
   rw [if_neg (by decide)]
   refine ⟨.str ⟨#[c]⟩,?_,?_⟩
   ·show (if x.length<=sizeLine then (atI x.cps.toList 0).map fun c=>V.str ⟨#[c]⟩ else none)=_
    rw [if_pos (Nat.le_trans (m:=20) (by simpa [Str.length] using f2) (by decide)),kU (by decide) (by omega),show (0:Int).toNat=0 from rfl,hc]
    rfl
   ·rw [rNeD_ss]
    refine ⟨_,rfl,?_⟩
    have e:(if (!decide ((⟨#[c]⟩:Str)=Str.ofString "?"))=true then (1:Int) else 0)=((sortD (.str x):Nat):Int):=by
     show _=((sortS x:Nat):Int)
     unfold sortS
     rw [hc]
     have e2:Str.ofString "?" = ⟨#[63]⟩:=by decide +kernel
     by_cases z:c=63
     ·subst z;rw [e2];simp
     ·have:¬ ((⟨#[c]⟩:Str)=Str.ofString "?"):=fun w=>by rw [e2] at w;simp at w;exact z w
      simp [this,z]
    rw [e];exact q
  | tup ds =>
   obtain ⟨a,vs,rfl,ha,_⟩:=rep
   refine ⟨true,?_,?_⟩
   ·exact wO ha
   ·rw [if_pos rfl];exact q
  | _=>unfold Fl at fl;exact absurd fl id
noncomputable def iQ (n:Nat):Sp:=fun vs H Q _=>∃ (d e:D) (v u:V),vs=[v,u]/\bB H d v/\bB H e u/\Fl d/\Fl e/\depD d<=n/\depD d<=50/\∀ H',aG H H'->Q (.bl (ah d e)) H'
theorem EF {g:TG}{tb:TS}{D:jQ}{σ:St}{H:Hp}{a b:Addr}(xs ys:List V)(Pv:Nat->St->Hp->Prop)(h0:Pv 0 σ H)(hl:∀ i σ H,i<=min xs.length ys.length->Pv i σ H->eG H a xs/\eG H b ys)
  (hs:∀ i x y T σ H,xs[i]?=some x->ys[i]?=some y->Pv i σ H->H T=none->g (.ref T) σ (upd H T (.tup [x,y])) fun σ2 H2=>tb { D with nx:=Pv (i + 1),ct:=Pv (i + 1),bk:=D.nx } σ2 H2)
  (hd:∀ σ H,Pv (min xs.length ys.length) σ H->D.nx σ H):zF (N3 a b) g tb D σ H:=by
 refine ⟨fun i m σ H=>m=min xs.length ys.length - i/\i<=min xs.length ys.length/\Pv i σ H,⟨min xs.length ys.length,by simp,Nat.zero_le _,h0⟩,?_⟩
 rintro i m σ H ⟨rfl,hi,p⟩
 obtain ⟨e1,e2⟩:=hl i σ H hi p
 by_cases hlt:i < min xs.length ys.length
 ·have l1:i < xs.length:=Nat.lt_of_lt_of_le hlt (Nat.min_le_left _ _)
  have l2:i < ys.length:=Nat.lt_of_lt_of_le hlt (Nat.min_le_right _ _)
  refine .inr ⟨⟨xs,ys,xs[i],ys[i],e1,e2,by simp [l1],by simp [l2]⟩,Pv (i + 1),fun σ' H' q=>⟨min xs.length ys.length - (i + 1),by omega,rfl,hlt,q⟩,fun z H' y=>?_⟩
  obtain ⟨T,x,y,rfl,hT,rfl,q⟩:=y
  obtain ⟨q1,q2⟩:=q xs ys e1 e2
  exact hs i x y T σ H q1 q2 p hT
 ·have e:i=min xs.length ys.length:=by omega
  subst e
  exact .inl ⟨⟨xs,ys,e1,e2,by omega⟩,hd σ H p⟩
theorem Reps.get {H:Hp}:∀ {ds:List D} {vs:List V} {i:Nat} {v:V},Reps H ds vs->vs[i]?=some v->∃ d,ds[i]?=some d/\bB H d v
 | [],_,_,_,e,h=>by cases e;simp at h
 | d :: _,_,0,_,⟨x,r,e,a,b⟩,h=>by subst e;simp at h;subst h;exact ⟨d,rfl,a⟩
 | _ :: _,_,i + 1,_,⟨x,r,e,a,b⟩,h=>by subst e;simp at h;obtain ⟨d,h1,h2⟩:=Reps.get b h;exact ⟨d,by simpa using h1,h2⟩
theorem Fls.get:∀ {ds:List D} {i:Nat} {d:D},Fls ds->ds[i]?=some d->Fl d
 | [],_,_,_,z=>by simp at z
 | _ :: _,0,_,⟨a,_⟩,h=>by simp at h;subst h;exact a
 | _ :: _,i + 1,_,⟨_,b⟩,h=>Fls.get b (by simpa using h)
theorem gW:∀ {ds:List D} {i:Nat} {d:D},ds[i]?=some d->depD d<=depDs ds
 | [],_,_,h=>by simp at h
 | e :: ds,0,_,h=>by simp at h;subst h;rw [depDs];omega
 | e :: ds,i + 1,_,h=>by have:=gW (ds:=ds) (i:=i) (by simpa using h);rw [depDs];omega
theorem yU {α:Type}{l:List α}{i:Nat}{x:α}(h:l[i]?=some x):l.drop i=x :: l.drop (i + 1):=by
 have ⟨hi,e⟩:=List.getElem?_eq_some_iff.mp h
 rw [List.drop_eq_getElem_cons hi,e]
noncomputable def ZI (va ua:Addr)(ds es:List D)(H:Hp)(i:Nat)(σ:St)(H1:Hp):Prop:=∃ o2 o3:Option V,σ=[some (.ref va),some (.ref ua),o2,o3]/\aG H H1/\ahs ds es=ahs (ds.drop i) (es.drop i)
theorem jB {d:D}(h:Fl d):(∃ x,d = .str x/\1<=x.cps.toList.length/\x.cps.toList.length<=20)∨∃ n ds,d = .tup (.str n :: ds)/\Fls ds:=by
 unfold Fl at h
 split at h
 ·exact .inl ⟨_,rfl,h⟩
 ·exact .inr ⟨_,_,rfl,h⟩
 ·exact absurd h id
theorem LG {d e:D}(hd:Fl d)(he:Fl e)(n:sortD d≠sortD e):ah d e=decide (sortD d < sortD e):=by
 rcases jB hd with ⟨x,rfl,_⟩ | ⟨a,ds,rfl,_⟩ <;> rcases jB he with ⟨y,rfl,_⟩ | ⟨b,es,rfl,_⟩
 ·rw [ah];exact if_neg n
 ·rw [ah]
  all_goals (intros;simp_all)
 ·rw [ah]
  all_goals (intros;simp_all)
 ·exact absurd rfl n
theorem GZ {f:Addr}{fd:FuncData}(n:Nat)(F:gY K "_law_ahead" "_law_ahead" cV f fd)(T:iH mg)(O__law_sort:cH P w K mg base bC 1 "_law_sort" qU)
  (O__law_ahead:cH P w K mg base bC (n + 1) "_law_ahead" (fun vs H Q E=>∃ m,m < n/\iQ m vs H Q E)):bR P w K mg base bC (n + 2) f fd eW (iQ n):=by
 refine F.ok lY (fun vs H Q E h=>?_) (fun cdv A outer s H vs Q E hr h=>?_)
 ·obtain ⟨d,e,v,u,rfl,_⟩:=h
  rfl
 ·obtain ⟨d,e,v,u,rfl,r1,r2,f1,f2,dn,d50,q⟩:=h
  have hu:=hr.units
  refine ⟨_,(aE (bK (a0 (fG hu) (aM O__law_sort (hr.mono (by omega)) pass0 rfl (aA (pv 0) aB)) (aM O__law_sort (hr.mono (by omega)) pass0 rfl (aA (pv 1) aB)) (nomark _)) (aH (aP (dH (i5 hu) (aM O__law_sort (hr.mono (by omega)) pass0 rfl (aA (pv 0) aB)) (aM O__law_sort (hr.mono (by omega)) pass0 rfl (aA (pv 1) aB)) (nomark _)))) aW)
   (aE (bK (cL (aR K rfl (aK aL rfl T.n_isinstance rfl (aA (pv 0) (aA (bH (v:=V.ty "tuple") rfl T.n_tuple rfl rfl) aB))) (fun _=>rfl))) (aH (aP (dH (i5 hu) (pv 0) (pv 1) (nomark _)))) aW)
   (aE (bK (a0 (fG hu) (bN dD (pv 0) aJ (fun _ _=>rfl)) (bN dD (pv 1) aJ (fun _ _=>rfl)) (nomark _)) (aH (aP (dH (i5 hu) (bN dD (pv 0) aJ (fun _ _=>rfl)) (bN dD (pv 1) aJ (fun _ _=>rfl)) (nomark _)))) aW)
   (aE (bK (a0 (fG hu) (aK bD rfl T.n_len rfl (aA (pv 0) aB)) (aK bD rfl T.n_len rfl (aA (pv 1) aB)) (nomark _)) (aH (aP (dH (i5 hu) (aK bD rfl T.n_len rfl (aA (pv 0) aB)) (aK bD rfl T.n_len rfl (aA (pv 1) aB)) (nomark _)))) aW)
   (aE (eY PassesOwn.never rfl (JS rfl T.n_zip (aA (eN jU (pv 0) (d8 aJ) eU) (aA (eN jU (pv 1) (d8 aJ) eU) aB))) (dR K rfl (i:=2) (j:=3) rfl lY.nd rfl rfl rfl rfl) (aH (bK (a0 (fG hu) (pv 2) (pv 3) (nomark _)) (aH (aP (aM O__law_ahead (hr.mono (by omega)) pass0 rfl (aA (pv 2) (aA (pv 3) aB))))) aW)))
   (aH (aP mB))))))),?_⟩
  simp only [oC]
  clear hr F T hu O__law_sort O__law_ahead
  have keep:=aI q (aI r1 (aI r2 (aI f1 (aI f2 (aI dn d50)))))
  clear q r1 r2 f1 f2 dn d50
  walk_at "rd"
  obtain ⟨q,r1,r2,f1,f2,dn,d50⟩:=keep
  refine ⟨d,v,rfl,r1,f1,e,u,rfl,r2,f2,?_⟩
  dsimp only
  rw [rNeD_ii]
  refine ⟨_,rfl,?_⟩
  by_cases hs:sortD d=sortD e
  ·rw [hs,if_neg (by simp)]
   rcases jB f1 with ⟨x,rfl,_⟩ | ⟨a,ds,rfl,fds⟩
   ·obtain ⟨y,rfl,_⟩:∃ y,e = .str y/\True:=by
     rcases jB f2 with ⟨y,rfl,_⟩ | ⟨b,es,rfl,_⟩
     ·exact ⟨y,rfl,trivial⟩
     ·have:=nG x;have:sortS x=2:=hs;omega
    cases (show v = .str x from r1)
    cases (show u = .str y from r2)
    refine ⟨false,rfl,?_⟩
    rw [if_pos rfl]
    refine .inl (.inr ⟨x,rfl,y,rfl,?_⟩)
    have e1:ah (.str x) (.str y)=sL x y:=by rw [ah];exact if_pos hs
    have:=q H (fun _ _ h=>h)
    rw [e1] at this
    exact this
   ·obtain ⟨b,es,rfl,fes⟩:∃ b es,e = .tup (.str b :: es)/\Fls es:=by
     rcases jB f2 with ⟨y,rfl,_⟩ | h
     ·have:=nG y;have:2=sortS y:=hs;omega
     ·exact h
    obtain ⟨va,vs,rfl,ha,_,vs',rfl,h1,rds⟩:=r1
    obtain ⟨ua,us,rfl,hb,_,us',rfl,h2,res⟩:=r2
    cases h1
    cases h2
    refine ⟨true,wO ha,?_⟩
    rw [if_neg (by decide)]
    refine ⟨.str a,by rw [ixV_t ha,atI_zero],.str b,by rw [ixV_t hb,atI_zero],?_⟩
    rw [rNeD_ss]
    refine ⟨_,rfl,?_⟩
    by_cases hn:a=b
    ·subst hn
     rw [if_neg (by simp)]
     refine ⟨_,by rw [lenV_t ha];rfl,_,by rw [lenV_t hb];rfl,?_⟩
     rw [rNeD_ii]
     refine ⟨_,rfl,?_⟩
     have la:=Reps.len rds
     have lb:=Reps.len res
     by_cases hl:ds.length=es.length
     ·rw [if_neg (by simp only [List.length_cons,la,lb,hl];simp)]
      have cut1:∀ (x:V) (l:List V),cutV (x :: l) (some 1) none=l:=fun x l=>rW (x :: l) 1
      have nf:∀ (x:V) (l:List V),¬ (HT.sIx (x :: l).length 0 (some 1)=0/\HT.sIx (x :: l).length (x :: l).length none=(x :: l).length):=fun x l h=>by
       have e:=h.1
       rw [show ((1:Int))=((1:Nat):Int) from rfl,HT.sIx_nat] at e
       simp only [List.length_cons] at e
       omega
      refine ⟨va,rfl,_,.inr ha,fun _=>nf _ _,fun c o hc ho=>⟨ua,rfl,_,.inr (by rw [aC (aD hb hc)];exact hb),fun _=>nf _ _,fun c2 o2 hc2 ho2=>⟨c,c2,⟨rfl,rfl⟩,?_⟩⟩⟩
      have hb':upd H c o ua=some (.tup (.str a :: us')):=by rw [aC (aD hb hc)];exact hb
      have eo:o = .tup vs':=by
       rcases ho with ⟨_,z⟩ | ⟨z,_⟩
       ·rw [ha] at z;cases z
       ·rw [z,cut1]
      have eo2:o2 = .tup us':=by
       rcases ho2 with ⟨_,z⟩ | ⟨z,_⟩
       ·rw [hb'] at z;cases z
       ·rw [z,cut1]
      subst eo eo2
      have s2:aG H (upd (upd H c (.tup vs')) c2 (.tup us')):=(aG.upd hc).trans (aG.upd hc2)
      have g1:upd (upd H c (.tup vs')) c2 (.tup us') c=some (.tup vs'):=by rw [aC (aD upd_same hc2)];exact upd_same
      have g2:upd (upd H c (.tup vs')) c2 (.tup us') c2=some (.tup us'):=upd_same
      generalize upd (upd H c (.tup vs')) c2 (.tup us')=H2 at s2 g1 g2 ⊢
      have e1:ah (.tup (.str a :: ds)) (.tup (.str a :: es))=ahs ds es:=by rw [ah,if_pos rfl,if_pos hl]
      rw [e1] at q
      have dd:depDs ds + 1<=n/\depDs ds + 1<=50:=by
       rw [depD,depDs,show depD (.str a)=0 from rfl] at dn d50
       omega
      refine ⟨⟨_,.inr g1⟩,⟨_,.inr g2⟩,EF vs' us' (ZI va ua ds es H2) ⟨none,none,rfl,fun _ _ h=>h,by simp⟩ (fun i σ H3 _ ⟨_,_,_,s3,_⟩=>⟨.inr (s3 _ _ g1),.inr (s3 _ _ g2)⟩) ?_ ?_⟩
      ·rintro i x y T σ H3 hx hy ⟨o2,o3,rfl,s3,he⟩ hT
       have s4:=(s2.trans s3).trans (aG.upd (o:=.tup [x,y]) hT)
       obtain ⟨di,hdi,rdi⟩:=Reps.get (Reps.same s4 rds) hx
       obtain ⟨ei,hei,rei⟩:=Reps.get (Reps.same s4 res) hy
       have ddi:=gW hdi
       refine ⟨T,_,rfl,h8.of upd_same,rfl,_,_,rfl,_,_,rfl,rfl,_,rfl,_,rfl,di,ei,rdi,rei,by omega,_,rfl,?_⟩
       rw [yU hdi,yU hei,ahs] at he
       by_cases z:eqD di ei=true
       ·rw [z,if_neg (by decide)]
        rw [if_pos z] at he
        exact ⟨_,_,rfl,s3.trans (aG.upd hT),he⟩
       ·have z':eqD di ei=false:=by simpa using z
        rw [z',if_pos (by decide)]
        rw [if_neg z] at he
        refine ⟨_,rfl,_,rfl,n - 1,by omega,di,ei,x,y,rfl,rdi,rei,fds.get hdi,fes.get hei,by omega,by omega,fun H5 s5=>?_⟩
        have:=q H5 (s4.trans s5)
        rw [he] at this
        exact this
      ·rintro σ H3 ⟨o2,o3,rfl,s3,he⟩
       have:ahs ds es=false:=by
        rw [he,List.drop_eq_nil_of_le (by rw [la,lb,hl];simp)]
        rfl
       rw [this] at q
       exact q H3 (s2.trans s3)
     ·rw [if_pos (by simp only [List.length_cons,la,lb];simp;omega)]
      refine ⟨_,by rw [lenV_t ha];rfl,_,by rw [lenV_t hb];rfl,.inl (.inl ⟨_,rfl,_,rfl,?_⟩)⟩
      have e1:ah (.tup (.str a :: ds)) (.tup (.str a :: es))=decide (ds.length < es.length):=by rw [ah,if_pos rfl,if_neg hl]
      have:=q H (fun _ _ h=>h)
      rw [e1] at this
      simp only [List.length_cons,la,lb]
      have e2:(decide (((ds.length + 1:Nat):Int) < ((es.length + 1:Nat):Int)))=decide (ds.length < es.length):=by
       by_cases z:ds.length < es.length
       ·rw [decide_eq_true z,decide_eq_true (by omega)]
       ·rw [decide_eq_false z,decide_eq_false (by omega)]
      rw [e2];exact this
    ·rw [if_pos (by simpa using hn)]
     refine ⟨.str a,by rw [ixV_t ha,atI_zero],.str b,by rw [ixV_t hb,atI_zero],.inl (.inr ⟨a,rfl,b,rfl,?_⟩)⟩
     have e1:ah (.tup (.str a :: ds)) (.tup (.str b :: es))=sL a b:=by rw [ah,if_neg hn]
     have:=q H (fun _ _ h=>h)
     rw [e1] at this
     exact this
  ·rw [if_pos (by simp;omega)]
   refine ⟨d,v,rfl,r1,f1,e,u,rfl,r2,f2,.inl (.inl ⟨_,rfl,_,rfl,?_⟩)⟩
   have:=q H (fun _ _ h=>h)
   rw [LG f1 f2 hs] at this
   have e2:(decide (((sortD d:Nat):Int) < ((sortD e:Nat):Int)))=decide (sortD d < sortD e):=by
    by_cases z:sortD d < sortD e
    ·rw [decide_eq_true z,decide_eq_true (by omega)]
    ·rw [decide_eq_false z,decide_eq_false (by omega)]
   rw [e2];exact this
theorem HN {f:Addr}{fd:FuncData}(F:gY K "_law_ahead" "_law_ahead" cV f fd)(T:iH mg)(O__law_sort:cH P w K mg base bC 1 "_law_sort" qU)
  (hm:mg "_law_ahead" = some (.ref f)) (hk:PySem.W.keepIn K (.ref f)=true) (hb:eX K fd eW []):∀ n,bR P w K mg base bC (n + 2) f fd eW (iQ n):=by
 intro n
 induction n using Nat.strongRecOn with
 | ind n ih =>
  exact GZ n F T O__law_sort ⟨f,fd,_,⟨fun vs H Q E ⟨m,h1,h⟩=>(ih m h1).len vs H Q E h,fun A outer s H args us vs Q E hr he hb hv ⟨m,h1,h⟩=>((ih m h1).mono (by omega)).run A outer s H args us vs Q E hr he hb hv h⟩,hm,hk,hb⟩
theorem DR {f:Addr}{fd:FuncData}(F:gY K "_law_ahead" "_law_ahead" cV f fd)(T:iH mg)(O__law_sort:cH P w K mg base bC 1 "_law_sort" qU)
  (hm:mg "_law_ahead" = some (.ref f)) (hk:PySem.W.keepIn K (.ref f)=true) (hb:eX K fd eW []) (n:Nat):cH P w K mg base bC (n + 2) "_law_ahead" (iQ n):=⟨f,fd,_,HN F T O__law_sort hm hk hb n,hm,hk,hb⟩
end
section
variable {P:Program}{w:World}{K:PySem.W.Frag}{mg:gA}{base:Heap}
noncomputable def opn1 (n z:Str)(d:D):List D:=match d with
 | .tup (.str m :: es)=>if m=n then es else [d]
 | d=>if eqD d (.str z)=true then [] else [d]
noncomputable def opn (n z:Str)(ds:List D):List D:=ds.flatMap (opn1 n z)
theorem gR (n z:Str)(ds:List D)(d:D):opn n z (ds ++ [d])=opn n z ds ++ opn1 n z d:=by simp [opn]
theorem Reps.app {H:Hp}:∀ {ds es:List D} {vs us:List V},Reps H ds vs->Reps H es us->Reps H (ds ++ es) (vs ++ us)
 | [],_,_,_,h,k=>by cases h;exact k
 | _ :: _,_,_,_,⟨x,r,e,a,b⟩,k=>by subst e;exact ⟨x,_,rfl,a,Reps.app b k⟩
noncomputable def kG:Sp:=fun vs H Q _=>∃ (n z:Str) (a:Addr) (ds:List D) (ws:List V),vs=[.str n,.str z,.ref a]/\H a=some (.lst ws)/\Reps H ds ws/\Fls ds/\(∀ i,(opn n z (ds.take i)).length<=100)/\depDs ds<=50 /\
 ∀ (l:Addr) (us:List V) (H':Hp),aG H H'->H l=none->H' l=some (.lst us)->Reps H (opn n z ds) us->Q (.ref l) H'
noncomputable def OI (n z:Str)(a:Addr)(ds:List D)(H:Hp)(i:Nat)(σ:St)(H1:Hp):Prop:=∃ (o4:Option V) (l:Addr) (us:List V),σ=[some (.str n),some (.str z),some (.ref a),some (.ref l),o4]/\aG H H1/\H l=none/\H1 l=some (.lst us)/\Reps H (opn n z (ds.take i)) us
theorem DV {f:Addr}{fd:FuncData}(F:gY K "_law_opened" "_law_opened" dL f fd)(T:iH mg):bR P w K mg base bC 1 f fd jG kG:=by
 refine F.ok fS (fun vs H Q E h=>?_) (fun cdv A outer s H vs Q E hr h=>?_)
 ·obtain ⟨n,z,a,ds,ws,rfl,_⟩:=h
  rfl
 ·obtain ⟨n,z,a,ds,ws,rfl,ha,rds,fl,hlen,dep,q⟩:=h
  have hu:=hr.units
  refine ⟨_,(aE (aZ (i:=3) fS.nd rfl (Or.inl rfl) (cM aB))
   (aE (eY PassesOwn.never rfl (cX K rfl (pv 2)) (bJ (i:=4) fS.nd rfl (Or.inl rfl)) (aH (bK (PW.pt (oV (aR K rfl (aK aL rfl T.n_isinstance rfl (aA (pv 4) (aA (bH (v:=V.ty "tuple") rfl T.n_tuple rfl rfl) aB))) (fun _=>rfl)) (lK (a0 (eF hu) (bN dD (pv 4) aJ (fun _ _=>rfl)) (pv 0) (nomark _))))) (aH (aZ (i:=3) fS.nd rfl (Or.inl rfl) (bO bV (pv 3) (bZ rX rfl T.n_list rfl (aA (eN jU (pv 4) (d8 aJ) eU) aB))))) (aH (bK (a0 (fG hu) (pv 4) (pv 1) (nomark _)) (aH (cW (iW PySem.F.plainAttrs_list PySem.F.slot_list_append PySem.F.type_list_append eV (pv 3) (aA (pv 4) aB)))) aW)))))
   (aH (aP (pv 3))))),?_⟩
  simp only [mG]
  clear hr F T hu
  have keep:=aI q (aI rds (aI fl (aI hlen dep)))
  clear q rds fl hlen dep
  walk_at "rd"
  obtain ⟨q,rds,fl,hlen,dep⟩:=keep
  refine ⟨Nat.zero_le _,fun l hl=>⟨ws,.inl (by rw [aC (aD ha hl)];exact ha),fun J hJ=>?_⟩⟩
  have la:=Reps.len rds
  refine iY hJ (OI n z a ds H) ⟨none,l,[],rfl,aG.upd hl,hl,upd_same,rfl⟩ (by rintro i σ H' _ ⟨_,_,_,_,s1,_⟩;rw [s1 _ _ ha,aC (aD ha hl),ha]) ?_ ?_
  ·rintro i x σ H1 hx ⟨o4,l,us,rfl,s1,nl,hl1,rus⟩
   obtain ⟨d,hd,rd⟩:=Reps.get rds hx
   have fd:=fl.get hd
   have key:=hlen (i + 1)
   rw [aV hd,gR,List.length_append] at key
   have lu:=Reps.len rus
   have app:∀ H2,aG H1 H2->H2 l=some (.lst us)->(opn1 n z d=[d])->OI n z a ds H (i + 1) [some (.str n),some (.str z),some (.ref a),some (.ref l),some x] (upd H2 l (.lst (us ++ [x]))):=fun H2 s2 hl2 e1=>by
    refine ⟨_,l,us ++ [x],rfl,fun b o e=>?_,nl,upd_same,by rw [aV hd,gR,e1];exact Reps.app rus ⟨x,[],rfl,rd,rfl⟩⟩
    rw [aC (fun w=>by rw [w,nl] at e;cases e)]
    exact s2 _ _ (s1 _ _ e)
   have keep:=aI s1 (aI nl (aI rus (aI rd (aI fd (aI key (aI app (aI lu (aI rds (aI fl (aI hlen (aI q (aI hd hx))))))))))))
   clear s1 nl rus rd fd key app lu rds fl hlen q hd hx la hJ
   walk_at "rd"
   obtain ⟨s1,nl,rus,rd,fd,key,app,lu,rds,fl,hlen,q,hd,hx⟩:=keep
   have rd1:=bB.same s1 rd
   have ddi:=gW hd
   rcases jB fd with ⟨y,rfl,_⟩ | ⟨m,es,rfl,fes⟩
   ·cases (show x = .str y from rd)
    refine ⟨false,rfl,?_⟩
    rw [if_neg (by decide),rNeD_ss]
    refine ⟨_,rfl,?_⟩
    by_cases e:y=z
    ·rw [if_neg (by simpa using e)]
     have e1:opn1 n z (.str y)=[]:=show (if eqD (.str y) (.str z)=true then [] else [D.str y])=[] from if_pos (by show (y == z)=true;simpa using e)
     exact ⟨_,l,us,rfl,s1,nl,hl1,by rw [aV hd,gR,e1,List.append_nil];exact rus⟩
    ·rw [if_pos (by simpa using e)]
     have e1:opn1 n z (.str y)=[.str y]:=show (if eqD (.str y) (.str z)=true then [] else [D.str y])=[.str y] from if_neg (by show ¬ (y == z)=true;simpa using e)
     exact ⟨tyL hl1,us,hl1,Nat.lt_of_le_of_lt (m:=100) (by omega) (by decide),app H1 (fun _ _ h=>h) hl1 e1⟩
   ·obtain ⟨va,vs,rfl,hva,_,vs',rfl,h1,res⟩:=rd1
    cases h1
    refine ⟨true,wO hva,?_⟩
    rw [if_pos rfl]
    refine ⟨.str m,by rw [ixV_t hva,atI_zero],?_⟩
    rw [rEqD_ss]
    refine ⟨_,rfl,?_⟩
    by_cases e:m=n
    ·rw [if_pos (by simpa using e)]
     have e1:opn1 n z (.tup (.str m :: es))=es:=by unfold opn1;exact if_pos e
     rw [e1] at key
     have cut1:∀ (x:V) (l:List V),cutV (x :: l) (some 1) none=l:=fun x l=>rW (x :: l) 1
     have nf:¬ (HT.sIx (V.str m :: vs').length 0 (some 1)=0/\HT.sIx (V.str m :: vs').length (V.str m :: vs').length none=(V.str m :: vs').length):=fun h=>by
      have e:=h.1
      rw [show ((1:Int))=((1:Nat):Int) from rfl,HT.sIx_nat] at e
      simp only [List.length_cons] at e
      omega
     refine ⟨va,rfl,_,.inr hva,fun _=>nf,fun c o hc ho=>?_⟩
     have eo:o = .tup vs':=by
      rcases ho with ⟨_,w⟩ | ⟨w,_⟩
      ·rw [hva] at w;cases w
      ·rw [w,cut1]
     subst eo
     refine ⟨vs',by rw [seqV_t upd_same],fun c2 hc2=>?_⟩
     have s2:aG H1 (upd (upd H1 c (.tup vs')) c2 (.lst vs')):=(aG.upd hc).trans (aG.upd hc2)
     have g2:upd (upd H1 c (.tup vs')) c2 (.lst vs') c2=some (.lst vs'):=upd_same
     generalize upd (upd H1 c (.tup vs')) c2 (.lst vs')=H2 at s2 g2 ⊢
     have lv:=Reps.len res
     refine ⟨.lst (us ++ vs'),?_,fun c3 hc3=>⟨_,c3,us ++ vs',rfl,(s1.trans s2).trans (aG.upd hc3),?_,upd_same,?_⟩⟩
     ·simp only [catO,s2 _ _ hl1,g2]
      exact if_pos (Nat.le_trans (m:=100) (by omega) (by decide))
     ·cases e:H c3 with
      | none=>rfl
      | some w=>have:=(s1.trans s2) _ _ e;rw [hc3] at this;cases this
     ·rw [aV hd,gR,e1]
      obtain ⟨va',vs2,e2,hva',v0,vs3,e3,e4,res'⟩:=rd
      cases e2
      rw [s1 _ _ hva'] at hva
      cases hva
      cases e3
      exact Reps.app rus res'
    ·rw [if_neg (by simpa using e)]
     have e1:opn1 n z (.tup (.str m :: es))=[.tup (.str m :: es)]:=by unfold opn1;exact if_neg e
     refine ⟨.tup (.str m :: es),.str z,⟨va,_,rfl,hva,_,_,rfl,rfl,res⟩,rfl,by omega,_,rfl,?_⟩
     rw [if_pos (by rfl)]
     exact ⟨tyL hl1,us,hl1,Nat.lt_of_le_of_lt (m:=100) (by omega) (by decide),app H1 (fun _ _ h=>h) hl1 e1⟩
  ·rintro σ H1 ⟨o4,l,us,rfl,s1,nl,hl1,rus⟩
   rw [la,List.take_length] at rus
   exact ⟨_,rfl,q l us H1 s1 nl hl1 rus⟩
end
section
variable {P:Program}{w:World}{K:PySem.W.Frag}{mg:gA}{base:Heap}
theorem IsTms.get {fx:cQ}{sm:bY}{os:aQ}:∀ {ds:List D} {i:Nat} {d:D},IsTms fx sm os ds->ds[i]?=some d->bM fx sm os d
 | [],_,_,_,z=>by simp at z
 | _ :: _,0,_,⟨a,_⟩,h=>by simp at h;subst h;exact a
 | _ :: _,i + 1,_,⟨_,b⟩,h=>IsTms.get b (by simpa using h)
theorem u7 {fx:cQ}{sm:bY}{os:aQ}{d:D}(h:bM fx sm os d):(∃ x,d = .str x/\(x ∈ os∨x ∈ zeros fx))∨∃ n ds,(d = .tup (.str n :: ds)∨d = .lst (.str n :: ds))/\E4 fx sm n ds.length/\IsTms fx sm os ds:=by
 unfold bM at h
 split at h
 ·exact .inl ⟨_,rfl,h⟩
 ·exact .inr ⟨_,_,.inl rfl,h⟩
 ·exact .inr ⟨_,_,.inr rfl,h⟩
 ·exact absurd h id
theorem pD {fx:cQ}{sm:bY}{n:Str}{k:Nat}(h:E4 fx sm n k):1<=k:=by rcases h with ⟨h,_⟩ | ⟨h,_⟩ <;> omega
theorem i9 {H:Hp}{a:Addr}{xs:List V}(h:H a=some (.tup xs)):isV H (.ref a) (.ty "str")=some false:=by unfold isV tyN;simp only [h];rfl
theorem kP {H:Hp}{a:Addr}{xs:List V}(h:H a=some (.lst xs)):isV H (.ref a) (.ty "str")=some false:=by unfold isV tyN;simp only [h];rfl
theorem wF:∀ {ds:List D} {i:Nat} {d:D},ds[i]?=some d->lvs d<=lvss ds
 | [],_,_,h=>by simp at h
 | e :: ds,0,_,h=>by simp at h;subst h;rw [lvss];omega
 | e :: ds,i + 1,_,h=>by have:=wF (ds:=ds) (i:=i) (by simpa using h);rw [lvss];omega
mutual
theorem zM {fx:cQ}{sm:bY}{os:aQ}:∀ {d:D},bM fx sm os d->1<=lvs d
 | .str x,_=>by rw [lvs] <;> simp
 | .tup (.str n :: ds),h=>by
  unfold bM at h
  have:=m8 h.2
  have:=pD h.1
  rw [lvs];omega
 | .lst (.str n :: ds),h=>by
  unfold bM at h
  have:=m8 h.2
  have:=pD h.1
  rw [lvs];omega
 | .non,h=>by unfold bM at h;exact absurd h id
 | .bl _,h=>by unfold bM at h;exact absurd h id
 | .int _,h=>by unfold bM at h;exact absurd h id
 | .tup [],h=>by unfold bM at h;exact absurd h id
 | .lst [],h=>by unfold bM at h;exact absurd h id
 | .tup (.non :: _),h=>by unfold bM at h;exact absurd h id
 | .tup (.bl _ :: _),h=>by unfold bM at h;exact absurd h id
 | .tup (.int _ :: _),h=>by unfold bM at h;exact absurd h id
 | .tup (.tup _ :: _),h=>by unfold bM at h;exact absurd h id
 | .tup (.lst _ :: _),h=>by unfold bM at h;exact absurd h id
 | .lst (.non :: _),h=>by unfold bM at h;exact absurd h id
 | .lst (.bl _ :: _),h=>by unfold bM at h;exact absurd h id
 | .lst (.int _ :: _),h=>by unfold bM at h;exact absurd h id
 | .lst (.tup _ :: _),h=>by unfold bM at h;exact absurd h id
 | .lst (.lst _ :: _),h=>by unfold bM at h;exact absurd h id
theorem m8 {fx:cQ}{sm:bY}{os:aQ}:∀ {ds:List D},IsTms fx sm os ds->ds.length<=lvss ds
 | [],_=>Nat.zero_le _
 | d :: ds,⟨a,b⟩=>by
  have h1:=zM a
  have h2:=m8 b
  rw [lvss,List.length_cons];omega
end
end
mutual
theorem HW:∀ {d e:D},Fl d->Fl e->eqD d e=true->d=e
 | .str x,.str y,_,_,h=>by
  have h:(x == y)=true:=h
  rw [eq_of_beq h]
 | .tup (.str n :: ds),.tup (.str m :: es),fd,fe,h=>by
  have h:((n == m) && eqDs ds es)=true:=h
  rw [Bool.and_eq_true] at h
  unfold Fl at fd fe
  rw [eq_of_beq h.1,HU fd fe h.2]
 | .str _,.tup (.str _ :: _),_,_,h=>by cases (show false=true from h)
 | .tup (.str _ :: _),.str _,_,_,h=>by cases (show false=true from h)
theorem HU:∀ {ds es:List D},Fls ds->Fls es->eqDs ds es=true->ds=es
 | [],[],_,_,_=>rfl
 | d :: ds,e :: es,⟨a,b⟩,⟨a',b'⟩,h=>by
  rw [eqDs,Bool.and_eq_true] at h
  rw [HW a a' h.1,HU b b' h.2]
 | [],_ :: _,_,_,h=>by cases (show false=true from h)
 | _ :: _,[],_,_,h=>by cases (show false=true from h)
end
theorem NI {d e:D}(fd:Fl d)(fe:Fl e)(h:key d=key e):d=e:=HW fd fe (KZ fd fe h)
noncomputable def leK (d e:D):Prop:=lexK (key e) (key d)=false
theorem G6 {d e:D}(fd:Fl d)(fe:Fl e)(h1:leK d e)(h2:leK e d):d=e:=by
 by_cases k:key d=key e
 ·exact NI fd fe k
 ·rcases rH k with h | h
  ·rw [h2] at h;cases h
  ·rw [h1] at h;cases h
theorem rG:∀ {a b c:List M},lexK a b=false->lexK b c=false->lexK a c=false:=by
 have ltM_trans:∀ {a b c:M},ltM a b=true->ltM b c=true->ltM a c=true:=by
  rintro ⟨a1,a2,a3⟩ ⟨b1,b2,b3⟩ ⟨c1,c2,c3⟩ h k
  unfold ltM at h k ⊢
  dsimp only at h k ⊢
  by_cases e1:a1=b1
  ·subst e1
   rw [if_pos rfl] at h
   by_cases e2:a1=c1
   ·subst e2
    rw [if_pos rfl] at k ⊢
    by_cases f1:a2=b2
    ·subst f1
     rw [if_pos rfl] at h
     by_cases f2:a2=c2
     ·subst f2
      rw [if_pos rfl] at k ⊢
      have:=of_decide_eq_true h;have:=of_decide_eq_true k
      exact decide_eq_true (p:=_) (by omega)
     ·rw [if_neg f2] at k ⊢;exact k
    ·rw [if_neg f1] at h
     by_cases f2:b2=c2
     ·subst f2;rw [if_neg f1];exact h
     ·rw [if_neg f2] at k
      have t:sL a2 c2=true:=decide_eq_true (List.lt_trans (of_decide_eq_true h) (of_decide_eq_true k))
      by_cases f3:a2=c2
      ·subst f3;rw [MM] at t;cases t
      ·rw [if_neg f3];exact t
   ·rw [if_neg e2] at k ⊢;exact k
  ·rw [if_neg e1] at h
   have h:=of_decide_eq_true h
   by_cases e2:b1=c1
   ·subst e2;rw [if_neg e1];exact decide_eq_true h
   ·rw [if_neg e2] at k
    have k:=of_decide_eq_true k
    rw [if_neg (by omega)];exact decide_eq_true (p:=_) (by omega)
 intro a
 induction a with
 | nil =>
  intro b c h k
  cases b with
  | nil=>exact k
  | cons y b=>cases h
 | cons x a ih =>
  intro b c h k
  cases c with
  | nil=>rfl
  | cons z c =>
   cases b with
   | nil=>cases k
   | cons y b =>
    rw [lexK] at h k ⊢
    by_cases e1:x=y
    ·subst e1
     rw [if_pos rfl] at h
     by_cases e2:x=z
     ·rw [if_pos e2] at k ⊢;exact ih h k
     ·rw [if_neg e2] at k ⊢;exact k
    ·rw [if_neg e1] at h
     have hyx:ltM y x=true:=(pA e1).resolve_left (by rw [h];decide)
     by_cases e2:y=z
     ·subst e2;rw [if_neg e1];exact h
     ·rw [if_neg e2] at k
      have hzy:ltM z y=true:=(pA e2).resolve_left (by rw [k];decide)
      have hzx:=ltM_trans hzy hyx
      by_cases e3:x=z
      ·subst e3;have:=rF hzx;rw [hzx] at this;cases this
      ·rw [if_neg e3];exact rF hzx
theorem D8 {a b c:D}(h:leK a b)(k:leK b c):leK a c:=rG k h
theorem qW:∀ {l m:List D},(∀ d ∈ l,Fl d)->l.Perm m->l.Pairwise leK->m.Pairwise leK->l=m
 | [],m,_,p,_,_=>(List.nil_perm.mp p).symm
 | a :: l,[],_,p,_,_=>absurd (List.perm_nil.mp p) (by simp)
 | a :: l,b :: m,f,p,s,t=>by
  have fb:∀ d ∈ b :: m,Fl d:=fun d hd=>f d (p.mem_iff.mpr hd)
  obtain ⟨s1,s2⟩:=List.pairwise_cons.mp s
  obtain ⟨t1,t2⟩:=List.pairwise_cons.mp t
  have e:a=b:=by
   have ha:a ∈ b :: m:=p.mem_iff.mp List.mem_cons_self
   have hb:b ∈ a :: l:=p.mem_iff.mpr List.mem_cons_self
   obtain h | h:=List.mem_cons.mp ha
   ·exact h
   ·obtain k | k:=List.mem_cons.mp hb
    ·exact k.symm
    ·exact G6 (f a List.mem_cons_self) (fb b List.mem_cons_self) (s1 b k) (t1 a h)
  subst e
  rw [qW (fun d hd=>f d (List.mem_cons_of_mem _ hd)) (List.perm_cons a |>.mp p) s2 t2]
noncomputable def insA (d:D):List D->List D
 | []=>[d]
 | e :: l=>if ah d e=true then d :: e :: l else e :: insA d l
theorem lP (d:D):∀ l:List D,(insA d l).Perm (d :: l)
 | []=>.refl _
 | e :: l=>by
  unfold insA
  by_cases h:ah d e=true
  ·rw [if_pos h]
  ·rw [if_neg h];exact ((lP d l).cons e).trans (.swap d e l)
theorem NT {d e:D}(fd:Fl d)(fe:Fl e):ah d e=true->lexK (key d) (key e)=true∨d=e:=fun h=>by
 rw [rJ fd fe,h]
 cases q:eqD d e with
 | false=>exact .inl rfl
 | true=>exact .inr (HW fd fe q)
theorem pU {d:D}(fd:Fl d):∀ {l:List D},(∀ e ∈ l,Fl e)->l.Pairwise leK->(insA d l).Pairwise leK
 | [],_,_=>List.pairwise_singleton _ _
 | e :: l,f,s=>by
  obtain ⟨s1,s2⟩:=List.pairwise_cons.mp s
  have fe:=f e List.mem_cons_self
  unfold insA
  by_cases h:ah d e=true
  ·rw [if_pos h]
   have de:leK d e:=by
    rcases NT fd fe h with q | q
    ·exact pB q
    ·subst q;exact nS _
   refine List.pairwise_cons.mpr ⟨fun x hx=>?_,s⟩
   obtain k | k:=List.mem_cons.mp hx
   ·subst k;exact de
   ·exact D8 de (s1 x k)
  ·rw [if_neg h]
   have ed:leK e d:=by
    have:lexK (key d) (key e)=false:=by rw [rJ fd fe];simp [h]
    exact this
   refine List.pairwise_cons.mpr ⟨fun x hx=>?_,pU fd (fun y hy=>f y (List.mem_cons_of_mem _ hy)) s2⟩
   rcases List.mem_cons.mp ((lP d l).mem_iff.mp hx) with k | k
   ·subst k;exact ed
   ·exact s1 x k
end Lw
namespace L2
open PySem PySem.Spec PyProof.Rows
theorem DC {ks:List (Option Expr)}{vs es:lW}{p:Pos}{env:Env}:starEach (.Dict ks vs p :: es) env=(false,eval (.Dict ks vs p) env) :: starEach es env:=by rw [starEach];exact fun _ _ z=>nomatch z
theorem JZ {X:Cx}{es:lW}{p:Pos}{t:TA}(h:PA X es t):PA X (.Dict [] [] p :: es) (tCons FM t):=aA GF h DC
theorem wD:typeLookup (.type "list") "keys" = pure none:=am_miss_of_fast (by decide +kernel)
theorem wL {P:Program}{w:World}{A:Around}{E:bX}{s:Shared}{a:Addr}{xs:iA}{k:Nat}{sl:Array (Option Value)}{Q:Option Value->Shared->Prop}
  (at_a:s.heap.get? a=some { cls:=.type "list",dict:=none,data:=.seq xs k,slots:=sl }) (calm:A.handled=none)
  (q:∀ h' tk,(∀ b ob,s.heap.get? b=some ob->h'.get? b=some ob)->Q none { s with heap:=h',toks:=tk }) :
  wpAny (model P w) A (getAttr? (.ref a) "keys") Q E s:=by
 rcases s with ⟨hp,gs,dr,tk,os⟩
 have ty:∀ t,(⟨hp,gs,dr,t,os⟩:Shared).TypeIs (.ref a) "list":=fun _=>⟨_,at_a,rfl⟩
 have l1:=F.slot_list_getattribute.lookup
 have l2:=F.slot_list_getattribute.bind (.ref a)
 have l3:=am_list_getattr_none
 have l4:=sub_AttributeError
 rw [getAttr?]
 unfold getAttrBy? getAttrBy
 repeat (any_goals (first | assumption | exact ty _ | ((with_reducible show wpAny _ _ (call (Value.builtin "list.__getattribute__") _ _) _ _ _);refine call_meets F.slot_list_getattribute (ty _) am_entry_list_getattribute (F.args_list_getattribute_2 _ _) (meets_getattribute_miss_list a xs k sl "keys" _ wD (by decide) (by decide)) ⟨at_a,calm,fun h' tk' e n=>?_⟩) | wp_step))
 obtain ⟨x1,x2,x3⟩:=n.there
 dsimp only [wants]
 unfold getattributeRaised
 wp_walk
 exact q _ _ n.keeps
section
variable {P:Program}{w:World}{K:Type}[DecidableEq K]{knd:KeyKind P w K}
noncomputable def w8 (knd:KeyKind P w K)(h:Heap)(d it:Addr)(x:Value)(kv:K×Value):Prop :=
 ∃ (q:Addr) (o:Obj) (key:Value) (n:Nat),x = .ref q/\q≠d/\q≠it/\h.get? q=some o/\(o.cls = .type "list"∨o.cls = .type "tuple")/\o.data = .seq #[key,kv.2] n/\knd.is kv.1 key=true
theorem w8.mono {h h':Heap}{d it:Addr}{x:Value}{kv:K×Value}(p:w8 knd h d it x kv)(k:∀ b o,b≠d->b≠it->h.get? b=some o->h'.get? b=some o):w8 knd h' d it x kv:=by
 obtain ⟨q,o,key,n,e1,e2,e3,e4,e5⟩:=p
 exact ⟨q,o,key,n,e1,e2,e3,k q o e2 e3 e4,e5⟩
inductive LK (knd:KeyKind P w K)(h:Heap)(d it:Addr):bP->List (K×Value)->Prop
 | nil:LK knd h d it [] []
 | cons {x:Value} {xs:bP} {kv:K×Value} {more:List (K×Value)}:w8 knd h d it x kv->LK knd h d it xs more->LK knd h d it (x :: xs) (kv :: more)
theorem LK.mono {h h':Heap}{d it:Addr}(k:∀ b o,b≠d->b≠it->h.get? b=some o->h'.get? b=some o):∀ {xs:bP} {more:List (K×Value)},LK knd h d it xs more->LK knd h' d it xs more
 | _,_,.nil=>.nil
 | _,_,.cons p r=>.cons (p.mono k) (LK.mono k r)
theorem lL:plainId "dict.update.loop" = true:=by decide +kernel
theorem uJ:entryFor table "dict.update.loop" = some Builtin.«dict.update.loop»:=entryFor_of_fast (by kernel_rfl)
theorem sV {A:Around}{E:bX}{s:Shared}{q:Addr}{o:Obj}{n:Nat}{a b:Value}{Q:bP->Shared->Prop}(e:s.heap.get? q=some o)(c:o.cls = .type "list"∨o.cls = .type "tuple")(dt:o.data = .seq #[a,b] n)(h:Q [a,b] s) :
  wpAny (model P w) A (Builtin.Dict.pairItems (.ref q)) Q E s:=by
 unfold Builtin.Dict.pairItems
 rcases c with c | c
 ·refine wpAny_bind (wpAny_typeOf (T:="list") ⟨o,e,c⟩ ?_)
  rw [if_pos (by decide)]
  exact wpAny_bind (wpAny_seqItems e dt (wpAny_pure h))
 ·refine wpAny_bind (wpAny_typeOf (T:="tuple") ⟨o,e,c⟩ ?_)
  rw [if_pos (by decide)]
  exact wpAny_bind (wpAny_seqItems e dt (wpAny_pure h))
theorem FD {d it l:Addr}{items:iA}(nid:it≠d)(nld:l≠d)(nli:l≠it):∀ (m i:Nat),items.size - i=m->∀ (A:Around) (R:Result->Shared->Prop) (s:Shared) (kvs more:List (K×Value)) (tk:Tok),
  A.handled=none->s.heap.IsListIter it l i->s.heap.IsList l items->s.heap.DictOf knd d kvs->LK knd s.heap d it (items.toList.drop i) more->kvs.length + more.length<=sizeLine ->
  (∀ h' tk',h'.DictOf knd d (merged kvs more)->(∀ b o,b≠d->b≠it->s.heap.get? b=some o->h'.get? b=some o)->R (.ok (.ret .none)) { s with heap:=h',toks:=tk' }) ->
  codeAny (model P w) A (.builtin "dict.update.loop" ⟨[.ref d,.ref it,.int i tk,.none],[]⟩) R s:=by
 intro m
 induction m with
 | zero =>
  intro i hm A R s kvs more tk hA st hl hd al hz k
  refine codeAny_builtin uJ ?_
  rw [Around.under_plainId lL]
  have hi:items[i]?=none:=by simp;omega
  have en:more=[]:=by
   have:items.toList.drop i=[]:=by simp;omega
   rw [this] at al
   cases al;rfl
  subst en
  unfold Builtin.«dict.update.loop»
  dsimp only
  refine wpAny_bind (wpAny_pyNext_list_end hA st hl hi fun h' eb=>?_)
  dsimp only
  refine wpAny_bind (m:=Builtin.Dict.addKeywords d []) (wpAny_pure (wpAny_pure ?_))
  exact k h' s.toks (hd.extBut eb nid.symm) fun b o _ hb e=>eb b o hb e
 | succ m ih =>
  intro i hm A R s kvs more tk hA st hl hd al hz k
  refine codeAny_builtin uJ ?_
  rw [Around.under_plainId lL]
  have inR:i < items.size:=by omega
  have hi:items[i]?=some items[i]:=by simp [inR]
  have ed:items.toList.drop i=items[i] :: items.toList.drop (i + 1):=by simp [List.drop_eq_getElem_cons,inR]
  rw [ed] at al
  cases al with
  | cons p rest =>
   rename_i kv more
   unfold Builtin.«dict.update.loop»
   dsimp only
   refine wpAny_bind (wpAny_pyNext_list_item st hl hi fun h1 st1 sb1=>?_)
   dsimp only
   obtain ⟨q,o,key,n,eq,nqd,nqi,gq,cq,dq,kq⟩:=p
   rw [eq]
   refine wpAny_bind (wpAny_holding (wpAny_bind (wpAny_tryCatch (sV (s:={ s with heap:=h1 }) ((sb1.2 q nqi).trans gq) cq dq ?_))))
   refine wpAny_holding (wpAny_dictSet_pairs kq (hd.sameBut sb1 nid.symm) (fun h2 hd2 sb2=>?_) (by simp at hz;omega))
   have kept:∀ b o,b≠d->b≠it->s.heap.get? b=some o->h2.get? b=some o:=fun b o nb ni e=>(sb2.2 b nb).trans ((sb1.2 b ni).trans e)
   refine wpAny_pure ⟨plainId_quiet lL _,?_⟩
   have e1:((i:Int) + 1)=((i + 1:Nat):Int):=by push_cast;rfl
   rw [e1]
   refine ih (i + 1) (by omega) A R _ (stored kvs kv.1 kv.2) more 0 hA (st1.at fun o e=>(sb2.2 it nid).trans e) (hl.at fun o e=>kept l o nld nli e) hd2 (rest.mono kept) ?_ fun h' tk' r1 r2=>?_
   ·have:=stored_length_le kvs kv.1 kv.2
    simp at hz;omega
   ·exact k h' tk' r1 fun b o nb ni e=>r2 b o nb ni (kept b o nb ni e)
noncomputable def NY (knd:KeyKind P w K)(h:Heap)(x:Value)(kv:K×Value):Prop :=
 ∃ (q:Addr) (o:Obj) (key:Value) (n:Nat),x = .ref q/\h.get? q=some o/\(o.cls = .type "list"∨o.cls = .type "tuple")/\o.data = .seq #[key,kv.2] n/\knd.is kv.1 key=true
inductive n8 (knd:KeyKind P w K)(h:Heap):bP->List (K×Value)->Prop
 | nil:n8 knd h [] []
 | cons {x:Value} {xs:bP} {kv:K×Value} {more:List (K×Value)}:NY knd h x kv->n8 knd h xs more->n8 knd h (x :: xs) (kv :: more)
theorem n8.at {h h':Heap}{d it:Addr}(ed:h.get? d=none)(ei:h.get? it=none)(k:∀ b o,h.get? b=some o->h'.get? b=some o):∀ {xs:bP} {more:List (K×Value)},n8 knd h xs more->LK knd h' d it xs more
 | _,_,.nil=>.nil
 | _,_,.cons ⟨q,o,key,n,e1,e2,e3⟩ r=>.cons ⟨q,o,key,n,e1,fun e=>(by rw [e,ed] at e2;cases e2),fun e=>(by rw [e,ei] at e2;cases e2),k q o e2,e3⟩ (n8.at ed ei k r)
theorem qD {A:Around}{E:bX}{s:Shared}{l:Addr}{items:iA}{n:Nat}{sl:Array (Option Value)}{more:List (K×Value)}{Q:bX}
  (at_l:s.heap.get? l=some { cls:=.type "list",dict:=none,data:=.seq items n,slots:=sl }) (calm:A.handled=none) (al:n8 knd s.heap items.toList more) (hz:more.length<=sizeLine)
  (q:∀ h' tk,h'.DictOf knd s.heap.objs.size (merged [] more)->(∀ b o,s.heap.get? b=some o->h'.get? b=some o)->Q (.ref s.heap.objs.size) { s with heap:=h',toks:=tk }) :
  wpAny (model P w) A (call (.type "dict") [.ref l]) Q E s:=by
 refine callType_codes (Q₁:=fun v s1=>v = .ref s.heap.objs.size/\s1={ s with heap:=s.heap.push { cls:=.type "dict",data:=.dict #[] } }) F.kt_called_dict (F.kt_typeCall_dict_1 _) F.entry_dict_init (kt_code_dict_new _ ⟨rfl,rfl⟩) ?_
 rintro v s1 ⟨rfl,rfl⟩
 have d0:(s.heap.push { cls:=.type "dict",data:=.dict #[] }).DictOf knd s.heap.objs.size []:=Heap.DictOf.new s.heap
 have l0:=Heap.get?_push_of_some { cls:=.type "dict",data:=.dict #[] } at_l
 have lt:=Heap.lt_size at_l
 refine ⟨d0.typeIs,F.args_dict_init_2 _ _,?_⟩
 unfold Builtin.«dict.__init__» Builtin.Dict.selfAndRest
 refine wpAny_bind (wpAny_bind (wpAny_notOrdered_dict d0.typeIs (wpAny_pure ?_)))
 unfold Builtin.Dict.updateCommon Builtin.Dict.updateFrom
 dsimp only
 refine wpAny_bind (wpAny_typeOf (T:="list") ⟨_,l0,rfl⟩ ?_)
 rw [if_pos (by decide)]
 refine wpAny_bind (wL l0 calm fun h1 t1 k1=>?_)
 rw [if_pos (by rfl)]
 have l1:=k1 _ _ l0
 refine wpAny_bind (wpAny_rule (wpAny_bind (wpAny_pyIter_list (items:=items) ⟨_,l1,rfl,_,rfl⟩ (wpAny_pure ⟨plainId_quiet lL _,?_⟩))))
 have d1:=d0.keep k1
 have dlt:s.heap.objs.size < h1.objs.size:=by
  obtain ⟨o,e,_⟩:=Heap.dictOf_iff.mp d1
  exact Heap.lt_size e
 have k2:∀ b o,s.heap.get? b=some o->(h1.push { cls:=.type "list_iterator",data:=.fields #[.ref l,.int 0 0] }).get? b=some o:=fun b o e=>Heap.get?_push_of_some _ (k1 b o (Heap.get?_push_of_some _ e))
 refine FD (it:=h1.objs.size) (l:=l) (items:=items) (Nat.ne_of_gt dlt) (Nat.ne_of_lt lt) (Nat.ne_of_lt (Nat.lt_trans lt dlt)) _ 0 rfl A.in1 _ _ [] more 0 calm ⟨_,Heap.get?_push_size _ rfl,rfl,rfl⟩ ⟨_,k2 _ _ at_l,rfl,_,rfl⟩ (d1.push _)
  (n8.at (Heap.get?_none_of_le (Nat.le_refl _)) (Heap.get?_none_of_le (Nat.le_of_lt dlt)) k2 al) (by simpa using hz) fun h' tk' r1 r2=>?_
 exact ⟨rfl,q h' tk' r1 fun b o e=>r2 b o (Nat.ne_of_lt (Heap.lt_size e)) (Nat.ne_of_lt (Nat.lt_trans (Heap.lt_size e) dlt)) (k2 b o e)⟩
end
noncomputable def prV (H:Hp):V->Option (V×V)
 | .ref p=>match H p with
  | some (.lst [a,b])=>some (a,b)
  | some (.tup [a,b])=>some (a,b)
  | _=>none
 | _=>none
theorem xU {X:Cx}{pins:dE}{σ:St}{H:Hp}{s:Shared}(I:aO X pins σ H s):∀ {ys:List V} {us:bP} {kvs:List (fZ×V)},aU ys us->ys.map (prV H)=kvs.map (fun kv=>some (kV kv.1,kv.2)) ->
  ∃ rs:List (fZ×Value),n8 (cJ X.prog X.w) s.heap us rs/\KV kvs rs
 | [],_,[],r,_=>by cases r;exact ⟨[],.nil,.nil⟩
 | [],_,_ :: _,_,e=>by cases e
 | _ :: _,_,[],_,e=>by cases e
 | y :: ys,_,kv :: kvs,r,e=>by
  cases r with
  | @cons _ u _ us ry r =>
   rw [List.map_cons,List.map_cons] at e
   injection e with e1 e2
   obtain ⟨rs,c,q⟩:=xU I r e2
   cases y with
   | ref p =>
    cases ry
    unfold prV at e1
    dsimp only at e1
    split at e1
    ·rename_i a b hp
     cases e1
     obtain ⟨_,its,n,rv,h1⟩:=(show cE X.prog X.w H s.heap p (.lst [_,_]) from I.hok p _ hp)
     obtain ⟨u1,u2,rfl,r1,r2⟩:=vals2 rv
     exact ⟨(kv.1,u2) :: rs,.cons ⟨p,_,u1,n,rfl,h1,.inl rfl,rfl,rM r1⟩ c,.cons ⟨rfl,r2⟩ q⟩
    ·rename_i a b hp
     cases e1
     obtain ⟨_,its,rv,o,h1,h2,n,h3⟩:=(show cE X.prog X.w H s.heap p (.tup [_,_]) from I.hok p _ hp)
     obtain ⟨u1,u2,rfl,r1,r2⟩:=vals2 rv
     exact ⟨(kv.1,u2) :: rs,.cons ⟨p,o,u1,n,rfl,h1,.inr h2,h3,rM r1⟩ c,.cons ⟨rfl,r2⟩ q⟩
    ·cases e1
   | _=>cases e1
noncomputable def MO:List V->Hp->VK->Prop:=fun xs H Q=>∃ p ys kvs,xs=[.ref p]/\H p=some (.lst ys)/\ys.map (prV H)=kvs.map (fun kv=>some (kV kv.1,kv.2))/\∀ d,H d=none->Q (.ref d) (upd H d (.dK (i8 [] kvs)))
theorem mQ {X:Cx}(hc:X.calm=true):cR X (.type "dict") MO:=by
 intro pins s σ H xs us Q I r h
 obtain ⟨p,ys,kvs,rfl,hp,al,q⟩:=h
 obtain ⟨u,rfl,rx⟩:=vals1 r
 cases rx
 obtain ⟨z,its,n,rv,h1⟩:=(show cE X.prog X.w H s.heap p (.lst ys) from I.hok p _ hp)
 obtain ⟨rs,c,rk⟩:=xU I rv al
 have ll:kvs.length=ys.length:=by have:=congrArg List.length al;simpa using this.symm
 have lr:kvs.length=rs.length:=rk.length
 refine qD h1 (I.ok.hd hc) (by simpa using c) (by omega) fun h' tk dd kp=>⟨.ref s.heap.objs.size,_,?_,rfl,q _ (I.hok.fresh (Nat.le_refl _))⟩
 have hz:(i8 [] kvs).length<=sizeLine:=by
  have:=mE kvs []
  rw [List.length_nil] at this;omega
 exact I.laid (t':=tk) kp (Nat.le_refl _) (NN hz (beq_eq_false_iff_ne.mpr (Ne.symm (Nat.ne_of_lt I.big))) (rk.merge .nil) dd)
noncomputable def rDIn (neg:Bool):R2:=fun x y H Q=>∃ a o,y = .ref a/\jR H a x o/\Q (.bl (if neg then !o.isSome else o.isSome)) H
theorem AH {X:Cx}(hu:X.A.units + 64 < cLine):iZ X (compareOp .NotIn) (rDIn true):=by
 intro pins s σ H x y v u Q I rx ry h
 obtain ⟨a,o,rfl,g,q⟩:=h
 cases ry
 exact LB (Nat.lt_of_le_of_lt (Nat.add_le_add_left (by decide) _) hu) I g rx fun s' I'=>⟨.bl _,H,I',rfl,q⟩
end L2
namespace Lw
open PySem L2
noncomputable def cN (ds:List D):List D:=ds.foldl (fun l d=>insA d l) []
noncomputable def zr (sm:bY)(n:Str):Option Str:=(sm.find? fun r=>decide (r.1=n)).map (·.2)
noncomputable def one (n z:Str)(l:List D):D:=match l with
 | []=>.str z
 | [d]=>d
 | l=>.tup (.str n :: l)
noncomputable def knot (sm:bY)(n:Str)(ps:List D):D:=match zr sm n with
 | none=>.tup (.str n :: ps)
 | some z=>one n z (cN (opn n z ps))
mutual
noncomputable def flt (sm:bY):D->D
 | .tup (.str n :: ds)=>knot sm n (flts sm ds)
 | .lst (.str n :: ds)=>knot sm n (flts sm ds)
 | d=>d
noncomputable def flts (sm:bY):List D->List D
 | []=>[]
 | d :: ds=>flt sm d :: flts sm ds
end
theorem cI (sm:bY):∀ ds:List D,flts sm ds=ds.map (flt sm)
 | []=>rfl
 | d :: ds=>by rw [flts,cI sm ds];rfl
theorem pT (ds:List D)(d:D):cN (ds ++ [d])=insA d (cN ds):=by simp [cN]
theorem uH:∀ (ds l:List D),(ds.foldl (fun l d=>insA d l) l).Perm (ds ++ l)
 | [],l=>.refl _
 | d :: ds,l=>(uH ds (insA d l)).trans (((lP d l).append_left ds).trans (List.perm_middle))
theorem cD (ds:List D):(cN ds).Perm ds:=by have:=uH ds [];simpa [cN] using this
mutual
noncomputable def sz:D->Nat
 | .tup (_ :: ds)=>max 1 (szs ds)
 | .lst (_ :: ds)=>max 1 (szs ds)
 | _=>1
noncomputable def szs:List D->Nat
 | []=>0
 | d :: ds=>sz d + szs ds
end
theorem MK:∀ d:D,1<=sz d:=by
 intro d
 unfold sz
 split <;> omega
theorem jT:∀ ds:List D,ds.length<=szs ds
 | []=>Nat.le_refl _
 | d :: ds=>by rw [szs,List.length_cons];have:=MK d;have:=jT ds;omega
theorem vB:∀ ds es:List D,szs (ds ++ es)=szs ds + szs es
 | [],es=>by simp [szs]
 | d :: ds,es=>by rw [List.cons_append,szs,vB ds es,szs];omega
theorem FO {l m:List D}(p:l.Perm m):szs l=szs m:=by
 induction p with
 | nil=>rfl
 | cons x _ ih=>rw [szs,szs,ih]
 | swap x y l=>rw [szs,szs,szs,szs];omega
 | trans _ _ a b=>exact a.trans b
theorem uM:∀ ds es:List D,depDs (ds ++ es)=max (depDs ds) (depDs es)
 | [],es=>by simp [depDs]
 | d :: ds,es=>by rw [List.cons_append,depDs,uM ds es,depDs,Nat.max_assoc]
theorem A7 {l m:List D}(p:l.Perm m):depDs l=depDs m:=by
 induction p with
 | nil=>rfl
 | cons x _ ih=>rw [depDs,depDs,ih]
 | swap x y l=>rw [depDs,depDs,depDs,depDs,Nat.max_left_comm]
 | trans _ _ a b=>exact a.trans b
theorem J1 (n z:Str)(d:D):szs (opn1 n z d)<=sz d:=by
 unfold opn1
 split
 ·split
  ·rw [sz];omega
  ·rw [szs,szs];omega
 ·split
  ·rw [szs];omega
  ·rw [szs,szs];omega
theorem nO (n z:Str)(d:D)(ds:List D):opn n z (d :: ds)=opn1 n z d ++ opn n z ds:=by simp [opn]
theorem rB (n z:Str):∀ ds:List D,szs (opn n z ds)<=szs ds
 | []=>Nat.le_refl _
 | d :: ds=>by rw [nO,vB,szs];have:=J1 n z d;have:=rB n z ds;omega
theorem GN (n z:Str)(d:D):depDs (opn1 n z d)<=depD d:=by
 unfold opn1
 split
 ·split
  ·rw [depD,depDs];omega
  ·rw [depDs,depDs];omega
 ·split
  ·rw [depDs];omega
  ·rw [depDs,depDs];omega
theorem v9 (n z:Str):∀ ds:List D,depDs (opn n z ds)<=depDs ds
 | []=>Nat.le_refl _
 | d :: ds=>by rw [nO,uM,depDs];have:=GN n z d;have:=v9 n z ds;omega
theorem M3 (n z:Str)(l:List D):sz (one n z l)<=max 1 (szs l):=by
 unfold one
 split
 ·show sz (.str z)<=_
  unfold sz;omega
 ·rw [szs,szs];omega
 ·rw [sz];omega
theorem CC (sm:bY)(n:Str)(ps:List D):sz (knot sm n ps)<=max 1 (szs ps):=by
 unfold knot
 split
 ·rw [sz];omega
 ·rename_i z _
  have h1:=M3 n z (cN (opn n z ps))
  rw [FO (cD _)] at h1
  have h2:=rB n z ps
  omega
theorem J9 (n z:Str)(l:List D):depD (one n z l)<=depDs l + 1:=by
 unfold one
 split
 ·show (0:Nat)<=_;omega
 ·rw [depDs,depDs];omega
 ·rw [depD,depDs,show depD (.str n)=0 from rfl];omega
theorem yL (sm:bY)(n:Str)(ps:List D):depD (knot sm n ps)<=depDs ps + 1:=by
 unfold knot
 split
 ·rw [depD,depDs,show depD (.str n)=0 from rfl];omega
 ·rename_i z _
  have h1:=J9 n z (cN (opn n z ps))
  rw [A7 (cD _)] at h1
  have h2:=v9 n z ps
  omega
mutual
theorem HQ (sm:bY):∀ d:D,sz (flt sm d)<=sz d
 | .tup (.str n :: ds)=>by rw [flt,sz];have:=CC sm n (flts sm ds);have:=nX sm ds;omega
 | .lst (.str n :: ds)=>by rw [flt,sz];have:=CC sm n (flts sm ds);have:=nX sm ds;omega
 | .non | .bl _ | .int _ | .str _ | .tup [] | .lst [] | .tup (.non :: _) | .tup (.bl _ :: _) | .tup (.int _ :: _) | .tup (.tup _ :: _) | .tup (.lst _ :: _) | .lst (.non :: _) | .lst (.bl _ :: _) | .lst (.int _ :: _) | .lst (.tup _ :: _) | .lst (.lst _ :: _)=>by unfold flt;exact Nat.le_refl _
theorem nX (sm:bY):∀ ds:List D,szs (flts sm ds)<=szs ds
 | []=>Nat.le_refl _
 | d :: ds=>by rw [flts,szs,szs];have:=HQ sm d;have:=nX sm ds;omega
end
mutual
theorem CN (sm:bY):∀ d:D,depD (flt sm d)<=depD d
 | .tup (.str n :: ds)=>by rw [flt,depD,depDs,show depD (.str n)=0 from rfl];have:=yL sm n (flts sm ds);have:=kQ sm ds;omega
 | .lst (.str n :: ds)=>by rw [flt,depD,depDs,show depD (.str n)=0 from rfl];have:=yL sm n (flts sm ds);have:=kQ sm ds;omega
 | .non | .bl _ | .int _ | .str _ | .tup [] | .lst [] | .tup (.non :: _) | .tup (.bl _ :: _) | .tup (.int _ :: _) | .tup (.tup _ :: _) | .tup (.lst _ :: _) | .lst (.non :: _) | .lst (.bl _ :: _) | .lst (.int _ :: _) | .lst (.tup _ :: _) | .lst (.lst _ :: _)=>by unfold flt;exact Nat.le_refl _
theorem kQ (sm:bY):∀ ds:List D,depDs (flts sm ds)<=depDs ds
 | []=>Nat.le_refl _
 | d :: ds=>by rw [flts,depDs,depDs];have:=CN sm d;have:=kQ sm ds;omega
end
theorem fY:∀ {ds:List D},Fls ds->∀ d ∈ ds,Fl d
 | _ :: _,⟨a,b⟩,d,h=>by
  obtain rfl | h:=List.mem_cons.mp h
  ·exact a
  ·exact fY b d h
theorem jA:∀ {ds:List D},(∀ d ∈ ds,Fl d)->Fls ds
 | [],_=>trivial
 | d :: ds,h=>⟨h d List.mem_cons_self,jA fun e k=>h e (List.mem_cons_of_mem _ k)⟩
theorem J5 {n z:Str}{d:D}(h:Fl d):Fls (opn1 n z d):=by
 unfold opn1
 split
 ·rename_i m es
  have k:Fls es:=by unfold Fl at h;exact h
  split
  ·exact k
  ·exact ⟨h,trivial⟩
 ·split
  ·exact trivial
  ·exact ⟨h,trivial⟩
theorem v8 {n z:Str}{ds:List D}(h:Fls ds):Fls (opn n z ds):=jA fun d k=>by
 obtain ⟨e,h1,h2⟩:=List.mem_flatMap.mp k
 exact fY (J5 (fY h e h1)) d h2
mutual
noncomputable def Nb:D->Prop
 | .tup (_ :: ds)=>ds≠[]/\Nbs ds
 | _=>True
noncomputable def Nbs:List D->Prop
 | []=>True
 | d :: ds=>Nb d/\Nbs ds
end
theorem qH:∀ {ds:List D},Nbs ds->∀ d ∈ ds,Nb d
 | _ :: _,⟨a,b⟩,d,h=>by
  obtain rfl | h:=List.mem_cons.mp h
  ·exact a
  ·exact qH b d h
theorem AM:∀ {ds:List D},(∀ d ∈ ds,Nb d)->Nbs ds
 | [],_=>trivial
 | d :: ds,h=>⟨h d List.mem_cons_self,AM fun e k=>h e (List.mem_cons_of_mem _ k)⟩
theorem J4 {n z:Str}{d:D}(h:Nb d):Nbs (opn1 n z d):=by
 unfold opn1
 split
 ·rename_i m es
  have k:Nbs es:=by unfold Nb at h;exact h.2
  split
  ·exact k
  ·exact ⟨h,trivial⟩
 ·split
  ·exact trivial
  ·exact ⟨h,trivial⟩
theorem MT {n z:Str}{ds:List D}(h:Nbs ds):Nbs (opn n z ds):=AM fun d k=>by
 obtain ⟨e,h1,h2⟩:=List.mem_flatMap.mp k
 exact qH (J4 (qH h e h1)) d h2
theorem M4 {n z:Str}{l:List D}(h:∀ d ∈ l,Nb d):Nb (one n z l):=by
 unfold one
 split
 ·unfold Nb;exact trivial
 ·exact h _ List.mem_cons_self
 ·rename_i l h1 h2
  unfold Nb
  exact ⟨h1,AM h⟩
theorem CD {sm:bY}{n:Str}{ps:List D}(h:Nbs ps)(ne:ps≠[]):Nb (knot sm n ps):=by
 unfold knot
 split
 ·unfold Nb;exact ⟨ne,h⟩
 ·exact M4 fun d k=>qH (MT h) d ((cD _).mem_iff.mp k)
theorem J3 {n:Str}{d:D}(f:Fl d)(b:Nb d):opn1 n ("" : Str) d≠[]:=by
 unfold opn1
 split
 ·split
  ·unfold Nb at b;exact b.1
  ·exact fun z=>nomatch z
 ·split
  ·rename_i e
   exfalso
   cases d with
   | str x =>
    have e:(x == ("" : Str))=true:=e
    have e:=eq_of_beq e
    subst e
    unfold Fl at f
    exact absurd f.1 (by decide)
   | tup xs=>cases e
   | _=>unfold Fl at f;exact f
  ·exact fun z=>nomatch z
theorem GL {n:Str}:∀ {ps:List D},Fls ps->Nbs ps->ps≠[]->opn n ("" : Str) ps≠[]
 | [],_,_,h=>absurd rfl h
 | d :: ps,⟨f,_⟩,⟨b,_⟩,_=>by
  rw [nO]
  exact fun z=>J3 f b (List.append_eq_nil_iff.mp z).1
theorem CF {sm:bY}{n:Str}{ps:List D}(hz:∀ r ∈ sm,r.2=("" : Str)∨Fl (.str r.2))(h:Fls ps)(b:Nbs ps)(ne:ps≠[]):Fl (knot sm n ps):=by
 unfold knot
 split
 ·unfold Fl;exact h
 ·rename_i z e
  have fz:z=("" : Str)∨Fl (.str z):=by
   unfold zr at e
   obtain ⟨r,h1,rfl⟩:=Option.map_eq_some_iff.mp e
   exact hz r (List.mem_of_find?_eq_some h1)
  have f1:∀ d ∈ cN (opn n z ps),Fl d:=fun d k=>fY (v8 h) d ((cD _).mem_iff.mp k)
  unfold one
  split
  ·rename_i e1
   rcases fz with rfl | fz
   ·exfalso
    have:=(cD (opn n ("" : Str) ps)).length_eq
    rw [e1] at this
    exact GL h b ne (List.length_eq_zero_iff.mp this.symm)
   ·exact fz
  ·rename_i e;exact f1 _ (by rw [e];exact List.mem_cons_self)
  ·unfold Fl;exact jA f1
end Lw
namespace L2
open PySem PySem.Spec PyProof.Rows
noncomputable def JP:V->List V->Hp->VK->Prop:=fun x vs H Q=>∃ (l:Addr) (xs:List V) (i:Nat) (y:V),x = .ref l/\vs=[.int i,y]/\H l=some (.lst xs)/\i<=xs.length/\xs.length < 1000/\Q .non (upd H l (.lst (xs.take i ++ y :: xs.drop i)))
theorem oJ:∀ {xs:List V} {us:bP} (i:Nat),aU xs us->aU (xs.take i) (us.take i)/\aU (xs.drop i) (us.drop i)
 | _,_,i,.nil=>by rw [List.take_nil,List.take_nil,List.drop_nil,List.drop_nil];exact ⟨.nil,.nil⟩
 | _,_,0,.cons r t=>⟨.nil,.cons r t⟩
 | _,_,i + 1,.cons r t=>⟨.cons r (oJ i t).1,(oJ i t).2⟩
theorem D1 {X:Cx}:N7 X "list.insert" JP:=by
 intro pins s σ H x vs v us Q I rx rv h
 obtain ⟨l,xs,i,y,rfl,rfl,hH,hi,hz,q⟩:=h
 cases rx
 obtain ⟨u1,u2,rfl,r1,r2⟩:=vals2 rv
 obtain ⟨t,rfl⟩:=r1
 obtain ⟨z,its,n,r,hl,e⟩:=I.lstM hH
 obtain ⟨k,hk⟩:∃ k:Int,k=(i:Int):=⟨_,rfl⟩
 rw [← hk]
 have hfit:¬ (!Builtin.List.listFitsIndex k)=true:=by
  rw [fitsIndex_both (by omega) (by omega)]
  exact Bool.false_ne_true
 have hsz:its.toArray.size<=sizeLine:=by rw [List.size_toArray,← hl];exact z
 refine call_meets F.slot_list_insert ⟨_,e,rfl⟩ F.entry_list_insert (F.args_list_insert_3 _ _ _) (PySem.AutoSeq1.list_insert_list_int_val_1 l its.toArray n k t u2 hfit hsz) ⟨e,?_⟩
 ·obtain ⟨a1,a2⟩:=oJ i r
  refine ⟨.non,_,I.lset (its':=its.take i ++ u2 :: its.drop i) hH e ?_ (a1.append (.cons r2 a2)) ?_,rfl,q⟩
  ·have e1:¬ (k < 0):=by omega
   have e2:min k.toNat its.toArray.size=i:=by rw [List.size_toArray,hk,Int.toNat_natCast];omega
   dsimp only
   rw [if_neg e1,e2]
   apply Array.ext'
   simp
   exact List.take_of_length_le (by rw [List.length_drop];exact Nat.le_refl _)
  ·rw [List.length_append,List.length_cons,List.length_take,List.length_drop]
   exact Nat.le_trans (m:=1000) (by omega) (by decide)
noncomputable def O5 (K:PySem.W.Frag)(a:Addr)(xs:List V):It :=
 ⟨fun i H=>eA K H a xs/\i < xs.length,fun i H x H'=>H'=H/\xs[xs.length - 1 - i]?=some x,fun i H=>eA K H a xs/\i=xs.length⟩
theorem FJ {P:Program}{w:World}{K:PySem.W.Frag}{tg:Expr}(a it:Addr)(xs:List V):pH P w K tg (O5 K a xs) [it] it (fun i h=>h.IsRevIter it a ((xs.length:Int) - 1 - (i:Int))) where
 mem:=by simp
 obj:=fun i h st b hb=>by
  obtain rfl:b=it:=by simpa using hb
  obtain ⟨o,e,c,d⟩:=st
  exact ⟨o,e,fun v z=>by rw [d] at z;cases z⟩
 keep:=fun i h h' st k=>st.at fun o e=>k it (by simp) o e
 item:=by
  intro X hP hw hK hc i pins s σ H E I hf st hg
  subst hP hw hK
  obtain ⟨hq,hi⟩:=hg
  obtain ⟨its,rv,p,hz⟩:=I.list hq
  have hx:xs[xs.length - 1 - i]?=some xs[xs.length - 1 - i]:=List.getElem?_eq_getElem (by omega)
  obtain ⟨u,hu,ru⟩:=rv.get hx
  obtain ⟨f0,f1,f2,f3,f4,f5⟩:=hf it (by simp)
  have e0:(xs.length:Int) - 1 - (i:Int)=((xs.length - 1 - i:Nat):Int):=by omega
  rw [e0] at st
  refine wpAny_pyNext_rev_item st p.isList (x:=u) (by simpa using hu) fun h' st' sb=>?_
  have I1:aO X pins σ H { s with heap:=h' }:=I.turned (t':=s.toks) (fun b o hb e=>(sb.2 b hb).trans e) f0 f1 f3 f4 f5
  obtain ⟨o,e,c,d⟩:=id st'
  refine ⟨u,rfl,yR (s:={ s with heap:=h' }) e c d (by decide) ⟨_,H,I1,ru,⟨rfl,hx⟩,?_,fun b hb=>(hf b hb).1⟩⟩
  have e1:(xs.length:Int) - 1 - ((i + 1:Nat):Int)=((xs.length - 1 - i:Nat):Int) - 1:=by omega
  rw [e1];exact st'
 done:=by
  intro X hP hw hK hc i pins s σ H E I hf st hg
  subst hP hw hK
  obtain ⟨hq,hi⟩:=hg
  obtain ⟨f0,f1,f2,f3,f4,f5⟩:=hf it (by simp)
  have e0:(xs.length:Int) - 1 - (i:Int) = -1:=by omega
  rw [e0] at st
  exact wpAny_pyNext_rev_end (I.ok.hd hc) st fun h' eb=>⟨rfl,I.turned (t':=s.toks) (fun b o hb e=>eb b o hb e) f0 f1 f3 f4 f5⟩
 self:=fun _ _ _ _ _ st h=>wpAny_pyIter_revIter st h
noncomputable def iRev (K:PySem.W.Frag)(ta:TA):TI:=fun σ H R=>ta σ H fun vs H1=>∃ a xs,vs=[.ref a]/\H1 a=some (.lst xs)/\R (O5 K a xs) H1
theorem vU {X:Cx}{tg:Expr}(K:PySem.W.Frag)(hK:X.K=K){a:Expr}{ta:TA}{p pos:Pos}(hg:Gl X "reversed")(hm:X.mg "reversed" = none)(ha:PA X [a] ta)(hs:starEach [a] X.env=[(false,eval a X.env)]:=by rfl) :
  PI X tg (.Call (.Name "reversed" p) [a] [] pos) (iRev K ta):=by
 subst hK
 intro pins s σ H R I h
 refine Call_ (kO I hg hm boot_reversed (PyProof.Rows.callWith_type1 (thn (ha pos pins s σ H _ I h) fun us s1 ⟨vs,H1,I1,r1,q1⟩=>?_) hs rfl))
 obtain ⟨l1,xs,e,hx,q⟩:=q1
 subst e
 obtain ⟨u1,rfl,e1⟩:=vals1 r1
 cases e1
 obtain ⟨its,rv,p1,hz1⟩:=I1.list (eA.of hx)
 refine call_reversed_list p1.isList ?_
 have st:(s1.heap.push (revObj l1 ((its.toArray.size:Int) - 1))).IsRevIter s1.heap.objs.size l1 ((xs.length:Int) - 1 - ((0:Nat):Int)):=⟨_,Heap.get?_push_size _ rfl,rfl,by
  have e:=rv.length
  rw [List.size_toArray,← e]
  simp [revObj]⟩
 refine wpAny_pyIter_revIter (s:={ s1 with heap:=s1.heap.push (revObj l1 ((its.toArray.size:Int) - 1)) }) st ?_
 refine ⟨s1.heap.objs.size,[s1.heap.objs.size],_,_,H1,rfl,I1.kept (t':=s1.toks) fun b o e=>Heap.get?_push_of_some _ e,FJ l1 _ xs,st,fun b hb=>?_,q⟩
 obtain rfl:b=s1.heap.objs.size:=by simpa using hb
 exact I1.fpOk (Nat.le_refl _) (I1.hok.fresh (Nat.le_refl _))
section
variable {g:TG}{tb:TS}{D:jQ}{σ:St}{H:Hp}{K:PySem.W.Frag}
theorem HM {a:Addr}(xs:List V)(Pv:Nat->St->Hp->Prop)(h0:Pv 0 σ H)(hl:∀ i σ H,i<=xs.length->Pv i σ H->H a=some (.lst xs))
  (hs:∀ i x σ H,i < xs.length->xs[xs.length - 1 - i]?=some x->Pv i σ H->g x σ H fun σ2 H2=>tb { D with nx:=Pv (i + 1),ct:=Pv (i + 1),bk:=D.nx } σ2 H2) (hd:∀ σ H,Pv xs.length σ H->D.nx σ H):zF (O5 K a xs) g tb D σ H:=by
 refine ⟨fun i m σ H=>m=xs.length - i/\i<=xs.length/\Pv i σ H,⟨xs.length,by simp,Nat.zero_le _,h0⟩,?_⟩
 rintro i m σ H ⟨rfl,hi,p⟩
 have el:=eA.of (K:=K) (hl i σ H hi p)
 by_cases hlt:i < xs.length
 ·refine .inr ⟨⟨el,hlt⟩,Pv (i + 1),fun σ' H' q=>⟨xs.length - (i + 1),by omega,rfl,hlt,q⟩,fun z H' y=>?_⟩
  obtain ⟨rfl,q⟩:=y
  exact hs i z σ _ hlt q p
 ·have e:i=xs.length:=by omega
  subst e
  exact .inl ⟨⟨el,rfl⟩,hd σ H p⟩
end
end L2
namespace Lw
open PySem L2
section
variable {P:Program}{w:World}{K:PySem.W.Frag}{mg:gA}{base:Heap}
mutual
/-- a term: leaves that can be told,names with parts -/
noncomputable def Tm:D->Prop
 | .str x=>1<=x.cps.toList.length/\x.cps.toList.length<=20
 | .tup (.str _ :: ds)=>ds≠[]/\Tms ds
 | .lst (.str _ :: ds)=>ds≠[]/\Tms ds
 | _=>False
noncomputable def Tms:List D->Prop
 | []=>True
 | d :: ds=>Tm d/\Tms ds
end
theorem BS {d:D}(h:Tm d):(∃ x,d = .str x/\1<=x.cps.toList.length/\x.cps.toList.length<=20)∨∃ n ds,(d = .tup (.str n :: ds)∨d = .lst (.str n :: ds))/\ds≠[]/\Tms ds:=by
 unfold Tm at h
 split at h
 ·exact .inl ⟨_,rfl,h⟩
 ·exact .inr ⟨_,_,.inl rfl,h⟩
 ·exact .inr ⟨_,_,.inr rfl,h⟩
 ·exact absurd h id
theorem qK {sm:bY}{ds:List D}(h:ds≠[]):flts sm ds≠[]:=by
 rw [cI]
 exact fun z=>h (List.map_eq_nil_iff.mp z)
mutual
theorem wT {sm:bY}(hz:∀ r ∈ sm,r.2=("" : Str)∨Fl (.str r.2)):∀ {d:D},Tm d->Fl (flt sm d)/\Nb (flt sm d)
 | .tup (.str n :: ds),h=>by
  unfold Tm at h
  obtain ⟨a,b⟩:=jZ hz h.2
  rw [flt];exact ⟨CF hz a b (qK h.1),CD b (qK h.1)⟩
 | .lst (.str n :: ds),h=>by
  unfold Tm at h
  obtain ⟨a,b⟩:=jZ hz h.2
  rw [flt];exact ⟨CF hz a b (qK h.1),CD b (qK h.1)⟩
 | .str x,h=>by unfold flt;unfold Tm at h;unfold Fl Nb;exact ⟨h,trivial⟩
 | .non,h | .bl _,h | .int _,h | .tup [],h | .lst [],h | .tup (.non :: _),h | .tup (.bl _ :: _),h | .tup (.int _ :: _),h | .tup (.tup _ :: _),h | .tup (.lst _ :: _),h | .lst (.non :: _),h | .lst (.bl _ :: _),h | .lst (.int _ :: _),h | .lst (.tup _ :: _),h | .lst (.lst _ :: _),h=>by unfold Tm at h;exact absurd h id
theorem jZ {sm:bY}(hz:∀ r ∈ sm,r.2=("" : Str)∨Fl (.str r.2)):∀ {ds:List D},Tms ds->Fls (flts sm ds)/\Nbs (flts sm ds)
 | [],_=>by rw [flts];exact ⟨trivial,trivial⟩
 | d :: ds,⟨a,b⟩=>by rw [flts];exact ⟨⟨(wT hz a).1,(jZ hz b).1⟩,⟨(wT hz a).2,(jZ hz b).2⟩⟩
end
theorem CM {sm:bY}(hz:∀ r ∈ sm,r.2=("" : Str)∨Fl (.str r.2)){ds:List D}(h:Tms ds):Fls (flts sm ds):=(jZ hz h).1
theorem tD {fx:cQ}{sm:bY}(so:dJ fx sm){x:Str}(h:x ∈ zeros fx):1<=x.cps.toList.length/\x.cps.toList.length<=20:=by
 unfold zeros at h
 obtain ⟨r,h1,rfl⟩:=List.mem_map.mp h
 have:=so.nm r.1 (List.mem_append_left _ (List.mem_map_of_mem ((List.mem_filter.mp h1).1)))
 exact ⟨this.1,Nat.le_trans this.2.1 (by decide)⟩
theorem jY {fx:cQ}{sm:bY}(so:dJ fx sm):∀ r ∈ sm,r.2=("" : Str)∨Fl (.str r.2):=fun r hr=>by
 by_cases e:r.2=("" : Str)
 ·exact .inl e
 ·refine .inr ?_
  unfold Fl
  exact tD so (so.nought r hr e)
mutual
theorem xH {fx:cQ}{sm:bY}{os:aQ}(so:dJ fx sm)(ho:∀ x ∈ os,eQ x):∀ {d:D},bM fx sm os d->Tm d/\sz d=lvs d
 | .str x,h=>by
  unfold bM at h
  refine ⟨?_,by unfold sz lvs;rfl⟩
  unfold Tm
  rcases h with h | h
  ·obtain ⟨l,rfl,h1,h2,_⟩:=ho x h
   exact ⟨by simp,by simp;omega⟩
  ·exact tD so h
 | .tup (.str n :: ds),h=>by
  unfold bM at h
  obtain ⟨a,b⟩:=qR so ho h.2
  have h1:=pD h.1
  have h2:=m8 h.2
  refine ⟨?_,by rw [sz,lvs,b];omega⟩
  unfold Tm
  exact ⟨fun z=>by rw [z] at h1;simp at h1,a⟩
 | .lst (.str n :: ds),h=>by
  unfold bM at h
  obtain ⟨a,b⟩:=qR so ho h.2
  have h1:=pD h.1
  have h2:=m8 h.2
  refine ⟨?_,by rw [sz,lvs,b];omega⟩
  unfold Tm
  exact ⟨fun z=>by rw [z] at h1;simp at h1,a⟩
 | .non,h | .bl _,h | .int _,h | .tup [],h | .lst [],h | .tup (.non :: _),h | .tup (.bl _ :: _),h | .tup (.int _ :: _),h | .tup (.tup _ :: _),h | .tup (.lst _ :: _),h | .lst (.non :: _),h | .lst (.bl _ :: _),h | .lst (.int _ :: _),h | .lst (.tup _ :: _),h | .lst (.lst _ :: _),h=>by unfold bM at h;exact absurd h id
theorem qR {fx:cQ}{sm:bY}{os:aQ}(so:dJ fx sm)(ho:∀ x ∈ os,eQ x):∀ {ds:List D},IsTms fx sm os ds->Tms ds/\szs ds=lvss ds
 | [],_=>⟨trivial,rfl⟩
 | d :: ds,⟨a,b⟩=>by
  obtain ⟨c1,c2⟩:=xH so ho a
  obtain ⟨e1,e2⟩:=qR so ho b
  exact ⟨⟨c1,e1⟩,by rw [szs,lvss,c2,e2]⟩
end
theorem Tms.get:∀ {ds:List D} {i:Nat} {d:D},Tms ds->ds[i]?=some d->Tm d
 | [],_,_,_,z=>by simp at z
 | _ :: _,0,_,⟨a,_⟩,h=>by simp at h;subst h;exact a
 | _ :: _,i + 1,_,⟨_,b⟩,h=>Tms.get b (by simpa using h)
theorem BT:∀ {ds:List D} {i:Nat} {d:D},ds[i]?=some d->sz d<=szs ds
 | [],_,_,h=>by simp at h
 | e :: ds,0,_,h=>by simp at h;subst h;rw [szs];omega
 | e :: ds,i + 1,_,h=>by have:=BT (ds:=ds) (i:=i) (by simpa using h);rw [szs];omega
theorem EH (sm:bY)(ds:List D)(d:D):flts sm (ds ++ [d])=flts sm ds ++ [flt sm d]:=by rw [cI,cI,List.map_append];rfl
theorem qM (x:V)(xs:List V):cutV (x :: xs) (some 1) none=xs:=by
 unfold cutV HT.sIx
 simp
theorem fH.prs {H:Hp}:∀ {sm:bY} {sv:List V},fH H sm sv->sv.map (prV H)=(sm.map fun r=>((.inr r.1,V.str r.2):fZ×V)).map (fun kv=>some (kV kv.1,kv.2))
 | [],_,e=>by cases e;rfl
 | r :: l,_,⟨t,us,e,h,q⟩=>by
  subst e
  rw [List.map_cons,fH.prs q]
  unfold prV
  simp only [h]
  rfl
theorem mM:∀ (more acc:List (fZ×V)),((acc ++ more).map (·.1)).Nodup->i8 acc more=acc ++ more
 | [],acc,_=>by simp [i8]
 | p :: r,acc,h=>by
  have e:putK acc p.1 p.2=acc ++ [p]:=by
   unfold putK
   rw [if_neg]
   intro z
   obtain ⟨y,h1,h2⟩:=List.any_eq_true.mp z
   rw [List.map_append,List.map_cons] at h
   exact (List.nodup_append.mp h).2.2 y.1 (List.mem_map_of_mem h1) p.1 List.mem_cons_self (by simpa using h2)
  show i8 (putK acc p.1 p.2) r=_
  rw [e,mM r (acc ++ [p]) (by simpa using h)]
  simp
theorem yD {sm:bY}(nd:(sm.map (·.1)).Nodup):i8 [] (sm.map fun r=>((.inr r.1,V.str r.2):fZ×V))=sm.map fun r=>(.inr r.1,V.str r.2):=by
 rw [mM]
 ·rfl
 ·rw [List.nil_append,List.map_map]
  exact List.pairwise_map.mpr ((List.pairwise_map.mp nd).imp fun h e=>h (Sum.inr.inj e))
theorem qP (n:Str):∀ sm:bY,valV (sm.map fun r=>((.inr r.1,V.str r.2):fZ×V)) (.inr n)=(zr sm n).map V.str
 | []=>rfl
 | r :: l=>by
  by_cases e:r.1=n
  ·rw [List.map_cons,mZ (by rw [e])];simp [zr,e]
  ·rw [List.map_cons,m7 (fun z=>e (by cases z;rfl)),qP n l];simp [zr,e]
noncomputable def CI (t:Addr)(sm:bY)(ds:List D)(H:Hp)(i:Nat)(acc:List V)(σ:St)(H1:Hp):Prop:=∃ o0:Option V,σ=[o0,some (.ref t)]/\aG H H1/\Reps H1 (flts sm (ds.take i)) acc
theorem L8 {c:TT}{tb:TS}{D:jQ}{σ:St}{H:Hp}(Pv:St->Hp->Prop)(μ:St->Hp->Nat)(h0:Pv σ H)
  (hs:∀ σ H,Pv σ H->∀ R:Bool->Hp->Prop,(∀ H',tb { D with nx:=fun σ' H''=>Pv σ' H''/\μ σ' H'' < μ σ H,ct:=fun σ' H''=>Pv σ' H''/\μ σ' H'' < μ σ H,bk:=D.nx } σ H'->R true H')->(∀ H',D.nx σ H'->R false H')->c σ H R):vA c tb D σ H:=by
 refine ⟨fun m σ H=>m=μ σ H/\Pv σ H,⟨_,rfl,h0⟩,?_⟩
 rintro m σ H ⟨rfl,p⟩
 refine hs σ H p _ (fun H' h=>?_) (fun H' h=>?_)
 ·rw [if_pos rfl]
  exact ⟨_,fun σ' H'' ⟨a,b⟩=>⟨_,b,rfl,a⟩,h⟩
 ·rw [if_neg (by decide)];exact h
mutual
theorem bB.tups {H H':Hp}(s:bF H H'):∀ {d:D} {v:V},Fl d->bB H d v->bB H' d v
 | .str x,v,_,h=>h
 | .tup (.str n :: ds),v,f,⟨a,vs,e,ha,x,r,e2,hx,hr⟩=>⟨a,vs,e,s _ _ ha,x,r,e2,hx,Reps.tups s (by unfold Fl at f;exact f) hr⟩
 | .non,_,f,_ | .bl _,_,f,_ | .int _,_,f,_ | .lst _,_,f,_ | .tup [],_,f,_ | .tup (.non :: _),_,f,_ | .tup (.bl _ :: _),_,f,_ | .tup (.int _ :: _),_,f,_ | .tup (.tup _ :: _),_,f,_ | .tup (.lst _ :: _),_,f,_=>by unfold Fl at f;exact absurd f id
theorem Reps.tups {H H':Hp}(s:bF H H'):∀ {ds:List D} {vs:List V},Fls ds->Reps H ds vs->Reps H' ds vs
 | [],_,_,h=>h
 | _ :: _,_,⟨a,b⟩,⟨x,r,e,h1,h2⟩=>⟨x,r,e,bB.tups s a h1,Reps.tups s b h2⟩
end
theorem wQ {d:D}:∀ {l:List D} {k:Nat},k<=l.length->(∀ j e,j < k->l[j]?=some e->ah d e=false)->(∀ e,l[k]?=some e->ah d e=true)->insA d l=l.take k ++ d :: l.drop k
 | [],k,h,_,_=>by
  have:k=0:=by simpa using h
  subst this;rfl
 | e :: l,0,_,_,h=>by
  have:=h e rfl
  rw [insA,if_pos this];rfl
 | e :: l,k + 1,h,h1,h2=>by
  have:=h1 0 e (by omega) rfl
  rw [insA,if_neg (by rw [this];decide),wQ (l:=l) (k:=k) (by simpa using h) (fun j f hj hf=>h1 (j + 1) f (by omega) (by simpa using hf)) (fun f hf=>h2 f (by simpa using hf))]
  rfl
theorem xI (i:Nat)(l:List D):szs (l.take i)<=szs l:=by
 have:=vB (l.take i) (l.drop i)
 rw [List.take_append_drop] at this
 omega
theorem Reps.cut {H:Hp}{d:D}{v:V}(h:bB H d v):∀ {ds:List D} {vs:List V} (k:Nat),Reps H ds vs->Reps H (ds.take k ++ d :: ds.drop k) (vs.take k ++ v :: vs.drop k)
 | [],_,k,e=>by cases e;simp;exact ⟨v,[],rfl,h,rfl⟩
 | _ :: _,_,0,r=>⟨v,_,rfl,h,r⟩
 | _ :: _,_,k + 1,⟨x,r,e,h1,h2⟩=>by subst e;exact ⟨x,_,rfl,h1,Reps.cut h k h2⟩
theorem xZ {n z:Str}:∀ {l:List D},1 < l.length->one n z l = .tup (.str n :: l)
 | [],h=>by simp at h
 | [_],h=>by simp at h
 | _ :: _ :: _,_=>rfl
noncomputable def GI (t va l dd fo ol:Addr)(os:List D)(us:List V)(H2 H4:Hp)(i:Nat)(σ:St)(H5:Hp):Prop:=∃ (o5 o6:Option V) (fs:List V),σ=[some (.ref t),some (.ref va),some (.ref l),some (.ref dd),some (.ref fo),o5,o6]/\aG H2 H5/\H5 ol=some (.lst us)/\bF H4 H5/\H5 fo=some (.lst fs)/\Reps H5 (cN (os.take i)) fs
noncomputable def WI (t va l dd fo:Addr)(x:V)(e:D)(gs:List D)(H5:Hp)(σ:St)(H6:Hp):Prop:=∃ k:Nat,σ=[some (.ref t),some (.ref va),some (.ref l),some (.ref dd),some (.ref fo),some x,some (.int k)]/\aG H5 H6/\k<=gs.length/\∀ j g,j < k->gs[j]?=some g->ah e g=false
noncomputable def wMu (n:Nat)(σ:St)(_:Hp):Nat:=match σ[6]? with | some (some (V.int x))=>((n:Int) - x).toNat | _=>0
noncomputable def oT (n:Nat):Sp:=fun vs H Q _=>∃ (t a b:Addr) (sm:bY) (sv:List V) (d:D) (v:V),vs=[.ref t,v]/\H t=some (.tup [.ref a,.ref b])/\H b=some (.lst sv)/\fH H sm sv/\(sm.map (·.1)).Nodup/\(∀ r ∈ sm,r.2=("" : Str)∨Fl (.str r.2))/\sm.length<=3/\bB H d v/\Tm d/\depD d<=n/\depD d<=50/\sz d<=64 /\
 ∀ (v':V) (H':Hp),aG H H'->bB H' (flt sm d) v'->Q v' H'
theorem KM {f:Addr}{fd:FuncData}(n:Nat)(F:gY K "_law_flat" "_law_flat" dA f fd)(T:iH mg)(O__law_ahead:cH P w K mg base bC (n + 2) "_law_ahead" (iQ n))(O__law_opened:cH P w K mg base bC 1 "_law_opened" kG)
  (O__law_flat:cH P w K mg base bC (n + 2) "_law_flat" (fun vs H Q E=>∃ m,m < n/\oT m vs H Q E)):bR P w K mg base bC (n + 3) f fd fP (oT n):=by
 refine F.ok dW (fun vs H Q E h=>?_) (fun cdv A outer s H vs Q E hr h=>?_)
 ·obtain ⟨t,a,b,sm,sv,d,v,rfl,_⟩:=h
  rfl
 ·obtain ⟨t,a,b,sm,sv,d,v,rfl,ht,hb,rs,nd,fz,s3,rep,tm,dn,d50,s64,q⟩:=h
  have hu:=hr.units
  refine ⟨_,(aE (bK (aR K rfl (aK aL rfl T.n_isinstance rfl (aA (pv 1) (aA (bH (v:=V.ty "str") rfl T.n_str rfl rfl) aB))) (fun _=>rfl)) (aH (aP (pv 1))) aW)
   (aE (iV (i:=2) dW.nd rfl rfl rfl rfl (bG.by (N:=lH) (names:=(aF dA).names) (N':=["_law_part","_law_told"]) (src:=[none,some 0]) (by decide +kernel) rfl rfl) (cX K rfl (eN jU (pv 1) (d8 aJ) eU)) (fun _ _ _ _=>(bJ (i:=0) (show List.Nodup (["_law_part","_law_told"]:aQ) by decide +kernel) rfl (Or.inl rfl))) (fun _ _ _ _=>eT) (fun _ _ _ _=>(aM O__law_flat (hr.mono (by omega)) pass0 rfl (aA (pv 1) (aA (pv 0) aB)))))
   (aE (aZ (i:=3) dW.nd rfl (Or.inl rfl) (bZ (mQ rfl) rfl T.n_dict rfl (aA (bN dD (pv 0) aJ (fun _ _=>rfl)) aB)))
   (aE (bK (a0 (AH hu) (bN dD (pv 1) aJ (fun _ _=>rfl)) (pv 3) (by with_unfolding_all rfl)) (aH (aP (bO bV (fW (aA (bN dD (pv 1) aJ (fun _ _=>rfl)) aB)) (bZ fM rfl T.n_tuple rfl (aA (pv 2) aB))))) aW)
   (aE (aZ (i:=4) dW.nd rfl (Or.inl rfl) (cM aB))
   (aE (eY PassesOwn.never rfl (cX K rfl (aM O__law_opened (hr.mono (by omega)) pass0 rfl (aA (bN dD (pv 1) aJ (fun _ _=>rfl)) (aA (B1 (Nat.lt_of_le_of_lt (Nat.add_le_add_left (by decide) _) hu) (pv 3) (bN dD (pv 1) aJ (fun _ _=>rfl)) (fun _ _=>rfl)) (aA (pv 2) aB))))) (bJ (i:=5) dW.nd rfl (Or.inl rfl)) (aE (aZ (i:=6) dW.nd rfl (Or.inl rfl) aJ)
   (aE (nL PassesOwn.never (PW.pt (oV (a0 (i5 hu) (pv 6) (aK bD rfl T.n_len rfl (aA (pv 4) aB)) (nomark _)) (lK (cL (aR K rfl (aM O__law_ahead (hr.mono (by omega)) pass0 rfl (aA (pv 5) (aA (bN dD (pv 4) (pv 6) (fun _ _=>rfl)) aB))) (fun _=>rfl)))))) (aH (aZ (i:=6) dW.nd rfl (Or.inl rfl) (bO bV (pv 6) aJ))))
   (aH (cW (iW PySem.F.plainAttrs_list PySem.F.slot_list_insert PySem.F.type_list_insert D1 (pv 4) (aA (pv 6) (aA (pv 5) aB))))))))
   (aE (bK (a0 xY (aK bD rfl T.n_len rfl (aA (pv 4) aB)) aJ (nomark _)) (aH (aP (bO bV (fW (aA (bN dD (pv 1) aJ (fun _ _=>rfl)) aB)) (bZ fM rfl T.n_tuple rfl (aA (pv 4) aB))))) aW)
   (aH (aP (bN dD (bO bV (pv 4) (cM (aA (B1 (Nat.lt_of_le_of_lt (Nat.add_le_add_left (by decide) _) hu) (pv 3) (bN dD (pv 1) aJ (fun _ _=>rfl)) (fun _ _=>rfl)) aB))) aJ (fun _ _=>rfl))))))))))),?_⟩
  simp only [lH]
  clear hr F T hu O__law_ahead O__law_opened O__law_flat
  have keep:=aI q (aI ht (aI hb (aI rs (aI nd (aI fz (aI s3 (aI rep (aI tm (aI dn (aI d50 s64))))))))))
  clear q ht hb rs nd fz s3 rep tm dn d50 s64
  walk_at "rd"
  obtain ⟨q,ht,hb,rs,nd,fz,s3,rep,tm,dn,d50,s64⟩:=keep
  rcases BS tm with ⟨x,rfl,hx⟩ | ⟨nm,ds,hd,dne,tms⟩
  ·cases (show v = .str x from rep)
   refine ⟨true,rfl,?_⟩
   rw [if_pos rfl]
   exact q _ _ (fun _ _ h=>h) (by unfold flt;rfl)
  ·obtain ⟨va,vs',rfl,hbb,hseq,res⟩:∃ va vs',v = .ref va/\isV H (.ref va) (.ty "str")=some false/\eG H va (.str nm :: vs')/\Reps H ds vs':=by
    rcases hd with rfl | rfl
    ·obtain ⟨a,vs,rfl,ha,_,vs',rfl,e1,r⟩:=rep
     cases e1
     exact ⟨a,vs',rfl,i9 ha,.inr ha,r⟩
    ·obtain ⟨a,vs,rfl,ha,_,vs',rfl,e1,r⟩:=rep
     cases e1
     exact ⟨a,vs',rfl,kP ha,.inl ha,r⟩
   have ix0:∀ H',aG H H'->ixV H' (.ref va) (.int 0)=some (.str nm):=fun H' s'=>by
    rcases hseq.same s' with e | e
    ·rw [ixV_l e,atI_zero]
    ·rw [ixV_t e,atI_zero]
   have hfl:flt sm d=knot sm nm (flts sm ds):=by rcases hd with rfl | rfl <;> rw [flt]
   have hsz:sz d=max 1 (szs ds):=by rcases hd with rfl | rfl <;> rw [sz]
   have hdp:depD d=depDs ds + 1:=by
    rcases hd with rfl | rfl
    ·rw [depD,depDs,show depD (.str nm)=0 from rfl];omega
    ·rw [depD,depDs,show depD (.str nm)=0 from rfl];omega
   refine ⟨false,hbb,?_⟩
   rw [if_neg (by decide)]
   refine ⟨va,rfl,_,hseq,fun _ h=>?_,fun p o hp ho=>?_⟩
   ·have:=h.1
    simp [HT.sIx] at this
   ·rw [qM] at ho
    have s0:aG H (upd H p o):=aG.upd hp
    refine ⟨vs',by rcases ho with ⟨rfl,_⟩ | ⟨rfl,_⟩;exact .inl upd_same;exact .inr upd_same,fun J hJ=>?_⟩
    refine dC hJ (CI t sm ds (upd H p o)) ⟨none,rfl,fun _ _ h=>h,rfl⟩ ?_ ?_ ?_
    ·rintro i acc σ H' _ ⟨_,_,s1,_⟩
     rw [upd_same,s1 _ _ upd_same]
    ·rintro i x acc σ H1 hx ⟨o0,rfl,s1,racc⟩
     obtain ⟨e,he,re⟩:=Reps.get res hx
     have s2:=s0.trans s1
     have h1:=gW he
     have h2:=BT he
     have h3:=Reps.len racc
     refine ⟨_,rfl,_,rfl,depD e,by omega,t,a,b,sm,sv,e,x,rfl,s2 _ _ ht,s2 _ _ hb,rs.same (bF.of s2),nd,fz,s3,bB.same s2 re,tms.get he,Nat.le_refl _,by omega,by omega,fun v' H2 s' r'=>⟨?_,_,rfl,s1.trans s',?_⟩⟩
     ·refine Nat.lt_of_le_of_lt (m:=64) ?_ (by decide)
      rw [cI,List.length_map,List.length_take] at h3
      have:=jT ds
      omega
     ·rw [aV he,EH];exact Reps.snoc r' (Reps.same s' racc)
    ·rintro acc σ H1 ⟨o0,rfl,s1,racc⟩ l hl
     have racc:Reps H1 (flts sm ds) acc:=by
      have e:=Reps.len res
      rw [e,List.take_length] at racc
      exact racc
     have sl:aG H (upd H1 l (.lst acc)):=(s0.trans s1).trans (aG.upd hl)
     refine ⟨.ref b,by rw [ixV_t (sl _ _ ht)];rfl,b,sv,_,rfl,sl _ _ hb,(rs.same (bF.of sl)).prs,fun dd hdd=>?_⟩
     rw [yD nd]
     have s2:aG (upd H1 l (.lst acc)) (upd (upd H1 l (.lst acc)) dd (.dK (sm.map fun r=>(.inr r.1,V.str r.2)))):=aG.upd hdd
     have s3':=sl.trans s2
     have l2:upd (upd H1 l (.lst acc)) dd (.dK (sm.map fun r=>(.inr r.1,V.str r.2))) l=some (.lst acc):=s2 _ _ upd_same
     have d2:upd (upd H1 l (.lst acc)) dd (.dK (sm.map fun r=>(.inr r.1,V.str r.2))) dd=some (.dK (sm.map fun r=>(.inr r.1,V.str r.2))):=upd_same
     have r2:Reps (upd (upd H1 l (.lst acc)) dd (.dK (sm.map fun r=>(.inr r.1,V.str r.2)))) (flts sm ds) acc:=Reps.same ((aG.upd hl).trans s2) racc
     generalize upd (upd H1 l (.lst acc)) dd (.dK (sm.map fun r=>(.inr r.1,V.str r.2)))=H2 at s2 s3' l2 d2 r2 ⊢
     have g2:jR H2 dd (.str nm) ((zr sm nm).map V.str):=by
      have:=jR.k (k:=.inr nm) d2
      rw [qP] at this
      exact this
     refine ⟨.str nm,ix0 _ s3',dd,_,rfl,g2,_,rfl,?_⟩
     cases hz:zr sm nm with
     | none =>
      rw [if_pos (by rfl)]
      refine ⟨.str nm,ix0 _ s3',by decide,fun p1 hp1=>⟨l,rfl,acc,.inl (by rw [aC (aD l2 hp1)];exact l2),fun l3 H3 hc=>?_⟩⟩
      rcases hc with ⟨hc,_⟩ | ⟨_,hc,rfl⟩
      ·rw [aC (aD l2 hp1),l2] at hc;cases hc
      ·have s4:aG H2 (upd (upd H2 p1 (.tup [.str nm])) l3 (.tup acc)):=(aG.upd hp1).trans (aG.upd hc)
       refine ⟨.tup (.str nm :: acc),?_,fun p4 hp4=>?_⟩
       ·have e1:upd (upd H2 p1 (.tup [.str nm])) l3 (.tup acc) p1=some (.tup [.str nm]):=by rw [aC (aD upd_same hc)];exact upd_same
        have e2:upd (upd H2 p1 (.tup [.str nm])) l3 (.tup acc) l3=some (.tup acc):=upd_same
        have la:=Reps.len r2
        rw [cI,List.length_map] at la
        have:=jT ds
        unfold catO
        simp only [e1,e2]
        refine if_pos ⟨Nat.le_trans (m:=100) (by simp;omega) (by decide),by simp,fun z=>dne (List.length_eq_zero_iff.mp (by rw [← la,z];rfl))⟩
       ·refine q _ _ (s3'.trans (s4.trans (aG.upd hp4))) ?_
        rw [hfl]
        unfold knot
        rw [hz]
        exact ⟨p4,_,rfl,upd_same,.str nm,acc,rfl,rfl,Reps.same (s4.trans (aG.upd hp4)) r2⟩
     | some z =>
      rw [if_neg (by simp)]
      refine ⟨Nat.zero_le _,fun fo hfo=>⟨.str nm,ix0 _ (s3'.trans (aG.upd hfo)),?_⟩⟩
      have sfo:aG H2 (upd H2 fo (.lst [])):=aG.upd hfo
      have g3:jR (upd H2 fo (.lst [])) dd (.str nm) (some (.str z)):=by
       have:=jR.k (k:=.inr nm) (sfo _ _ d2)
       rw [qP,hz] at this
       exact this
      refine ⟨_,rfl,_,rfl,.str nm,ix0 _ (s3'.trans sfo),dd,.str z,rfl,g3,?_⟩
      have fls:=CM fz tms
      have hsf:=nX sm ds
      have hdf:=kQ sm ds
      refine ⟨nm,z,l,flts sm ds,acc,rfl,sfo _ _ l2,Reps.same sfo r2,fls,fun i=>?_,by omega,fun ol us H4 s5 ol0 ol4 rus=>?_⟩
      ·have h1:=jT (opn nm z ((flts sm ds).take i))
       have h2:=rB nm z ((flts sm ds).take i)
       have h3:=xI i (flts sm ds)
       omega
      ·refine ⟨ol,rfl,us,.inl ol4,fun J hJ=>?_⟩
       have fop:Fls (opn nm z (flts sm ds)):=v8 fls
       have hlo:(opn nm z (flts sm ds)).length<=64:=by
        have h1:=jT (opn nm z (flts sm ds))
        have h2:=rB nm z (flts sm ds)
        omega
       have hdo:=v9 nm z (flts sm ds)
       have nfo:ol≠fo:=fun e=>by rw [e,upd_same] at ol0;cases ol0
       have fo4:H4 fo=some (.lst []):=s5 _ _ upd_same
       have s6:aG H2 H4:=sfo.trans s5
       have rus4:Reps H4 (opn nm z (flts sm ds)) us:=Reps.same s5 rus
       generalize hos:opn nm z (flts sm ds)=os at fop hlo hdo rus rus4
       have lus:=Reps.len rus
       have keep:=aI q (aI ht (aI hb (aI rs (aI nd (aI fz (aI tm (aI dn (aI d50 (aI s64 (aI hd (aI dne (aI tms (aI hseq (aI ix0 (aI hfl (aI hsz (aI hdp (aI s3' (aI l2 (aI d2 (aI hz (aI s5 (aI ol0 (aI ol4 (aI fop (aI hlo (aI hdo (aI nfo (aI fo4 (aI s6 (aI rus4 (aI lus hos))))))))))))))))))))))))))))))))
       refine iY hJ (GI t va l dd fo ol os us H2 H4) ⟨none,none,[],rfl,s6,ol4,bF.refl _,fo4,rfl⟩ (by rintro i σ H' _ ⟨_,_,_,_,_,h,_⟩;rw [h,ol4]) ?_ ?_
       ·rintro i x σ H5 hx ⟨o5,o6,fs,rfl,g1,g2',g3',g4,g5⟩
        clear q ht hb rs nd fz tm dn d50 s64 hd dne tms hseq ix0 hfl hsz hdp s3' l2 d2 hz s5 ol0 ol4 fop hlo hdo nfo fo4 s6 rus4 lus hos
        have keep2:=aI hx (aI g1 (aI g2' (aI g3' (aI g4 g5))))
        clear hx g1 g2' g3' g4 g5
        walk_at "rd"
        obtain ⟨q,ht,hb,rs,nd,fz,tm,dn,d50,s64,hd,dne,tms,hseq,ix0,hfl,hsz,hdp,s3',l2,d2,hz,s5,ol0,ol4,fop,hlo,hdo,nfo,fo4,s6,rus4,lus,hos⟩:=keep
        obtain ⟨hx,g1,g2',g3',g4,g5⟩:=keep2
        obtain ⟨e,he,re⟩:=Reps.get rus4 hx
        have fe:=fop.get he
        have re5:=bB.tups g3' fe re
        have dpe:=gW he
        have fgs:∀ g ∈ cN (os.take i),Fl g:=fun g hg=>fY fop g (List.mem_of_mem_take ((cD _).mem_iff.mp hg))
        have lf:=Reps.len g5
        have li:(cN (os.take i)).length<=64:=by rw [(cD _).length_eq,List.length_take];omega
        refine L8 (WI t va l dd fo x e (cN (os.take i)) H5) (wMu fs.length) ⟨0,rfl,fun _ _ h=>h,Nat.zero_le _,fun j g hj=>absurd hj (Nat.not_lt_zero _)⟩ ?_
        rintro σ H6 ⟨k,rfl,w1,w2,w3⟩ R hT hF
        have h6:=w1 _ _ g4
        by_cases hk:k < fs.length
        ·obtain ⟨y,hy⟩:∃ y,fs[k]?=some y:=⟨_,List.getElem?_eq_getElem hk⟩
         obtain ⟨g,hg,rg⟩:=Reps.get g5 hy
         have rg6:=bB.same w1 rg
         have re6:=bB.same w1 re5
         have ix6:ixV H6 (.ref fo) (.int k)=some y:=by rw [ixV_l h6,CY];exact hy
         have keep3:=aI q (aI ix0 (aI hx (aI hT (aI hF (aI g1 (aI g2' (aI g3' (aI g4 (aI g5 (aI re6 (aI rg6 (aI w3 (aI hos (aI fgs (aI w1 hfl)))))))))))))))
         clear q ix0 hx hT hF g1 g2' g3' g4 g5 re6 rg6 w3 hos fgs re re5 rg rus rus4 w1 fop hfl hz ht hb rs nd fz tm hd tms hseq d2 s5 ol0 ol4 fo4 s6 hJ res rep racc r2 g2 g3 s3' sfo sl s2 s0 s1
         walk_at "rd"
         obtain ⟨q,ix0,hx,hT,hF,g1,g2',g3',g4,g5,re6,rg6,w3,hos,fgs,w1,hfl⟩:=keep3
         rw [if_pos (by omega)]
         refine ⟨e,g,x,y,rfl,re6,rg6,fe,fgs g (List.mem_of_getElem? hg),by omega,by omega,fun H7 s7=>⟨ah e g,rfl,?_⟩⟩
         cases hab:ah e g with
         | false =>
          refine hT H7 ?_
          refine ⟨_,rfl,.inl ⟨_,rfl,⟨k + 1,rfl,w1.trans s7,by omega,fun j g' hj hg'=>?_⟩,?_⟩⟩
          ·by_cases ej:j < k
           ·exact w3 j g' ej hg'
           ·have:j=k:=by omega
            subst this
            rw [hg] at hg'
            cases hg'
            exact hab
          ·show ((fs.length:Int) - ((k:Int) + 1)).toNat < ((fs.length:Int) - (k:Int)).toNat
           omega
         | true =>
          refine hF H7 ?_
          have h7:=s7 _ _ h6
          have ein:=wQ (d:=e) (l:=cN (os.take i)) w2 w3 (fun g' hg'=>by rw [hg] at hg';cases hg';exact hab)
          refine ⟨_,rfl,tyL h7,_,rfl,_,rfl,fo,fs,k,x,rfl,rfl,h7,by omega,by omega,?_⟩
          have w9:=w1.trans s7
          have s9:aG H2 (upd H7 fo (.lst (fs.take k ++ x :: fs.drop k))):=fun c u hc=>by
           rw [aC (fun w=>by rw [w,hfo] at hc;cases hc)]
           exact w9 _ _ (g1 _ _ hc)
          have t9:bF H7 (upd H7 fo (.lst (fs.take k ++ x :: fs.drop k))):=bF.lst h7
          refine ⟨_,_,fs.take k ++ x :: fs.drop k,rfl,s9,by rw [aC nfo];exact w9 _ _ g2',(g3'.trans (bF.of w9)).trans t9,upd_same,?_⟩
          rw [aV he,pT,ein]
          exact Reps.cut (bB.tups t9 fe (bB.same s7 re6)) k (Reps.tups t9 (jA fgs) (Reps.same w9 g5))
        ·have keep3:=aI q (aI ix0 (aI hx (aI hT (aI hF (aI g1 (aI g2' (aI g3' (aI g4 (aI g5 (aI w3 (aI hos (aI fgs (aI w1 (aI re5 hfl))))))))))))))
         clear q ix0 hx hT hF g1 g2' g3' g4 g5 w3 hos fgs re re5 rus rus4 w1 fop hfl hz ht hb rs nd fz tm hd tms hseq d2 s5 ol0 ol4 fo4 s6 hJ res rep racc r2 g2 g3 s3' sfo sl s2 s0 s1
         walk_at "rd"
         obtain ⟨q,ix0,hx,hT,hF,g1,g2',g3',g4,g5,w3,hos,fgs,w1,re5,hfl⟩:=keep3
         rw [if_neg (by omega)]
         refine hF H6 ?_
         have ein:=wQ (d:=e) (l:=cN (os.take i)) w2 w3 (fun g' hg'=>by
          have:=(List.getElem?_eq_some_iff.mp hg').1
          omega)
         have re6:=bB.same w1 re5
         refine ⟨_,rfl,tyL h6,_,rfl,_,rfl,fo,fs,k,x,rfl,rfl,h6,by omega,by omega,?_⟩
         have s9:aG H2 (upd H6 fo (.lst (fs.take k ++ x :: fs.drop k))):=fun c u hc=>by
          rw [aC (fun w=>by rw [w,hfo] at hc;cases hc)]
          exact w1 _ _ (g1 _ _ hc)
         have t9:bF H6 (upd H6 fo (.lst (fs.take k ++ x :: fs.drop k))):=bF.lst h6
         refine ⟨_,_,fs.take k ++ x :: fs.drop k,rfl,s9,by rw [aC nfo];exact w1 _ _ g2',(g3'.trans (bF.of w1)).trans t9,upd_same,?_⟩
         rw [aV he,pT,ein]
         exact Reps.cut (bB.tups t9 fe re6) k (Reps.tups t9 (jA fgs) (Reps.same w1 g5))
       ·rintro σ H5 ⟨o5,o6,fs,rfl,g1,g2',g3',g4,g5⟩
        rw [lus,List.take_length] at g5
        have keep2:=aI g1 (aI g2' (aI g3' (aI g4 g5)))
        clear q ht hb rs nd fz tm dn d50 s64 hd dne tms hseq ix0 hfl hsz hdp s3' l2 d2 hz s5 ol0 ol4 fop hlo hdo nfo fo4 s6 rus4 lus hos g1 g2' g3' g4 g5
        walk_at "rd"
        obtain ⟨q,ht,hb,rs,nd,fz,tm,dn,d50,s64,hd,dne,tms,hseq,ix0,hfl,hsz,hdp,s3',l2,d2,hz,s5,ol0,ol4,fop,hlo,hdo,nfo,fo4,s6,rus4,lus,hos⟩:=keep
        obtain ⟨g1,g2',g3',g4,g5⟩:=keep2
        have lf:=Reps.len g5
        have ll:(cN os).length=os.length:=(cD os).length_eq
        have hk:flt sm d=one nm z (cN os):=by
         rw [hfl];unfold knot;rw [hz,← hos]
        have s7:=s3'.trans g1
        by_cases h:1 < fs.length
        ·rw [if_pos (by omega)]
         refine ⟨.str nm,ix0 _ s7,by decide,fun p1 hp1=>⟨fs,.inl (by rw [aC (aD g4 hp1)];exact g4),fun l3 H3 hc=>?_⟩⟩
         rcases hc with ⟨hc,_⟩ | ⟨_,hc,rfl⟩
         ·rw [aC (aD g4 hp1),g4] at hc;cases hc
         ·have s4:aG H5 (upd (upd H5 p1 (.tup [.str nm])) l3 (.tup fs)):=(aG.upd hp1).trans (aG.upd hc)
          refine ⟨.tup (.str nm :: fs),?_,fun p4 hp4=>?_⟩
          ·have e1:upd (upd H5 p1 (.tup [.str nm])) l3 (.tup fs) p1=some (.tup [.str nm]):=by rw [aC (aD upd_same hc)];exact upd_same
           have e2:upd (upd H5 p1 (.tup [.str nm])) l3 (.tup fs) l3=some (.tup fs):=upd_same
           unfold catO
           simp only [e1,e2]
           refine if_pos ⟨Nat.le_trans (m:=100) (by simp;omega) (by decide),by simp,fun z=>by rw [z] at h;simp at h⟩
          ·refine q _ _ (s7.trans (s4.trans (aG.upd hp4))) ?_
           rw [hk,xZ (by omega)]
           exact ⟨p4,_,rfl,upd_same,.str nm,fs,rfl,rfl,Reps.same (s4.trans (aG.upd hp4)) g5⟩
        ·rw [if_neg (by omega)]
         have g6:jR H5 dd (.str nm) (some (.str z)):=by
          have:=jR.k (k:=.inr nm) (g1 _ _ d2)
          rw [qP,hz] at this
          exact this
         refine ⟨_,rfl,_,rfl,.str nm,ix0 _ s7,dd,.str z,rfl,g6,by decide,fun p1 hp1=>⟨.lst (fs ++ [.str z]),n5 (by rw [aC (aD g4 hp1)];exact g4) upd_same (Nat.le_trans (m:=100) (by simp;omega) (by decide)),fun p2 hp2=>?_⟩⟩
         have s8:aG H5 (upd (upd H5 p1 (.lst [.str z])) p2 (.lst (fs ++ [.str z]))):=(aG.upd hp1).trans (aG.upd hp2)
         cases hl:cN os with
         | nil =>
          rw [hl] at g5 hk
          cases g5
          exact ⟨.str z,by rw [ixV_l upd_same];rfl,q _ _ (s7.trans s8) (by rw [hk];rfl)⟩
         | cons g gs =>
          rw [hl] at g5 hk lf
          have en:gs=[]:=by
           rw [List.length_cons] at lf
           exact List.length_eq_zero_iff.mp (by omega)
          subst en
          obtain ⟨y,r,rfl,ry,_⟩:=g5
          exact ⟨y,by rw [ixV_l upd_same,List.cons_append,atI_zero],q _ _ (s7.trans s8) (by rw [hk];exact bB.same s8 ry)⟩
theorem K6 {f:Addr}{fd:FuncData}(F:gY K "_law_flat" "_law_flat" dA f fd)(T:iH mg)(O__law_ahead:∀ n,cH P w K mg base bC (n + 2) "_law_ahead" (iQ n))(O__law_opened:cH P w K mg base bC 1 "_law_opened" kG)
  (hm:mg "_law_flat" = some (.ref f)) (hk:PySem.W.keepIn K (.ref f)=true) (hb:eX K fd fP []):∀ n,bR P w K mg base bC (n + 3) f fd fP (oT n):=by
 intro n
 induction n using Nat.strongRecOn with
 | ind n ih =>
  exact KM n F T (O__law_ahead n) O__law_opened ⟨f,fd,_,⟨fun vs H Q E ⟨m,h1,h⟩=>(ih m h1).len vs H Q E h,fun A outer s H args us vs Q E hr he hb hv ⟨m,h1,h⟩=>((ih m h1).mono (by omega)).run A outer s H args us vs Q E hr he hb hv h⟩,hm,hk,hb⟩
theorem GJ {f:Addr}{fd:FuncData}(F:gY K "_law_flat" "_law_flat" dA f fd)(T:iH mg)(O__law_ahead:∀ n,cH P w K mg base bC (n + 2) "_law_ahead" (iQ n))(O__law_opened:cH P w K mg base bC 1 "_law_opened" kG)
  (hm:mg "_law_flat" = some (.ref f)) (hk:PySem.W.keepIn K (.ref f)=true) (hb:eX K fd fP []) (n:Nat):cH P w K mg base bC (n + 3) "_law_flat" (oT n):=⟨f,fd,_,K6 F T O__law_ahead O__law_opened hm hk hb n,hm,hk,hb⟩
end
section
variable {P:Program}{w:World}{K:PySem.W.Frag}{mg:gA}{base:Heap}
theorem Reps.rev {H:Hp}:∀ {ds:List D} {vs:List V},Reps H ds vs->Reps H ds.reverse vs.reverse
 | [],_,e=>by cases e;rfl
 | d :: ds,_,⟨x,r,e,a,b⟩=>by subst e;rw [List.reverse_cons,List.reverse_cons];exact Reps.snoc a (Reps.rev b)
end
end Lw
namespace L2
open PySem PySem.Spec PyProof.Rows
noncomputable def revT {α:Type}(xs:List α):List α:=(xs.drop 1).reverse
theorem tO {α:Type}(x:α)(xs:List α):revT (x :: xs)=xs.reverse:=rfl
theorem II (k:Nat):(List.range k).map (fun m=>k - m)=((List.range k).map (fun m=>1 + m)).reverse:=by
 apply List.ext_getElem
 ·simp
 ·intro i h1 h2
  simp at h1 h2 ⊢
  omega
theorem uY (its:bP)(k:Nat)(h:its.length=k + 1):(List.range k).filterMap (fun m=>its.toArray[k - m]?)=(its.drop 1).reverse:=by
 have e:(List.range k).filterMap (fun m=>its.toArray[k - m]?)=((List.range k).map (fun m=>k - m)).filterMap (fun j=>its.toArray[j]?):=by rw [List.filterMap_map];rfl
 rw [e,II,List.filterMap_reverse]
 have:=pick_run its.toArray 1 k
 rw [this]
 congr 1
 rw [List.take_of_length_le]
 rw [List.length_drop]
 simp
 omega
theorem DQ (its:bP)(h:its≠[]):slicePick its.toArray none (some 0) (some (-1))=(revT its).toArray:=by
 obtain ⟨k,hk⟩:∃ k,its.length=k + 1:=⟨its.length - 1,by have:=List.length_pos_iff.mpr h;omega⟩
 unfold slicePick
 rw [List.size_toArray,hk]
 have e:sliceBounds none (some 0) (some (-1)) (k + 1)=((k:Int),0,-1):=by
  simp only [sliceBounds,Option.getD_some]
  refine Prod.ext ?_ (Prod.ext ?_ rfl)
  ·simp
  ·simp <;> omega
 rw [e]
 have e2:sliceRange (k:Int) 0 (-1)=(List.range k).map fun m=>k - m:=by
  unfold sliceRange
  have c:(if (-1:Int) > 0 then (if (k:Int) < 0 then (0 - (k:Int) + -1 - 1) / -1 else 0) else (if (k:Int) > 0 then ((k:Int) - 0 - -1 - 1) / (- -1) else 0)).toNat=k:=by
   rw [if_neg (by decide)]
   split
   ·have:((k:Int) - 0 - -1 - 1) / (- -1)=k:=by rw [show (- -1:Int)=1 from rfl,Int.ediv_one];omega
    rw [this];omega
   ·omega
  dsimp only
  rw [c]
  refine List.map_congr_left fun m hm=>?_
  have:=List.mem_range.mp hm
  omega
 dsimp only
 rw [e2,List.filterMap_map]
 have:=uY its k hk
 unfold revT
 rw [← this]
 rfl
theorem w6 {prog:Program}{w:World}{A:Around}{E:bX}{s:Shared}{sl:Addr}{vl vu vt:Value}{n:Nat}{Q:Int×Int×Nat->Shared->Prop}(hs:s.heap.IsSliceOf sl vl vu vt)(pl:IsPart vl none)(pu:IsPart vu (some 0))(pt:IsPart vt (some (-1)))(hn:1<=n)
  (h:Q ((n:Int) - 1,-1,n - 1) s):wpAny (model prog w) A (Builtin.Slice.sliceApplied (.ref sl) (pure (n:Int))) Q E s:=by
 obtain ⟨os,hos,hcs,hds⟩:=id hs
 unfold Builtin.Slice.sliceApplied Builtin.Slice.sliceFields
 refine wpAny_bind (wpAny_bind (wpAny_field hos hds (x:=vl) rfl (wpAny_bind (wpAny_field hos hds (x:=vu) rfl (wpAny_bind (wpAny_field hos hds (x:=vt) rfl (wpAny_pure ?_)))))))
 refine wpAny_bind (HT.slicePart_ pt ?_)
 show wpAny _ _ (if ((-1:Int) == 0)=true then _ else _) _ _ s
 rw [if_neg (by decide)]
 refine wpAny_bind (HT.slicePart_ pl (wpAny_bind (HT.slicePart_ pu (wpAny_bind (wpAny_pure ?_)))))
 have e1:Builtin.Slice.sliceAdjust none (some 0) (-1) (n:Int)=((n:Int) - 1,0):=by
  unfold Builtin.Slice.sliceAdjust
  refine Prod.ext ?_ ?_
  ·simp
  ·simp
   omega
 have e2:Builtin.Slice.slicePlaces ((n:Int) - 1) 0 (-1)=n - 1:=by
  unfold Builtin.Slice.slicePlaces
  rw [if_neg (by decide)]
  split
  ·rw [show (- -1:Int)=1 from rfl,Int.ediv_one];omega
  ·omega
 show wpAny _ _ (match Builtin.Slice.sliceAdjust none (some 0) (-1) (n:Int) with | (lo,hi)=>pure (lo,(-1:Int),Builtin.Slice.slicePlaces lo hi (-1))) _ _ s
 rw [e1]
 show wpAny _ _ (pure ((n:Int) - 1,(-1:Int),Builtin.Slice.slicePlaces ((n:Int) - 1) 0 (-1))) _ _ s
 rw [e2]
 exact wpAny_pure h
theorem zL {prog:Program}{w:World}{A:Around}{E:bX}{s:Shared}{t sl:Addr}{its:bP}{vl vu vt:Value}{Q:bX}(ht:IsTup s.heap t its.toArray)(hs:s.heap.IsSliceOf sl vl vu vt)(pl:IsPart vl none)(pu:IsPart vu (some 0))(pt:IsPart vt (some (-1)))(hn:its≠[])(hz:its.length<=sizeLine)
  (h:Q (.ref s.heap.objs.size) { s with heap:=s.heap.push { cls:=.type "tuple",data:=.seq (revT its).toArray } }):wpAny (model prog w) A (getItem (.ref t) (.ref sl)) Q E s:=by
 obtain ⟨k,hk⟩:∃ k,its.length=k + 1:=⟨its.length - 1,by have:=List.length_pos_iff.mpr hn;omega⟩
 obtain ⟨os,hos,hcs,hds⟩:=id hs
 have hTs:s.TypeIs (.ref sl) "slice":=⟨os,hos,hcs⟩
 unfold getItem
 try with_reducible refine wpAny_holding ?_
 first | refine wpAny_bind (wpAny_pure ?_) | skip
 refine wpAny_bind (wpAny_sequenceKey ht.typeIs (by decide) ?_)
 refine wpAny_bind (wpAny_callSpecial?_slot (name:=Str.ofString "__getitem__") ht.typeIs PyProof.Rows.slot_tuple_getitem
  (wpAny_call_entry PyProof.Rows.slot_tuple_getitem ht.typeIs entry_tuple_getitem ?_ (args_tuple_getitem _ _)))
 show wpAny _ _ (Builtin.Tuple.tupleItemsOf (.ref t) >>= _) _ _ s
 refine wpAny_bind (tupleItemsOf_ ht ?_)
 refine wpAny_bind (wpAny_typeOf hTs ?_)
 rw [if_pos (by decide)]
 refine wpAny_bind (w6 (n:=its.toArray.size) hs pl pu pt (by rw [List.size_toArray];omega) ?_)
 dsimp only
 rw [if_neg (by intro q;rw [Bool.and_eq_true,Bool.and_eq_true] at q;exact absurd q.1.2 (by decide))]
 have e:((List.range (its.toArray.size - 1)).filterMap fun (m:Nat)=>its.toArray[(((its.toArray.size:Nat):Int) - 1 + (m:Int) * -1).toNat]?).toArray=(revT its).toArray:=by
  rw [List.size_toArray,hk]
  have q:=uY its k hk
  unfold revT
  rw [← q]
  congr 2
  funext m
  congr 1
  omega
 rw [e]
 have hsz:sizeOk (.seq (revT its).toArray):=by
  show (revT its).toArray.size<=sizeLine
  rw [List.size_toArray]
  unfold revT
  rw [List.length_reverse,List.length_drop]
  omega
 first
  | exact wpAny_bind (m:=Builtin.Tuple.tupleExact _) (wpAny_newObj_type (wpAny_pure ⟨_,rfl,wpAny_pure h⟩) hsz)
  | exact wpAny_bind (m:=Builtin.Tuple.tupleExact _) (wpAny_newObj_type (wpAny_bind (wpAny_pure (wpAny_pure ⟨_,rfl,wpAny_pure h⟩))) hsz)
  | exact wpAny_bind (wpAny_bind (m:=Builtin.Tuple.tupleExact _) (wpAny_newObj_type (wpAny_pure (wpAny_pure ⟨_,rfl,wpAny_pure h⟩)) hsz))
  | exact wpAny_bind (wpAny_bind (m:=Builtin.Tuple.tupleExact _) (wpAny_newObj_type (wpAny_pure ⟨_,rfl,wpAny_pure h⟩) hsz))
noncomputable def OM (X:Cx)(r:V->Option Int->Option Int->Option Int->Hp->VK->Prop):Prop :=
 ∀ (pins:dE) (s:Shared) (σ:St) (H:Hp) (x:V) (v vl vu vt:Value) (lo hi st:Option Int) (sl:Addr) (Q:VK),aO X pins σ H s->aX x v->s.heap.IsSliceOf sl vl vu vt->IsPart vl lo->IsPart vu hi->IsPart vt st->r x lo hi st H Q ->
  ∃ T id,typeLookup (.type T) "__getitem__" = pure (some (.builtin id))/\s.TypeIs v T/\wpAny (model X.prog X.w) X.A (getItem v (.ref sl)) (EP X pins σ Q) X.xe s
noncomputable def tSl3 (r:V->Option Int->Option Int->Option Int->Hp->VK->Prop)(te:TE)(tl th tt:TO):TE:=fun σ H Q=>te σ H fun x H1=>tl σ H1 fun l H2=>th σ H2 fun u H3=>tt σ H3 fun t H4=>r x l u t H4 Q
theorem tQ {X:Cx}{e:Expr}{te:TE}{lo hi:Option Expr}{st:Expr}{tl th tt:TO}{pos p2:Pos}{r:V->Option Int->Option Int->Option Int->Hp->VK->Prop}(hr:OM X r)(he:PE X e te)(hl:PO X lo tl)(hu:PO X hi th)(ht:PO X (some st) tt):PE X (.Subscript e (.Slice lo hi (some st) p2) pos) (tSl3 r te tl th tt):=by
 intro pins s σ H Q I h
 refine Subscript_ (thn (he pins s σ H _ I h) fun v s1 ⟨x,H1,I1,r1,q1⟩=>?_)
 refine wpAny_Slice (thn (hl pins s1 σ H1 _ I1 q1) fun vl s2 ⟨l,H2,I2,pl,q2⟩=>thn (hu pins s2 σ H2 _ I2 q2) fun vu s3 ⟨u,H3,I3,pu,q3⟩=>thn (ht pins s3 σ H3 _ I3 q3) fun vt s4 ⟨t,H4,I4,pt,q4⟩=>?_)
 have I5:aO X pins σ H4 { s4 with heap:=s4.heap.push { cls:=.type "slice",data:=.fields #[vl,vu,vt] } }:=I4.kept (t':=s4.toks) fun b ob q=>Heap.get?_push_of_some _ q
 obtain ⟨T,id,hT,hy,hg⟩:=hr pins _ σ H4 x v vl vu vt l u t s4.heap.objs.size Q I5 r1 (Heap.IsSliceOf.new ..) pl pu pt q4
 exact tail_any (ops:=[v,.ref s4.heap.objs.size]) hy hT hg (by with_unfolding_all rfl)
noncomputable def rBack:V->Option Int->Option Int->Option Int->Hp->VK->Prop:=fun x lo hi st H Q=>lo=none/\hi=some 0/\st=some (-1)/\∃ a xs,x = .ref a/\eG H a xs/\xs≠[] /\
 ∀ p o,H p=none->(o = .lst (revT xs)/\H a=some (.lst xs)∨o = .tup (revT xs)/\H a=some (.tup xs))->Q (.ref p) (upd H p o)
theorem aU.revT {xs:List V}{us:bP}(h:aU xs us):aU (revT xs) (L2.revT us):=(h.drop 1).reverse
theorem xQ {α:Type}(xs:List α):(revT xs).length<=xs.length:=by unfold revT;rw [List.length_reverse,List.length_drop];omega
theorem BP {xs:List V}{us:bP}(h:aU xs us)(n:xs≠[]):us≠[]:=fun z=>by
 have:=h.length
 rw [z] at this
 exact n (List.length_eq_zero_iff.mp this)
theorem BY {X:Cx}:OM X rBack:=by
 intro pins s σ H x v vl vu vt lo hi st sl Q I rx hs pl pu pt h
 obtain ⟨rfl,rfl,rfl,a,xs,rfl,ha | ha,hn,q⟩:=h
 ·cases rx
  obtain ⟨its,r,hl,hz⟩:=I.list (eA.of ha)
  refine ⟨"list",_,slot_list_getitem.lookup,hl.isList.typeIs,?_⟩
  have hlen:=r.length
  refine wpAny_getItem_list_slice hl.isList hs pl pu pt (by decide) ?_ (by rw [List.size_toArray] <;> omega)
  rw [DQ its (BP r hn)]
  refine ⟨.ref s.heap.objs.size,_,I.laid (t':=s.toks) (o:=.lst (revT xs)) (fun b ob q=>Heap.get?_push_of_some _ q) (Nat.le_refl _) ?_,rfl,q _ _ (I.hok.fresh (Nat.le_refl _)) (.inl ⟨rfl,ha⟩)⟩
  exact ⟨Nat.le_trans (xQ xs) hz,_,0,r.revT,Heap.get?_push_size _ rfl⟩
 ·cases rx
  obtain ⟨its,r,hl,hz⟩:=I.tuple (h8.of ha)
  refine ⟨"tuple",_,PyProof.Rows.slot_tuple_getitem.lookup,hl.typeIs,?_⟩
  have hlen:=r.length
  refine zL hl hs pl pu pt (BP r hn) (by omega) ?_
  refine ⟨.ref s.heap.objs.size,_,I.laid (t':=s.toks) (o:=.tup (revT xs)) (fun b ob q=>Heap.get?_push_of_some _ q) (Nat.le_refl _) ?_,rfl,q _ _ (I.hok.fresh (Nat.le_refl _)) (.inr ⟨rfl,ha⟩)⟩
  exact ⟨Nat.le_trans (xQ xs) hz,_,r.revT,⟨_,Heap.get?_push_size _ rfl,rfl,_,rfl⟩⟩
noncomputable def rExtU:V->List V->Hp->VK->Prop:=fun x vs H Q=>∃ l b xs zs,x = .ref l/\vs=[.ref b]/\H l=some (.lst xs)/\eG H b zs/\xs.length + zs.length<=sizeLine/\Q .non (upd H l (.lst (xs ++ zs)))
theorem K9 {l b:Addr}{its its2:iA}{n n2:Nat}{od:Option Addr}{osl:Array (Option Value)}(h0:(!its.isEmpty && Builtin.List.listTooLong (its.size + its2.size))=false)(h1:its.size<=sizeLine)(h2:its.size + its2.size<=sizeLine + 1) :
  Meets (Builtin.«list.extend» ⟨[.ref l,.ref b],[]⟩) (fun _ R s=>s.heap.get? l=some { cls:=.type "list",data:=.seq its n }/\s.heap.get? b=some ⟨.type "tuple",od,.seq its2 n2,osl⟩ /\
   R (.ok (.ret .none)) { s with heap:=s.heap.update l (Obj.mapSeq fun x=>x ++ its2) }):=by
 refine .of_wp fun prog w A R s1 h=>?_
 obtain ⟨hp,g,d,tk,os⟩:=s1
 obtain ⟨hl,hb,h⟩:=h
 have h0:¬ (!its.isEmpty && Builtin.List.listTooLong (its.size + its2.size))=true:=by rw [h0];decide
 have f1:=AutoSeq1.idx_int
 have f4:=AutoSeq1.sub_tuple_list
 have f5:=AutoSeq1.sub_list_tuple
 have h3:(its ++ its2).size<=sizeLine + 1:=by
  rw [Array.size_append]
  exact h2
 wp_walk using (wpAny_updateSeq hl rfl (hz:=h1) (_hz':=h3)),
  wpAny_loadPart' hl,wpAny_loadPart' hb
 exact ⟨_,rfl,h⟩
theorem wE {X:Cx}:N7 X "list.extend" rExtU:=by
 intro pins s σ H x vs v us Q I rx rv h
 obtain ⟨l,b,xs,zs,hx,hv,hH,hB | hB,hz,q⟩:=h
 ·exact D2 pins s σ H x vs v us Q I rx rv ⟨l,b,xs,zs,hx,hv,hH,hB,hz,q⟩
 subst hx hv
 cases rx
 obtain ⟨u,rfl,ru⟩:=rv.one
 cases ru
 obtain ⟨z,its,n,r,hl,e⟩:=I.lstM hH
 obtain ⟨its2,r2,⟨⟨oc,od,odt,osl⟩,e2,c2,n2,d2⟩,z2⟩:=I.tuple (h8.of hB)
 cases c2
 cases d2
 have hl2:=r2.length
 have hsz:its.toArray.size + its2.toArray.size<=sizeLine:=by rw [List.size_toArray,List.size_toArray];omega
 have m:=K9 (l:=l) (b:=b) (its:=its.toArray) (its2:=its2.toArray) (n:=n) (n2:=n2) (od:=od) (osl:=osl) (by rw [rD hsz,Bool.and_false]) (by rw [List.size_toArray];omega) (by omega)
 refine call_meets F.slot_list_extend ⟨_,e,rfl⟩ F.entry_list_extend (F.args_list_extend_2 _ _) m ⟨e,e2,?_⟩
 refine ⟨.non,_,I.lset (its':=its ++ its2) hH e (by simp) (r.append r2) ?_,rfl,q⟩
 rw [List.length_append]
 omega
noncomputable def tl1 (z:Str):Str:=⟨(z.cps.toList.drop 1).toArray⟩
noncomputable def rSlTx:V->Option Int->Option Int->Hp->VK->Prop:=fun x lo hi H Q=>∃ z,x = .str z/\lo=some 1/\hi=none/\1<=z.length/\z.length<=sizeLine/\Q (.str (tl1 z)) H
theorem DP (z:Str)(h:1<=z.length)(u:Tok):slicePicked z (some (1,u)) none none=(List.range (z.length - 1)).map fun m=>1 + m:=by
 show Builtin.Str.strSliceIndices (some 1) none 1 z.length=_
 unfold Builtin.Str.strSliceIndices;dsimp only
 rw [if_neg (show ¬ (1:Int) < 0 by decide),if_pos (show (1:Int) > 0 by decide),if_pos (show (1:Int) > 0 by decide)]
 have e:max 0 (min 1 (z.length:Int))=1:=by omega
 rw [e]
 unfold sliceRange
 dsimp only
 rw [if_pos (by decide)]
 have c:(if (1:Int) < (z.length:Int) then ((z.length:Int) - 1 + 1 - 1) / 1 else 0).toNat=z.length - 1:=by
  split
  ·rw [Int.ediv_one];omega
  ·omega
 rw [c]
 refine List.map_congr_left fun m _=>?_
 omega
theorem FQ {X:Cx}:OL X rSlTx:=by
 intro pins s σ H x v vl vu lo hi sl Q I rx hs pl pu h
 obtain ⟨z,rfl,rfl,rfl,h1,hz,q⟩:=h
 obtain ⟨t,rfl⟩:=rx
 cases pl
 rename_i tk
 cases pu
 refine ⟨"str",_,F.slot_str_getitem.lookup,typeIs_str _ _ _,?_⟩
 refine wpAny_getItem_str_slice (l:=some (1,tk)) (u:=none) (st:=none) hs rfl ?_
 have hp:=DP z h1 tk
 unfold sliceMade
 rw [hp,if_neg (by intro w;rw [Bool.and_eq_true] at w;have:=eq_of_beq w.2;simp at this;omega)]
 have e:(((List.range (z.length - 1)).map fun m=>1 + m).filterMap (z.cps[·]?)).toArray=(z.cps.toList.drop 1).toArray:=by
  have:=pick_run z.cps 1 (z.length - 1)
  rw [this]
  congr 1
  rw [List.take_of_length_le]
  rw [List.length_drop,Array.length_toList]
  exact Nat.le_refl _
 rw [e]
 refine ⟨?_,.str (tl1 z),H,I.tok _,⟨_,rfl⟩,q⟩
 show (z.cps.toList.drop 1).toArray.size<=sizeLine
 have hd:(z.cps.toList.drop 1).length=z.cps.size - 1:=by simp
 rw [List.size_toArray,hd]
 exact Nat.le_trans (Nat.sub_le _ _) hz
noncomputable def O4 (z:Str):It:=⟨fun i _=>i < z.cps.size,fun i H x H'=>H'=H/\∃ c,z.cps[i]?=some c/\x = .str ⟨#[c]⟩,fun i _=>i=z.cps.size⟩
theorem FH {P:Program}{w:World}{K:PySem.W.Frag}{tg:Expr}(it:Addr)(z:Str)(t:Tok):pH P w K tg (O4 z) [it] it (fun i h=>h.IsStrIter it "str_ascii_iterator" z t i) where
 mem:=by simp
 obj:=fun i h st b hb=>by
  obtain rfl:b=it:=by simpa using hb
  obtain ⟨o,e,c,d⟩:=st
  exact ⟨o,e,fun v q=>by rw [d] at q;cases q⟩
 keep:=fun i h h' st k=>by
  obtain ⟨o,e,r⟩:=st
  exact ⟨o,k it (by simp) o e,r⟩
 item:=by
  intro X hP hw hK hc i pins s σ H E I hf st hg
  subst hP hw hK
  obtain ⟨f0,f1,f2,f3,f4,f5⟩:=hf it (by simp)
  have W:=Walks.strAscii (prog:=X.prog) (w:=X.w) (I.ok.hd hc) it z t
  refine W.item i s _ _ hg st fun v h' tk hv st' kk=>?_
  obtain ⟨c,u,hcu,rfl⟩:=hv
  have I1:aO X pins σ H { s with heap:=h',toks:=tk }:=I.turned (fun b o hb e=>kk b o (by simpa using hb) e) f0 f1 f3 f4 f5
  obtain ⟨o,e,cc,d⟩:=id st'
  exact ⟨_,rfl,yR (s:={ s with heap:=h',toks:=tk }) e cc d (by decide) ⟨.str ⟨#[c]⟩,H,I1,⟨u,rfl⟩,⟨rfl,c,hcu,rfl⟩,st',fun b hb=>(hf b hb).1⟩⟩
 done:=by
  intro X hP hw hK hc i pins s σ H E I hf st hg
  subst hP hw hK
  obtain ⟨f0,f1,f2,f3,f4,f5⟩:=hf it (by simp)
  have hg:i=z.cps.size:=hg
  subst hg
  exact wpAny_pyNext_ascii_end (I.ok.hd hc) st (by simp) fun h' eb=>⟨rfl,I.turned (t':=s.toks) (fun b o hb e=>eb b o hb e) f0 f1 f3 f4 f5⟩
 self:=fun _ _ _ _ _ st h=>wpAny_pyIter_striter_ascii st h
noncomputable def iTxt (te:TE):TI:=fun σ H R=>te σ H fun x H1=>∃ z:Str,x = .str z/\z.cps.all (· < 128)=true/\R (O4 z) H1
theorem AA {X:Cx}{tg e:Expr}{te:TE}(he:PE X e te):PI X tg e (iTxt te):=by
 intro pins s σ H R I h
 refine thn (he pins s σ H _ I h) fun v s1 ⟨x,H1,I1,r1,q1⟩=>?_
 obtain ⟨z,rfl,ha,q⟩:=q1
 obtain ⟨t,rfl⟩:=r1
 refine wpAny_pyIter_ascii ha ?_
 refine ⟨s1.heap.objs.size,[s1.heap.objs.size],_,_,H1,rfl,I1.kept (t':=s1.toks) fun b o e=>Heap.get?_push_of_some _ e,FH _ z t,⟨_,Heap.get?_push_size _ rfl,rfl,rfl⟩,fun b hb=>?_,q⟩
 obtain rfl:b=s1.heap.objs.size:=by simpa using hb
 exact I1.fpOk (Nat.le_refl _) (I1.hok.fresh (Nat.le_refl _))
section
variable {X:Cx}{CX:BL}{k:Nat}{sp:Sp}{E:XK}{x m:Str}{C:Addr}{p pos apos:Pos}{o e:Expr}{es:lW}{ta:TE}{t:TA}
theorem vY {pl:Sem Bool}(O:E3 X.prog X.w X.K X.mg X.base CX k C m sp)(hr:eI k X.A)(hx:j4 CX X E)(he:PE X o ta)(ha:PA X (e :: es) t)
  (hst:starEach (e :: es) X.env=(false,eval e X.env) :: starEach es X.env:=by rfl) (hpl:(backTo pos (starEach es X.env)).any (·.1)=false:=by rfl)
  (ht:eval (.Call (.Attribute o m apos) (e :: es) [] pos) X.env=(do
   let ov ← eval o X.env
   standAt apos.atName
   let (f,first) ← holding [ov] (getMethod ov m pl)
   callWith pos f first (backTo pos (starEach (e :: es) X.env)) (backToKw pos (keywordEach [] X.env))):=by rfl):PE X (.Call (.Attribute o m apos) (e :: es) [] pos) (tMeth C m sp [] E ta t):=by
 obtain ⟨f,fd,ps,F,M,hb,c⟩:=O
 exact JU he c M F hr hb .nil hx ha hst hpl ht
noncomputable def N0 (P:Program)(w:World)(K:PySem.W.Frag)(mg:gA)(base:Heap)(CX:BL)(k:Nat)(x:Str)(C:Addr)(sp:Sp):Prop :=
 ∃ f fd ps,bR P w K mg base CX k f fd ps sp/\mg x=some (.ref C)/\Mk K C f/\eX K fd ps []
theorem OC (O:N0 X.prog X.w X.K X.mg X.base CX k x C sp)(hr:eI (k + 1) X.A)(hx:j4 CX X E)(hg:Gl X x)(ha:PA X (e :: es) t)(hdb:(x == ("__debug__" : Str))=false:=by decide)
  (he:starEach (e :: es) X.env=(false,eval e X.env) :: starEach es X.env:=by rfl) (hpl:(backTo pos (starEach es X.env)).any (·.1)=false:=by rfl):PE X (.Call (.Name x p) (e :: es) [] pos) (tMake C sp [] E t):=by
 obtain ⟨f,fd,ps,F,hm,M,hb⟩:=O
 exact JV M F hr hg hm hb .nil hx ha hdb he hpl
end
section
variable {g:TG}{tt:TT}{te:TE}{Q:VK}{σ:St}{H:Hp}
theorem uN {z:Str}(Pv:Nat->List V->St->Hp->Prop)(h0:Pv 0 [] σ H)(hs:∀ i c acc σ H,z.cps[i]?=some c->Pv i acc σ H->CStep g tt te (.str ⟨#[c]⟩) acc σ H (Pv (i + 1)))
  (hd:∀ acc σ H,Pv z.cps.size acc σ H->∀ p,H p=none->Q (.ref p) (upd H p (.lst acc))):oF (O4 z) g tt te Q σ H :=
 kT (n:=z.cps.size) Pv h0 (fun i acc σ H hi p=>⟨hi,fun x H' y=>by obtain ⟨rfl,c,hc,rfl⟩:=y;exact hs i c acc σ _ hc p⟩) fun acc σ H p=>⟨rfl,hd acc σ H p⟩
end
noncomputable def inTx (z:Str)(c:Nat):Bool:=!(Builtin.Str.occurrences z ⟨#[c]⟩ 0 z.length 1).isEmpty
end L2
namespace Lw
open PySem L2
section
variable {P:Program}{w:World}{K:PySem.W.Frag}{mg:gA}{base:Heap}
noncomputable def mulO (fx:cQ)(n:Str):Option Int:=(fx.find? fun r=>decide (r.1=n)).map (·.2)
noncomputable def mulV (fx:cQ)(n:Str):V:=((mulO fx n).map V.int).getD .non
noncomputable def nulV (sm:bY)(n:Str):V:=((zr sm n).map V.str).getD .non
theorem FC (n:Str):∀ fx:cQ,valV (fx.map fun r=>((.inr r.1,V.int r.2):fZ×V)) (.inr n)=(mulO fx n).map V.int
 | []=>rfl
 | r :: l=>by
  by_cases e:r.1=n
  ·rw [List.map_cons,mZ (by rw [e])];simp [mulO,e]
  ·rw [List.map_cons,m7 (fun z=>e (by cases z;rfl)),FC n l];simp [mulO,e]
structure iO (K:PySem.W.Frag)(C:Addr)(fx:cQ)(sm:bY)(H:Hp)(g:Addr):Prop where
 cls:E5 K C
 n1:hU K C "many_by_name"
 n2:hU K C "nought_by_name"
 ex:∃ dx fs dm dn,H g=some (.ins C dx fs)/\fs.lookup ("many" : Str)=none/\fs.lookup ("nought" : Str)=none/\fs.lookup ("many_by_name" : Str)=some (.ref dm)/\fs.lookup ("nought_by_name" : Str)=some (.ref dn) /\
  H dm=some (.dK (fx.map fun r=>(.inr r.1,.int r.2)))/\H dn=some (.dK (sm.map fun r=>(.inr r.1,.str r.2)))
theorem iO.same {C:Addr}{fx:cQ}{sm:bY}{H H':Hp}{g:Addr}(h:iO K C fx sm H g)(s:aG H H'):iO K C fx sm H' g:=by
 obtain ⟨a,b,c,dx,fs,dm,dn,h1,h2,h3,h4,h5,h6,h7⟩:=h
 exact ⟨a,b,c,dx,fs,dm,dn,s _ _ h1,h2,h3,h4,h5,s _ _ h6,s _ _ h7⟩
noncomputable def zR (K:PySem.W.Frag)(C:Addr):Sp:=fun vs H Q _=>∃ (g:Addr) (n:Str) (fx:cQ) (sm:bY),vs=[.ref g,.str n]/\iO K C fx sm H g/\Q (mulV fx n) H
theorem KJ {f C:Addr}{fd:FuncData}(F:gY K "many" "Signs.many" d5 f fd)(T:iH mg):bR P w K mg base bC 1 f fd kB (zR K C):=by
 refine F.ok sT (fun vs H Q E h=>?_) (fun cdv A outer s H vs Q E hr h=>?_)
 ·obtain ⟨g,n,fx,sm,rfl,_⟩:=h
  rfl
 ·obtain ⟨g,n,fx,sm,rfl,⟨c1,c2,c3,dx,fs,dm,dn,h1,h2,h3,h4,h5,h6,h7⟩,q⟩:=h
  have hu:=hr.units
  refine ⟨_,(aH (aP (q8 (aR K rfl (aK aL rfl T.n_isinstance rfl (aA (pv 1) (aA (bH (v:=V.ty "str") rfl T.n_str rfl rfl) aB))) (fun _=>rfl)) (xV (Nat.lt_of_le_of_lt (Nat.add_le_add_left (by decide) _) hu) (GE (pv 0) rfl) (pv 1) ⟨rfl,rfl,rfl,rfl⟩) vX))),?_⟩
  simp only [oE]
  clear hr F T hu
  have d6:=jR.k (k:=.inr n) h6
  rw [FC] at d6
  have keep:=aI q (aI c1 (aI c2 (aI h1 (aI h4 (aI h6 d6)))))
  clear q c1 c2 c3 h1 h2 h3 h4 h5 h6 h7 d6
  walk_at "rd"
  obtain ⟨q,c1,c2,h1,h4,h6,d6⟩:=keep
  refine ⟨true,rfl,?_⟩
  rw [if_pos rfl]
  exact ⟨_,rfl,g,C,dx,fs,_,rfl,h1,c1,c2,h4,dm,rfl,.inl ⟨_,.inl h6⟩,_,rfl,_,d6,q⟩
noncomputable def nB (K:PySem.W.Frag)(C:Addr):Sp:=fun vs H Q _=>∃ (g:Addr) (n:Str) (fx:cQ) (sm:bY),vs=[.ref g,.str n]/\iO K C fx sm H g/\Q (nulV sm n) H
theorem DW {f C:Addr}{fd:FuncData}(F:gY K "nought" "Signs.nought" dB f fd)(T:iH mg):bR P w K mg base bC 1 f fd iN (nB K C):=by
 refine F.ok qB (fun vs H Q E h=>?_) (fun cdv A outer s H vs Q E hr h=>?_)
 ·obtain ⟨g,n,fx,sm,rfl,_⟩:=h
  rfl
 ·obtain ⟨g,n,fx,sm,rfl,⟨c1,c2,c3,dx,fs,dm,dn,h1,h2,h3,h4,h5,h6,h7⟩,q⟩:=h
  have hu:=hr.units
  refine ⟨_,(aH (aP (q8 (aR K rfl (aK aL rfl T.n_isinstance rfl (aA (pv 1) (aA (bH (v:=V.ty "str") rfl T.n_str rfl rfl) aB))) (fun _=>rfl)) (xV (Nat.lt_of_le_of_lt (Nat.add_le_add_left (by decide) _) hu) (GE (pv 0) rfl) (pv 1) ⟨rfl,rfl,rfl,rfl⟩) vX))),?_⟩
  simp only [lI]
  clear hr F T hu
  have d7:=jR.k (k:=.inr n) h7
  rw [qP] at d7
  have keep:=aI q (aI c1 (aI c3 (aI h1 (aI h5 (aI h7 d7)))))
  clear q c1 c2 c3 h1 h2 h3 h4 h5 h6 h7 d7
  walk_at "rd"
  obtain ⟨q,c1,c3,h1,h5,h7,d7⟩:=keep
  refine ⟨true,rfl,?_⟩
  rw [if_pos rfl]
  exact ⟨_,rfl,g,C,dx,fs,_,rfl,h1,c1,c3,h5,dn,rfl,.inl ⟨_,.inl h7⟩,_,rfl,_,d7,q⟩
theorem OA {c:Nat}(h:isWd c):inTx "abcdefghijklmnopqrstuvwxyz0123456789" c=true:=by
 have a:∀ j:Fin 26,inTx "abcdefghijklmnopqrstuvwxyz0123456789" (97 + j.1)=true:=by decide +kernel
 have b:∀ j:Fin 10,inTx "abcdefghijklmnopqrstuvwxyz0123456789" (48 + j.1)=true:=by decide +kernel
 unfold isWd at h
 rcases h with h | h
 ·have:=a ⟨c - 97,by omega⟩
  rw [show 97 + (c - 97)=c by omega] at this
  exact this
 ·have:=b ⟨c - 48,by omega⟩
  rw [show 48 + (c - 48)=c by omega] at this
  exact this
theorem yI {H:Hp}{z:Str}(h:z.length<=sizeLine):lenV H (.str z)=some z.length:=if_pos h
theorem qJ {H:Hp}{z:Str}{i:Int}(h:z.length<=sizeLine):ixV H (.str z) (.int i)=(atI z.cps.toList i).map fun c=>.str ⟨#[c]⟩:=if_pos h
noncomputable def vD:Sp:=fun vs H Q _=>(∃ x:Str,vs=[.str x]/\(eQ x∨hV x)/\∀ H',aG H H'->(eQ x->Q (.bl true) H')/\(hV x->Q (.bl false) H'))∨∃ (a:Addr) (xs:List V),vs=[.ref a]/\eG H a xs/\Q (.bl false) H
theorem KB {f:Addr}{fd:FuncData}(F:gY K "is_wish" "is_wish" eS f fd)(T:iH mg):bR P w K mg base bC 1 f fd pJ vD:=by
 refine F.ok zX (fun vs H Q E h=>?_) (fun cdv A outer s H vs Q E hr h=>?_)
 ·rcases h with ⟨x,rfl,_⟩ | ⟨a,xs,rfl,_⟩ <;> rfl
 rcases h with h | ⟨a,xs,rfl,hs,q⟩
 rotate_left
 ·have hu:=hr.units
  refine ⟨_,(aE (bK (PW.pt (iL (cL (aR K rfl (aK aL rfl T.n_isinstance rfl (aA (pv 0) (aA (bH (v:=V.ty "str") rfl T.n_str rfl rfl) aB))) (fun _=>rfl))) (gF (cL (jN kM kM aJ (aK bD rfl T.n_len rfl (aA (pv 0) aB)) (eP T.c_LONGEST_WISH rfl)))))) (aH (aP mB)) aW)
   (aH (aP (AF (dH (eF hu) (bN dD (pv 0) aJ (fun _ _=>rfl)) gH (nomark _)) (vW (aK (lT rfl) rfl T.n_all rfl (aA (fA rfl (bG.by (N:=jP) (names:=(aF eS).names) (N':=["sign"]) (src:=[none]) (by decide +kernel) rfl rfl) (AA (eN FQ (pv 0) (d8 aJ) eU)) (fun _ _ _ _=>(bJ (i:=0) (show List.Nodup (["sign"]:aQ) by decide +kernel) rfl (Or.inl rfl))) (fun _ _ _ _=>eT) (fun _ _ _ _=>(dH lM (pv 0) (eP T.c_WISH_SIGNS rfl) (by with_unfolding_all rfl)))) aB))))))),?_⟩
  simp only [jP]
  clear hr F T hu
  have keep:=aI q hs
  clear q hs
  walk_at "rd"
  obtain ⟨q,hs⟩:=keep
  refine ⟨false,(by rcases hs with e | e;exact kP e;exact i9 e),?_⟩
  rw [if_pos rfl]
  first | exact q | trivial
 ·obtain ⟨x,rfl,hx,q⟩:=h
  have hu:=hr.units
  refine ⟨_,(aE (bK (PW.pt (iL (cL (aR K rfl (aK aL rfl T.n_isinstance rfl (aA (pv 0) (aA (bH (v:=V.ty "str") rfl T.n_str rfl rfl) aB))) (fun _=>rfl))) (gF (cL (jN kM kM aJ (aK bD rfl T.n_len rfl (aA (pv 0) aB)) (eP T.c_LONGEST_WISH rfl)))))) (aH (aP mB)) aW)
   (aH (aP (AF (dH (eF hu) (bN dD (pv 0) aJ (fun _ _=>rfl)) gH (nomark _)) (vW (aK (lT rfl) rfl T.n_all rfl (aA (fA rfl (bG.by (N:=jP) (names:=(aF eS).names) (N':=["sign"]) (src:=[none]) (by decide +kernel) rfl rfl) (AA (eN FQ (pv 0) (d8 aJ) eU)) (fun _ _ _ _=>(bJ (i:=0) (show List.Nodup (["sign"]:aQ) by decide +kernel) rfl (Or.inl rfl))) (fun _ _ _ _=>eT) (fun _ _ _ _=>(dH lM (pv 0) (eP T.c_WISH_SIGNS rfl) (by with_unfolding_all rfl)))) aB))))))),?_⟩
  simp only [jP]
  clear hr F T hu
  have keep:=aI q hx
  clear q hx
  walk_at "rd"
  obtain ⟨q,hx⟩:=keep
  have hl:x.length<=20:=by
   rcases hx with ⟨l,rfl,_,h2,_⟩ | h
   ·show (63 :: l).toArray.size<=20
    rw [List.size_toArray,List.length_cons];omega
   ·have:=h.2.1
    rw [Array.length_toList] at this
    exact Nat.le_trans this (by decide)
  have hz:x.length<=sizeLine:=Nat.le_trans hl (by decide)
  refine ⟨true,rfl,?_⟩
  rw [if_neg (by decide)]
  refine ⟨.int x.length,by rw [yI hz];rfl,_,rfl,?_⟩
  rcases hx with hw | hn
  ·obtain ⟨l,rfl,h1,h2,h3⟩:=id hw
   have el:(Str.mk (63 :: l).toArray).length=l.length + 1:=by show (63 :: l).toArray.size=_;rw [List.size_toArray,List.length_cons]
   have q1:=fun H' s'=>(q H' s').1 hw
   have ix:ixV H (.str ⟨(63 :: l).toArray⟩) (.int 0)=some (.str ⟨#[63]⟩):=by
    rw [qJ hz]
    show (atI (63 :: l).toArray.toList 0).map _=_
    rw [List.toList_toArray,atI_zero]
    rfl
   rw [if_pos (by rw [el];omega)]
   refine ⟨_,rfl,?_⟩
   rw [if_neg (by rw [el];omega)]
   refine ⟨_,ix,?_⟩
   rw [rEqD_ss]

   refine ⟨_,rfl,?_⟩
   have e63:decide ((⟨#[63]⟩:Str)=Str.ofString "?")=true:=by decide +kernel
   rw [if_pos e63]
   have et:tl1 ⟨(63 :: l).toArray⟩=⟨l.toArray⟩:=by unfold tl1;simp
   refine ⟨_,rfl,1,rfl,⟨(63 :: l).toArray⟩,rfl,rfl,rfl,by rw [el];omega,hz,tl1 ⟨(63 :: l).toArray⟩,rfl,?_,?_⟩
   ·rw [et]
    simp only [List.all_toArray,List.all_eq_true,decide_eq_true_eq]
    intro c hc
    have:=h3 c hc
    unfold isWd at this
    omega
   ·rw [et]
    refine uN (fun i acc σ H'=>H'=H/\acc=(List.replicate i true).map V.bl/\i<=8/\∃ o:Option V,σ=[o]) ⟨rfl,rfl,by decide,none,rfl⟩ ?_ ?_
    ·rintro i c acc σ H' hc ⟨rfl,rfl,hi,o,rfl⟩
     have hc':l[i]?=some c:=by simpa using hc
     have hm:c ∈ l:=List.mem_of_getElem? hc'
     have hi':i < l.length:=(List.getElem?_eq_some_iff.mp hc').1
     refine ⟨_,rfl,_,rfl,_,rfl,?_⟩
     have e:=OA (h3 c hm)
     unfold inTx at e
     dsimp only
     refine ⟨Nat.lt_of_le_of_lt (m:=100) (by simp;omega) (by decide),rfl,?_,by omega,_,rfl⟩
     rw [e,List.replicate_succ',List.map_append]
     rfl
    ·rintro acc σ H' ⟨rfl,rfl,hi,o,rfl⟩ p hp
     refine ⟨p,rfl,List.replicate _ true,upd_same,?_⟩
     have:(List.replicate (Str.mk l.toArray).cps.size true).all id=true:=by simp
     rw [this]
     exact q1 _ (aG.upd hp)
  ·have q1:=fun H' s'=>(q H' s').2 hn
   by_cases h2:(2:Int)<=x.length
   ·rw [if_pos h2]
    refine ⟨_,rfl,?_⟩
    have:=hn.2.1
    rw [Array.length_toList] at this
    have e9:(x.length:Int)<=9:=by show (x.cps.size:Int)<=9;omega
    rw [if_neg (by omega)]
    cases hc:x.cps.toList with
    | nil=>have:=hn.1;rw [hc] at this;simp at this
    | cons c r =>
     have hcc:=hn.2.2 c (by rw [hc];exact List.mem_cons_self)
     refine ⟨.str ⟨#[c]⟩,by rw [qJ hz,hc,atI_zero];rfl,?_⟩
     rw [rEqD_ss]
     refine ⟨_,rfl,?_⟩
     rw [if_neg]
     ·exact q1 _ (aG.refl _)
     ·intro w
      have:=of_decide_eq_true w
      have e:(⟨#[c]⟩:Str).cps=(Str.ofString "?").cps:=by rw [this]
      have e2:(Str.ofString "?").cps = #[63]:=by decide +kernel
      rw [e2] at e
      have:c=63:=by simpa using e
      omega
   ·rw [if_neg h2]
    exact q1 _ (aG.refl _)
theorem yA {fx:cQ}{sm:bY}(so:dJ fx sm){n:Str}{k:Int}(h:(n,k) ∈ fx):mulO fx n=some k:=by
 have nd:=(List.nodup_append.mp so.nd).1
 unfold mulO
 clear so
 induction fx with
 | nil=>cases h
 | cons r l ih =>
  rw [List.map_cons,List.nodup_cons] at nd
  obtain rfl | h:=List.mem_cons.mp h
  ·simp
  ·have ne:r.1≠n:=fun e=>nd.1 (by rw [e];exact List.mem_map_of_mem (f:=(·.1)) h)
   rw [List.find?_cons,decide_eq_false ne]
   exact ih h nd.2
theorem IV {sm:bY}{n:Str}(h:n ∉ sm.map (·.1)):zr sm n=none:=by
 unfold zr
 rw [List.find?_eq_none.mpr]
 ·rfl
 ·intro r hr e
  exact h (List.mem_map.mpr ⟨r,hr,of_decide_eq_true e⟩)
theorem IU {sm:bY}{n:Str}(h:n ∈ sm.map (·.1)):∃ z,zr sm n=some z:=by
 obtain ⟨r,hr,e⟩:=List.mem_map.mp h
 cases q:sm.find? (fun r=>decide (r.1=n)) with
 | none=>exact absurd (decide_eq_true e) (List.find?_eq_none.mp q r hr)
 | some z=>exact ⟨z.2,by unfold zr;rw [q];rfl⟩
noncomputable def vM (K:PySem.W.Frag)(C:Addr):Sp:=fun vs H Q _=>∃ (g:Addr) (fx:cQ) (sm:bY) (os:aQ) (d:D) (v:V),vs=[.ref g,v]/\iO K C fx sm H g/\dJ fx sm/\(∀ x ∈ os,eQ x)/\bB H d v/\bM fx sm os d/\lvs d<=100/\∀ H',aG H H'->Q (.bl true) H'
theorem GY {f C:Addr}{fd:FuncData}(F:gY K "is_built" "is_built" fC f fd)(T:iH mg)(O_is_wish:cH P w K mg base bC 1 "is_wish" vD)(M_many:E3 P w K mg base bC 1 C "many" (zR K C))(M_nought:E3 P w K mg base bC 1 C "nought" (nB K C)):bR P w K mg base bC 2 f fd mT (vM K C):=by
 refine F.ok xP (fun vs H Q E h=>?_) (fun cdv A outer s H vs Q E hr h=>?_)
 ·obtain ⟨g,fx,sm,os,d,v,rfl,_⟩:=h
  rfl
 ·obtain ⟨g,fx,sm,os,d,v,rfl,sg,so,ho,rep,tm,l100,q⟩:=h
  have hu:=hr.units
  refine ⟨_,(aE (bK (aR K rfl (aK aL rfl T.n_isinstance rfl (aA (pv 1) (aA (bH (v:=V.ty "str") rfl T.n_str rfl rfl) aB))) (fun _=>rfl)) (aH (aP (OB (aM O_is_wish (hr.mono (by decide)) pass0 rfl (aA (pv 1) aB)) (vW (dH (eF hu) (vY M_many (hr.mono (by decide)) pass0 (pv 0) (aA (pv 1) aB)) aJ (nomark _)))))) aW)
   (aE (bK (PW.pt (iL (cL (aR K rfl (aK aL rfl T.n_isinstance rfl (aA (pv 1) (aA (fW (aA (bH (v:=V.ty "list") rfl T.n_list rfl rfl) (aA (bH (v:=V.ty "tuple") rfl T.n_tuple rfl rfl) aB))) aB))) (fun _=>rfl))) (gF (a0 (i5 hu) (aK bD rfl T.n_len rfl (aA (pv 1) aB)) aJ (nomark _))))) (aH (aP mB)) aW)
   (aE (bK (a0 J6 (vY M_nought (hr.mono (by decide)) pass0 (pv 0) (aA (bN dD (pv 1) aJ (fun _ _=>rfl)) aB)) vX (nomark _)) (aH (aP (dH LW (aK bD rfl T.n_len rfl (aA (pv 1) aB)) aJ (nomark _)))) aW)
   (aH (aP (dH (eF hu) (vY M_many (hr.mono (by decide)) pass0 (pv 0) (aA (bN dD (pv 1) aJ (fun _ _=>rfl)) aB)) (bO oX (aK bD rfl T.n_len rfl (aA (pv 1) aB)) aJ) (nomark _))))))),?_⟩
  simp only [sM]
  clear hr F T hu O_is_wish M_many M_nought
  have keep:=aI q (aI sg (aI so (aI ho (aI rep (aI tm l100)))))
  clear q sg so ho rep tm l100
  walk_at "rd"
  obtain ⟨q,sg,so,ho,rep,tm,l100⟩:=keep
  obtain ⟨dx,fs,_,_,h1,h2,h3,_⟩:=sg.ex
  rcases u7 tm with ⟨x,rfl,hx⟩ | ⟨n,ds,hd,hh,tms⟩
  ·cases (show v = .str x from rep)
   refine ⟨true,rfl,?_⟩
   rw [if_pos rfl]
   rcases hx with hx | hx
   ·have hw:=ho x hx
    refine .inl ⟨x,rfl,.inl hw,fun H' s'=>⟨fun _=>⟨true,rfl,?_⟩,fun hn=>?_⟩⟩
    ·rw [if_pos rfl];exact q _ s'
    ·obtain ⟨l,rfl,_⟩:=hw
     have:=hn.2.2 63 (by simp)
     omega
   ·obtain ⟨r,hr,e⟩:∃ r ∈ fx,r.1=x/\r.2=0:=by
     unfold zeros at hx
     obtain ⟨r,h1,rfl⟩:=List.mem_map.mp hx
     obtain ⟨h2,h3⟩:=List.mem_filter.mp h1
     exact ⟨r,h2,rfl,by simpa using h3⟩
    have hn:hV x:=so.nm x (List.mem_append_left _ (List.mem_map.mpr ⟨r,hr,e.1⟩))
    have hm:mulO fx x=some 0:=yA so (by rw [← e.1,← e.2];exact hr)
    refine .inl ⟨x,rfl,.inr hn,fun H' s'=>⟨fun hw=>?_,fun _=>⟨false,rfl,?_⟩⟩⟩
    ·obtain ⟨l,rfl,_⟩:=hw
     have:=hn.2.2 63 (by simp)
     omega
    ·rw [if_neg (by decide)]
     refine ⟨_,rfl,g,dx,fs,rfl,s' _ _ h1,h2,_,rfl,g,x,fx,sm,rfl,sg.same s',?_⟩
     show rEqD (mulV fx x) _ _ _
     unfold mulV
     rw [hm]
     show rEqD (.int 0) _ _ _
     rw [rEqD_ii]
     exact q _ s'
  ·obtain ⟨va,vs',rfl,hbb,hseq,res⟩:∃ va vs',v = .ref va/\isV H (.ref va) (.ty "str")=some false/\eG H va (.str n :: vs')/\Reps H ds vs':=by
    rcases hd with rfl | rfl
    ·obtain ⟨a,vs,rfl,ha,_,vs',rfl,e1,r⟩:=rep
     cases e1
     exact ⟨a,vs',rfl,i9 ha,.inr ha,r⟩
    ·obtain ⟨a,vs,rfl,ha,_,vs',rfl,e1,r⟩:=rep
     cases e1
     exact ⟨a,vs',rfl,kP ha,.inl ha,r⟩
   have hlen:=Reps.len res
   refine ⟨false,hbb,?_⟩
   rw [if_neg (by decide)]
   refine ⟨by decide,fun p hp=>?_⟩
   have s1:aG H (upd H p (.tup [.ty "list",.ty "tuple"])):=aG.upd hp
   have hp1:upd H p (.tup [.ty "list",.ty "tuple"]) p=some (.tup [.ty "list",.ty "tuple"]):=upd_same
   generalize upd H p (.tup [.ty "list",.ty "tuple"])=H1 at s1 hp1 ⊢
   have hs1:=hseq.same s1
   have ix0:ixV H1 (.ref va) (.int 0)=some (.str n):=by
    rcases hs1 with e | e
    ·rw [ixV_l e,atI_zero]
    ·rw [ixV_t e,atI_zero]
   have ln:lenV H1 (.ref va)=some (vs'.length + 1):=by
    rcases hs1 with e | e
    ·rw [lenV_l e];rfl
    ·rw [lenV_t e];rfl
   refine ⟨true,by rcases hs1 with e | e;exact HE e hp1;exact HD e hp1,?_⟩
   rw [if_neg (by decide)]
   have hk:=pD hh
   refine ⟨_,by rw [ln];rfl,_,rfl,?_⟩
   rw [if_neg (by omega)]
   refine ⟨_,rfl,g,dx,fs,rfl,s1 _ _ h1,h3,_,rfl,.str n,ix0,g,n,fx,sm,rfl,sg.same s1,?_⟩
   rcases hh with ⟨k0,hk⟩ | ⟨k2,hk⟩
   ·have nin:n ∉ sm.map (·.1):=fun z=>(List.nodup_append.mp so.nd).2.2 n (List.mem_map_of_mem (f:=(·.1)) hk) n z rfl
    have e0:nulV sm n = .non:=by unfold nulV;rw [IV nin];rfl
    have em:mulV fx n = .int (ds.length:Int):=by unfold mulV;rw [yA so hk];rfl
    rw [e0]
    refine ⟨false,rfl,?_⟩
    rw [if_neg (by decide)]
    refine ⟨_,rfl,g,dx,fs,rfl,s1 _ _ h1,h2,_,rfl,.str n,ix0,g,n,fx,sm,rfl,sg.same s1,?_⟩
    refine ⟨_,by rw [ln];rfl,_,rfl,?_⟩
    rw [em,rEqD_ii,decide_eq_true (by omega)]
    exact q _ s1
   ·obtain ⟨z,hz⟩:=IU hk
    have e0:nulV sm n = .str z:=by unfold nulV;rw [hz];rfl
    rw [e0]
    refine ⟨true,rfl,?_⟩
    rw [if_pos rfl]
    refine ⟨_,by rw [ln];rfl,_,rfl,?_⟩
    rw [decide_eq_true (p:=_) (by omega)]
    exact q _ s1
mutual
noncomputable def nds:D->Nat
 | .tup (_ :: ds)=>1 + ndss ds
 | .lst (_ :: ds)=>1 + ndss ds
 | _=>1
noncomputable def ndss:List D->Nat
 | []=>0
 | d :: ds=>nds d + ndss ds
end
theorem qG (d:D):1<=nds d:=by
 unfold nds
 split <;> omega
theorem jO:∀ ds:List D,ds.length<=ndss ds
 | []=>Nat.le_refl _
 | d :: ds=>by rw [ndss,List.length_cons];have:=qG d;have:=jO ds;omega
theorem fX:∀ ds es:List D,ndss (ds ++ es)=ndss ds + ndss es
 | [],es=>by simp [ndss]
 | d :: ds,es=>by rw [List.cons_append,ndss,fX ds es,ndss];omega
theorem rE:∀ ds:List D,ndss ds.reverse=ndss ds
 | []=>rfl
 | d :: ds=>by rw [List.reverse_cons,fX,rE ds,ndss,ndss,ndss];omega
theorem FB {c:TT}{tb:TS}{D:jQ}{σ:St}{H:Hp}(Pv:Nat->St->Hp->Prop)(n:Nat)(h0:Pv n σ H)
  (hs:∀ n σ H,Pv n σ H->∀ R:Bool->Hp->Prop,(∀ H',tb { D with nx:=fun σ' H''=>∃ m,m < n/\Pv m σ' H'',ct:=fun σ' H''=>∃ m,m < n/\Pv m σ' H'',bk:=D.nx } σ H'->R true H')->(∀ H',D.nx σ H'->R false H')->c σ H R):vA c tb D σ H:=by
 refine ⟨Pv,⟨n,h0⟩,?_⟩
 intro m σ H p
 refine hs m σ H p _ (fun H' h=>?_) (fun H' h=>?_)
 ·rw [if_pos rfl]
  exact ⟨_,fun σ' H'' z=>z,h⟩
 ·rw [if_neg (by decide)];exact h
theorem wY {H:Hp}{p:Addr}{o:HO}:del (upd H p o) p=del H p:=by
 funext b
 unfold del upd
 by_cases e:b=p
 ·rw [if_pos e,if_pos e]
 ·rw [if_neg e,if_neg e,if_neg e]
theorem CU {H:Hp}{t p:Addr}{o:HO}(h:H p=none):aG (del H t) (del (upd H p o) t):=fun b u e=>by
 obtain ⟨h1,h2⟩:=gM e
 exact kR (by rw [aC (aD h1 h)];exact h1) h2
theorem lQ {H H':Hp}{t:Addr}(s:aG H H'):aG (del H t) (del H' t):=fun b u e=>by
 obtain ⟨h1,h2⟩:=gM e
 exact kR (s _ _ h1) h2
theorem iT {H:Hp}{d:D}:∀ {ds:List D} {vs:List V},Reps H (ds ++ [d]) vs->∃ us v,vs=us ++ [v]/\Reps H ds us/\bB H d v
 | [],vs,⟨v,r,e,h,h'⟩=>by
  cases (show r=[] from h')
  exact ⟨[],v,e,rfl,h⟩
 | c :: ds,vs,⟨v,r,e,h,h'⟩=>by
  obtain ⟨us,u,e2,h2,h3⟩:=iT (ds:=ds) h'
  exact ⟨v :: us,u,by rw [e,e2];rfl,⟨v,us,rfl,h,h2⟩,h3⟩
noncomputable def tp (r:D×Nat):D:=.tup [r.1,.int r.2]
noncomputable def P6 (g t:Addr)(v:V)(fx:cQ)(sm:bY)(os:aQ)(H:Hp)(n:Nat)(σ:St)(H2:Hp):Prop:=∃ (ps:List (D×Nat)) (vs:List V) (o3 o4:Option V),σ=[some (.ref g),some v,some (.ref t),o3,o4]/\H2 t=some (.lst vs)/\aG H (del H2 t) /\
 Reps (del H2 t) (ps.map tp) vs/\(∀ r ∈ ps,bM fx sm os r.1/\lvs r.1<=100/\r.2 + depD r.1<=100)/\ndss (ps.map (·.1))=n/\n<=1000
noncomputable def P7 (t:Addr)(ds:List D)(k:Nat)(H5:Hp)(i:Nat)(acc:List V)(σ:St)(H6:Hp):Prop:=∃ o0:Option V,σ=[o0,some (.int k)]/\aG H5 H6/\Reps (del H6 t) ((ds.reverse.take i).map fun d=>tp (d,k + 1)) acc
theorem NO {H:Hp}{t:Addr}(h:H t=none){H2:Hp}(s:aG H H2):aG H (del H2 t):=fun b u e=>kR (s _ _ e) (aD e h)
theorem CT {H H2:Hp}{t:Addr}(s:aG H (del H2 t)):aG H H2:=fun b u e=>(gM (s _ _ e)).1
noncomputable def nF (K:PySem.W.Frag)(C:Addr):Sp:=fun vs H Q _=>∃ (g:Addr) (fx:cQ) (sm:bY) (os:aQ) (d:D) (v:V),vs=[.ref g,v]/\iO K C fx sm H g/\dJ fx sm/\(∀ x ∈ os,eQ x)/\bB H d v/\bM fx sm os d/\lvs d<=100/\depD d<=100/\nds d<=1000/\∀ H',aG H H'->Q .non H'
theorem GX {f C:Addr}{fd:FuncData}(F:gY K "check_term" "check_term" dF f fd)(T:iH mg)(O_is_built:cH P w K mg base bC 2 "is_built" (vM K C)):bR P w K mg base bC 3 f fd j6 (nF K C):=by
 refine F.ok gL (fun vs H Q E h=>?_) (fun cdv A outer s H vs Q E hr h=>?_)
 ·obtain ⟨g,fx,sm,os,d,v,rfl,_⟩:=h
  rfl
 ·obtain ⟨g,fx,sm,os,d,v,rfl,sg,so,ho,rep,tm,l100,d100,n1000,q⟩:=h
  have hu:=hr.units
  refine ⟨_,(aE (aZ (i:=2) gL.nd rfl (Or.inl rfl) (cM (aA (fW (aA (pv 1) (aA aJ aB))) aB)))
   (aH (nL PassesOwn.never (aR K rfl (pv 2) (fun _=>rfl)) (aE (vS (AE PySem.F.plainAttrs_list PySem.F.slot_list_pop PySem.F.type_list_pop AO (pv 2)) (GA rfl (nN (bJ (i:=3) gL.nd rfl (Or.inl rfl)) (nN (bJ (i:=4) gL.nd rfl (Or.inr rfl)) B0))))
   (aE (bK (PW.pt (iL (a0 xY (pv 4) (eP T.c_DEEPEST rfl) (nomark _)) (gF (cL (aR K rfl (aM O_is_built (hr.mono (by decide)) pass0 rfl (aA (pv 0) (aA (pv 3) aB))) (fun _=>rfl)))))) (aH fV) aW)
   (aH (bK (cL (aR K rfl (aK aL rfl T.n_isinstance rfl (aA (pv 3) (aA (bH (v:=V.ty "str") rfl T.n_str rfl rfl) aB))) (fun _=>rfl))) (aH (cW (iW PySem.F.plainAttrs_list PySem.F.slot_list_extend PySem.F.type_list_extend wE (pv 2) (aA (fA rfl (bG.by (N:=kC) (names:=(aF dF).names) (N':=["part","depth"]) (src:=[none,some 4]) (by decide +kernel) rfl rfl) (cX K rfl (tQ BY (pv 3) eU (d8 aJ) (d8 (LV FE aJ)))) (fun _ _ _ _=>(bJ (i:=0) (show List.Nodup (["part","depth"]:aQ) by decide +kernel) rfl (Or.inl rfl))) (fun _ _ _ _=>eT) (fun _ _ _ _=>(fW (aA (pv 0) (aA (bO bV (pv 1) aJ) aB))))) aB)))) aW))))))),?_⟩
  simp only [kC]
  clear hr F T hu O_is_built
  have keep:=aI q (aI sg (aI so (aI ho (aI rep (aI tm (aI l100 (aI d100 n1000)))))))
  clear q sg so ho rep tm l100 d100 n1000
  walk_at "rd"
  obtain ⟨q,sg,so,ho,rep,tm,l100,d100,n1000⟩:=keep
  refine ⟨by decide,fun p hp=>⟨by decide,fun t ht=>?_⟩⟩
  have s1:aG H (upd H p (.tup [v,.int 0])):=aG.upd hp
  have hp1:upd H p (.tup [v,.int 0]) p=some (.tup [v,.int 0]):=upd_same
  generalize upd H p (.tup [v,.int 0])=H1 at s1 hp1 ht ⊢
  have ht0:H t=none:=s1.free ht
  have e1:del (upd H1 t (.lst [.ref p])) t=del H1 t:=wY
  have sd:aG H (del H1 t):=NO ht0 s1
  refine FB (P6 g t v fx sm os H) (nds d) ⟨[(d,0)],[.ref p],none,none,rfl,upd_same,by rw [e1];exact sd,?_,?_,by simp [ndss],n1000⟩ ?_
  ·rw [e1]
   exact ⟨.ref p,[],rfl,⟨p,_,rfl,kR hp1 (aD hp1 ht),v,_,rfl,bB.same sd rep,.int 0,[],rfl,rfl,rfl⟩,rfl⟩
  ·intro r hr
   rw [List.mem_singleton.mp hr]
   exact ⟨tm,l100,by simpa using d100⟩
  ·rintro n σ H2 ⟨ps,vs,o3,o4,rfl,h2,sH,reps,ok,rfl,nle⟩ R hT hF
   rcases List.eq_nil_or_concat ps with rfl | ⟨ps',r,rfl⟩
   ·have:vs=[]:=reps
    subst this
    exact ⟨_,rfl,false,.inl ⟨[],eA.of h2,rfl⟩,hF H2 (q _ (CT sH))⟩
   ·rw [List.concat_eq_append] at reps ok nle hT
    rw [List.map_append,List.map_cons,List.map_nil] at reps nle hT
    obtain ⟨us,u,rfl,reps',ru⟩:=iT reps
    obtain ⟨a,_,rfl,ha,x,_,rfl,rx,_,_,rfl,e2,e3⟩:=ru
    cases e2
    cases (show _=[] from e3)
    obtain ⟨tmr,lr,dr⟩:=ok r (by simp)
    have keep:=aI q (aI sg (aI so (aI ho (aI sH (aI reps' (aI ok (aI nle (aI h2 (aI ha (aI rx (aI tmr (aI lr dr))))))))))))
    refine ⟨_,rfl,true,.inl ⟨_,eA.of h2,by simp⟩,hT H2 ?_⟩
    clear q sg so ho sH reps ok nle hT hF rep tm l100 d100 n1000 s1 hp1 ht ht0 e1 sd h2 reps' ha rx tmr lr dr e3
    walk_at "rd"
    obtain ⟨q,sg,so,ho,sH,reps,ok,nle,h2,ha,rx,tmr,lr,dr⟩:=keep
    have hat:H2 a=some (.tup [x,.int r.2])/\a≠t:=gM ha
    refine ⟨tyL h2,.ref a,by simp,a,rfl,[x,.int r.2],h8.of (by rw [aC hat.2];exact hat.1),rfl,x,_,rfl,_,_,rfl,rfl,r.2,rfl,?_⟩
    rw [if_neg (by omega),List.dropLast_concat]
    have e3:del (upd H2 t (.lst us)) t=del H2 t:=wY
    have h3:upd H2 t (.lst us) t=some (.lst us):=upd_same
    rw [← e3] at sH reps rx
    generalize upd H2 t (.lst us)=H3 at e3 h3 sH reps rx ⊢
    have nl:us.length<=1000:=by
     have:=Reps.len reps
     rw [List.length_map] at this
     have h1:=jO (ps'.map (·.1))
     rw [List.length_map] at h1
     rw [fX] at nle
     omega
    refine ⟨g,fx,sm,os,r.1,x,rfl,sg.same (CT sH),so,ho,bB.same (IC _ _) rx,tmr,lr,fun H4 s4=>⟨true,rfl,?_⟩⟩
    rw [if_neg (by decide)]
    have h4:=s4 _ _ h3
    have sd4:=lQ (t:=t) s4
    have sH4:=sH.trans sd4
    have reps4:=Reps.same sd4 reps
    have rx4:=bB.same sd4 rx
    have rest:∀ r' ∈ ps',bM fx sm os r'.1/\lvs r'.1<=100/\r'.2 + depD r'.1<=100:=fun r' hr'=>ok r' (List.mem_append_left _ hr')
    rw [fX] at nle ⊢
    rcases u7 tmr with ⟨y,ey,hy⟩ | ⟨n,ds,hd,hh,tms⟩
    ·rw [ey] at rx4
     cases (show x = .str y from rx4)
     refine ⟨true,rfl,?_⟩
     rw [if_neg (by decide)]
     exact ⟨_,by rw [ndss,ndss];have:=qG r.1;omega,ps',us,_,_,rfl,h4,sH4,reps4,rest,rfl,by omega⟩
    ·obtain ⟨va,vs',rfl,hbb,hseq,res⟩:∃ va vs',x = .ref va/\isV H4 (.ref va) (.ty "str")=some false/\eG H4 va (.str n :: vs')/\Reps (del H4 t) ds vs':=by
      rcases hd with e | e
      ·rw [e] at rx4
       obtain ⟨a,vs,rfl,ha,_,vs',rfl,e1,r⟩:=rx4
       cases e1
       exact ⟨a,vs',rfl,i9 (gM ha).1,.inr (gM ha).1,r⟩
      ·rw [e] at rx4
       obtain ⟨a,vs,rfl,ha,_,vs',rfl,e1,r⟩:=rx4
       cases e1
       exact ⟨a,vs',rfl,kP (gM ha).1,.inl (gM ha).1,r⟩
     have hnd:nds r.1=1 + ndss ds:=by rcases hd with e | e <;> rw [e,nds]
     have hdp:depD r.1=depDs ds + 1:=by
      rcases hd with e | e
      ·rw [e,depD,depDs,show depD (.str n)=0 from rfl];omega
      ·rw [e,depD,depDs,show depD (.str n)=0 from rfl];omega
     have hlv:lvs r.1=lvss ds:=by rcases hd with e | e <;> rw [e,lvs]
     refine ⟨false,hbb,?_⟩
     rw [if_pos rfl]
     refine ⟨tyL h4,_,rfl,0,rfl,1,rfl,-1,rfl,rfl,rfl,rfl,va,_,rfl,hseq,by simp,fun b o hb ho=>?_⟩
     rw [tO] at ho
     refine ⟨b,rfl,vs'.reverse,by rcases ho with ⟨rfl,_⟩ | ⟨rfl,_⟩;exact .inl upd_same;exact .inr upd_same,fun J hJ=>?_⟩
     have s5:aG H4 (upd H4 b o):=aG.upd hb
     have hb5:upd H4 b o b=some o:=upd_same
     have nbt:b≠t:=(aD h4 hb).symm
     generalize upd H4 b o=H5 at s5 hb5 hJ ⊢
     refine dC hJ (P7 t ds r.2 H5) ⟨none,rfl,aG.refl _,rfl⟩ ?_ ?_ ?_
     ·rintro i acc σ H' _ ⟨_,_,s6,_⟩
      rw [hb5,s6 _ _ hb5]
     ·rintro i y acc σ H6 hy ⟨o0,rfl,s6,racc⟩
      obtain ⟨e,he,re⟩:=Reps.get (Reps.rev res) hy
      have la:=Reps.len racc
      have h1:=jO ds
      refine ⟨_,rfl,_,rfl,.inl ⟨_,rfl,(by decide:2<=sizeLine),fun p1 hp1=>⟨Nat.lt_of_le_of_lt (m:=1000) ?_ (by decide),_,rfl,s6.trans (aG.upd hp1),?_⟩⟩⟩
      ·rw [List.length_map,List.length_take,List.length_reverse] at la
       rw [ndss,ndss] at nle
       omega
      ·have np:p1≠t:=(aD (s6 _ _ (s5 _ _ h4)) hp1).symm
       have sm5:aG (del H4 t) (del (upd H6 p1 (.tup [y,.int (r.2 + 1)])) t):=lQ ((s5.trans s6).trans (aG.upd hp1))
       rw [aV he,List.map_append]
       have rp:bB (del (upd H6 p1 (.tup [y,.int (r.2 + 1)])) t) (tp (e,r.2 + 1)) (.ref p1):=⟨p1,_,rfl,kR upd_same np,y,_,rfl,bB.same sm5 re,_,[],rfl,rfl,rfl⟩
       exact Reps.snoc rp (Reps.same (CU hp1) racc)
     ·rintro acc σ H6 ⟨o0,rfl,s6,racc⟩ l hl
      have la:=Reps.len racc
      have lr':=Reps.len res
      have h1:=jO ds
      have h6:upd H6 l (.lst acc) t=some (.lst us):=by
       rw [aC (aD (s6 _ _ (s5 _ _ h4)) hl)]
       exact s6 _ _ (s5 _ _ h4)
      rw [List.length_reverse,lr',← List.length_reverse (as:=ds),List.take_length] at racc
      rw [List.length_map,List.length_take,List.length_reverse] at la
      rw [ndss,ndss] at nle
      have s7:aG H4 (upd H6 l (.lst acc)):=(s5.trans s6).trans (aG.upd hl)
      have e7:del (upd (upd H6 l (.lst acc)) t (.lst (us ++ acc))) t=del (upd H6 l (.lst acc)) t:=wY
      refine ⟨t,l,us,acc,rfl,rfl,h6,.inl upd_same,Nat.le_trans (m:=2000) (by omega) (by decide),ndss (ps'.map (·.1)) + ndss ds,by rw [ndss,ndss];omega,ps' ++ ds.reverse.map (fun d=>(d,r.2 + 1)),us ++ acc,_,_,rfl,upd_same,?_,?_,?_,?_,by omega⟩
      ·rw [e7];exact sH4.trans (lQ s7)
      ·rw [e7,List.map_append,List.map_map]
       exact Reps.append (Reps.same (lQ s7) reps4) (Reps.same (CU hl) racc)
      ·intro r' hr'
       rcases List.mem_append.mp hr' with h | h
       ·exact rest r' h
       ·obtain ⟨e,he,rfl⟩:=List.mem_map.mp h
        have he:=List.mem_reverse.mp he
        obtain ⟨i,hi⟩:=List.getElem?_of_mem he
        have h2:=wF hi
        have h3:=gW hi
        exact ⟨tms.get hi,by show lvs e<=100;omega,by show r.2 + 1 + depD e<=100;omega⟩
      ·rw [List.map_append,List.map_map,fX]
       congr 1
       rw [show ((fun x:D×Nat=>x.1) ∘ fun d=>(d,r.2 + 1))=id from rfl,List.map_id,rE]
end
section
variable {P:Program}{w:World}{K:PySem.W.Frag}{mg:gA}{base:Heap}
mutual
noncomputable def Wk:D->Prop
 | .str _=>True
 | .tup (.str _ :: ds)=>Wks ds
 | .lst (.str _ :: ds)=>Wks ds
 | _=>False
noncomputable def Wks:List D->Prop
 | []=>True
 | d :: ds=>Wk d/\Wks ds
end
mutual
noncomputable def wlk:D->List D
 | .tup (.str n :: ds)=>.tup (.str n :: ds) :: wlks ds
 | .lst (.str n :: ds)=>.lst (.str n :: ds) :: wlks ds
 | d=>[d]
noncomputable def wlks:List D->List D
 | []=>[]
 | d :: ds=>wlk d ++ wlks ds
end
theorem tE:∀ ds:List D,wlks ds=ds.flatMap wlk
 | []=>rfl
 | d :: ds=>by rw [wlks,tE ds];rfl
theorem FA {d:D}(h:Wk d):(∃ x,d = .str x)∨∃ n ds,(d = .tup (.str n :: ds)∨d = .lst (.str n :: ds))/\Wks ds:=by
 unfold Wk at h
 split at h
 ·exact .inl ⟨_,rfl⟩
 ·exact .inr ⟨_,_,.inl rfl,h⟩
 ·exact .inr ⟨_,_,.inr rfl,h⟩
 ·exact absurd h id
mutual
theorem LZ:∀ {d:D},Fl d->Wk d
 | .str x,h=>trivial
 | .tup (.str n :: ds),h=>by unfold Wk;unfold Fl at h;exact CP h
 | .non,h | .bl _,h | .int _,h | .lst _,h | .tup [],h | .tup (.non :: _),h | .tup (.bl _ :: _),h | .tup (.int _ :: _),h | .tup (.tup _ :: _),h | .tup (.lst _ :: _),h=>by unfold Fl at h;exact absurd h id
theorem CP:∀ {ds:List D},Fls ds->Wks ds
 | [],_=>trivial
 | _ :: _,⟨a,b⟩=>⟨LZ a,CP b⟩
end
mutual
theorem pO {fx:cQ}{sm:bY}{os:aQ}:∀ {d:D},bM fx sm os d->Wk d
 | .str x,h=>trivial
 | .tup (.str n :: ds),h=>by unfold Wk;unfold bM at h;exact qE h.2
 | .lst (.str n :: ds),h=>by unfold Wk;unfold bM at h;exact qE h.2
 | .non,h | .bl _,h | .int _,h | .tup [],h | .lst [],h | .tup (.non :: _),h | .tup (.bl _ :: _),h | .tup (.int _ :: _),h | .tup (.tup _ :: _),h | .tup (.lst _ :: _),h | .lst (.non :: _),h | .lst (.bl _ :: _),h | .lst (.int _ :: _),h | .lst (.tup _ :: _),h | .lst (.lst _ :: _),h=>by unfold bM at h;exact absurd h id
theorem qE {fx:cQ}{sm:bY}{os:aQ}:∀ {ds:List D},IsTms fx sm os ds->Wks ds
 | [],_=>trivial
 | _ :: _,⟨a,b⟩=>⟨pO a,qE b⟩
end
theorem Wks.app:∀ {ds es:List D},Wks ds->Wks es->Wks (ds ++ es)
 | [],_,_,h=>h
 | _ :: _,_,⟨a,b⟩,h=>⟨a,Wks.app b h⟩
theorem Wks.rev:∀ {ds:List D},Wks ds->Wks ds.reverse
 | [],h=>h
 | d :: ds,⟨a,b⟩=>by rw [List.reverse_cons];exact Wks.app (Wks.rev b) ⟨a,trivial⟩
theorem Wks.unsnoc:∀ {ds:List D} {d:D},Wks (ds ++ [d])->Wks ds/\Wk d
 | [],_,h=>⟨trivial,h.1⟩
 | _ :: _,_,⟨a,b⟩=>⟨⟨a,(Wks.unsnoc b).1⟩,(Wks.unsnoc b).2⟩
mutual
theorem mY:∀ d:D,(wlk d).length<=nds d
 | .tup (.str n :: ds)=>by rw [wlk,nds,List.length_cons];have:=qO ds;omega
 | .lst (.str n :: ds)=>by rw [wlk,nds,List.length_cons];have:=qO ds;omega
 | .non | .bl _ | .int _ | .str _ | .tup [] | .lst [] | .tup (.non :: _) | .tup (.bl _ :: _) | .tup (.int _ :: _) | .tup (.tup _ :: _) | .tup (.lst _ :: _) | .lst (.non :: _) | .lst (.bl _ :: _) | .lst (.int _ :: _) | .lst (.tup _ :: _) | .lst (.lst _ :: _)=>by unfold wlk;rw [List.length_singleton];exact qG _
theorem qO:∀ ds:List D,(wlks ds).length<=ndss ds
 | []=>Nat.le_refl _
 | d :: ds=>by rw [wlks,ndss,List.length_append];have:=mY d;have:=qO ds;omega
end
noncomputable def jK:Sp:=fun vs H Q _=>∃ (d:D) (v:V) (G:Hp),vs=[v]/\aG G H/\bB G d v/\Wk d/\nds d<=1000/\∀ (l:Addr) (ws:List V) (H':Hp),aG H H'->H l=none->H' l=some (.lst ws)->Reps G (wlk d) ws->Q (.ref l) H'
noncomputable def PJ (v:V)(fo t:Addr)(d:D)(H G:Hp)(n:Nat)(σ:St)(H2:Hp):Prop:=∃ (fs ts:List D) (ws us:List V) (o:Option V),σ=[some v,some (.ref fo),some (.ref t),o]/\H2 fo=some (.lst ws)/\H2 t=some (.lst us)/\aG H H2/\Reps G fs ws/\Reps G ts us/\Wks ts /\
 fs ++ ts.reverse.flatMap wlk=wlk d/\ndss ts=n/\n<=1000
theorem DU {f:Addr}{fd:FuncData}(F:gY K "walked" "walked" iJ f fd)(T:iH mg):bR P w K mg base bC 1 f fd sC jK:=by
 refine F.ok lJ (fun vs H Q E h=>?_) (fun cdv A outer s H vs Q E hr h=>?_)
 ·obtain ⟨d,v,G,rfl,_⟩:=h
  rfl
 ·obtain ⟨d,v,G,rfl,sG,rep,wk,n1000,q⟩:=h
  have hu:=hr.units
  refine ⟨_,(aE (aZ (i:=1) lJ.nd rfl (Or.inl rfl) (cM aB))
   (aE (aZ (i:=2) lJ.nd rfl (Or.inl rfl) (cM (aA (pv 0) aB)))
   (aE (nL PassesOwn.never (aR K rfl (pv 2) (fun _=>rfl)) (aE (aZ (i:=3) lJ.nd rfl (Or.inl rfl) (AE PySem.F.plainAttrs_list PySem.F.slot_list_pop PySem.F.type_list_pop AO (pv 2)))
   (aE (cW (iW PySem.F.plainAttrs_list PySem.F.slot_list_append PySem.F.type_list_append eV (pv 1) (aA (pv 3) aB)))
   (aH (bK (cL (aR K rfl (aK aL rfl T.n_isinstance rfl (aA (pv 3) (aA (bH (v:=V.ty "str") rfl T.n_str rfl rfl) aB))) (fun _=>rfl))) (aH (cW (iW PySem.F.plainAttrs_list PySem.F.slot_list_extend PySem.F.type_list_extend wE (pv 2) (aA (tQ BY (pv 3) eU (d8 aJ) (d8 (LV FE aJ))) aB)))) aW)))))
   (aH (aP (pv 1)))))),?_⟩
  simp only [zB]
  clear hr F T hu
  have keep:=aI q (aI rep (aI wk (aI n1000 sG)))
  clear q rep wk n1000 sG
  walk_at "rd"
  obtain ⟨q,rep,wk,n1000,sG⟩:=keep
  refine ⟨by decide,fun fo hfo=>⟨by decide,fun t ht=>?_⟩⟩
  have nft:fo≠t:=aD upd_same ht
  have ht0:H t=none:=(aG.upd hfo).free ht
  refine FB (PJ v fo t d H G) (nds d) ⟨[],[d],[],[v],none,rfl,by rw [aC nft];exact upd_same,upd_same,(aG.upd hfo).trans (aG.upd ht),rfl,⟨v,[],rfl,rep,rfl⟩,⟨wk,trivial⟩,by simp,by simp [ndss],n1000⟩ ?_
  rintro n σ H2 ⟨fs,ts,ws,us,o,rfl,h1,h2,sH,rf,rt,wt,e,rfl,nle⟩ R hT hF
  rcases List.eq_nil_or_concat ts with rfl | ⟨ts',r,rfl⟩
  ·cases (show us=[] from rt)
   refine ⟨_,rfl,false,.inl ⟨[],eA.of h2,rfl⟩,hF H2 ⟨_,rfl,?_⟩⟩
   have e:fs=wlk d:=by simpa using e
   rw [e] at rf
   exact q fo ws H2 sH hfo h1 rf
  ·rw [List.concat_eq_append] at rt wt e nle hT
   obtain ⟨us',u,rfl,rt',ru⟩:=iT rt
   obtain ⟨wt',wr⟩:=wt.unsnoc
   have keep:=aI q (aI h1 (aI h2 (aI sH (aI rf (aI rt' (aI ru (aI wt' (aI wr (aI e (aI nle (aI hfo (aI ht0 (aI n1000 sG)))))))))))))
   refine ⟨_,rfl,true,.inl ⟨_,eA.of h2,by simp⟩,hT H2 ?_⟩
   clear q h1 h2 sH rf rt rt' ru wt wt' wr e nle hT hF rep wk n1000 hfo ht ht0 sG
   walk_at "rd"
   obtain ⟨q,h1,h2,sH,rf,rt,ru,wt,wr,e,nle,hfo,ht0,n1000,sG⟩:=keep
   rw [List.dropLast_concat]
   rw [List.reverse_append,List.reverse_cons,List.reverse_nil,List.nil_append,List.singleton_append,List.flatMap_cons] at e
   have h3:upd H2 t (.lst us') t=some (.lst us'):=upd_same
   have f3:upd H2 t (.lst us') fo=some (.lst ws):=by rw [aC nft];exact h1
   have s3:aG H (upd H2 t (.lst us')):=fun b o hb=>by rw [aC (aD hb ht0)];exact sH _ _ hb
   generalize upd H2 t (.lst us')=H3 at h3 f3 s3 ⊢
   have h4:upd H3 fo (.lst (ws ++ [u])) t=some (.lst us'):=by rw [aC nft.symm];exact h3
   have f4:upd H3 fo (.lst (ws ++ [u])) fo=some (.lst (ws ++ [u])):=upd_same
   have s4:aG H (upd H3 fo (.lst (ws ++ [u]))):=fun b o hb=>by rw [aC (aD hb hfo)];exact s3 _ _ hb
   have lf:=Reps.len rf
   have lw:=congrArg List.length e
   rw [List.length_append] at lw
   have lt':=Reps.len rt
   have hn:=jO ts'
   have hnr:nds r + ndss ts'<=1000:=by
    rw [fX,ndss,ndss] at nle;omega
   have rep2:Reps G (fs ++ [r]) (ws ++ [u]):=Reps.snoc ru rf
   refine ⟨tyL h2,u,by simp,tyL f3,ws,f3,Nat.lt_of_le_of_lt (m:=1000) (by have:=mY d;omega) (by decide),?_⟩
   generalize upd H3 fo (.lst (ws ++ [u]))=H4 at h4 f4 s4 ⊢
   have sG4:=sG.trans s4
   rw [fX]
   rcases FA wr with ⟨x,rfl⟩ | ⟨nm,ds,hd,wds⟩
   ·cases (show u = .str x from ru)
    refine ⟨true,rfl,?_⟩
    rw [if_neg (by decide)]
    refine ⟨ndss ts',by rw [ndss,ndss];have:=qG (.str x);omega,fs ++ [.str x],ts',_,us',_,rfl,f4,h4,s4,rep2,rt,wt,?_,rfl,by omega⟩
    rw [← e]
    show _=fs ++ ([.str x] ++ _)
    rw [List.append_assoc]
   ·obtain ⟨va,vs',rfl,hbb,hseq⟩:∃ va vs',u = .ref va/\isV H4 (.ref va) (.ty "str")=some false/\eG H4 va (.str nm :: vs')/\Reps G ds vs':=by
     rcases hd with rfl | rfl
     ·obtain ⟨a,vs,rfl,ha,_,vs',rfl,e1,r⟩:=ru
      cases e1
      exact ⟨a,vs',rfl,i9 (sG4 _ _ ha),.inr (sG4 _ _ ha),r⟩
     ·obtain ⟨a,vs,rfl,ha,_,vs',rfl,e1,r⟩:=ru
      cases e1
      exact ⟨a,vs',rfl,kP (sG4 _ _ ha),.inl (sG4 _ _ ha),r⟩
    obtain ⟨hseq,res⟩:=hseq
    have hnd:nds r=1 + ndss ds:=by rcases hd with rfl | rfl <;> rw [nds]
    have hwl:wlk r=r :: wlks ds:=by rcases hd with rfl | rfl <;> rw [wlk]
    have h1:=jO ds
    have lr:=Reps.len res
    refine ⟨false,hbb,?_⟩
    rw [if_pos rfl]
    refine ⟨tyL h4,_,rfl,0,rfl,1,rfl,-1,rfl,rfl,rfl,rfl,va,_,rfl,hseq,by simp,fun b o hb ho=>?_⟩
    rw [tO] at ho
    have h5:upd H4 b o t=some (.lst us'):=by rw [aC (aD h4 hb)];exact h4
    have f5:upd H4 b o fo=some (.lst (ws ++ [.ref va])):=by rw [aC (aD f4 hb)];exact f4
    have s5:aG H (upd H4 b o):=s4.trans (aG.upd hb)
    refine ⟨t,b,us',vs'.reverse,rfl,rfl,h5,by rcases ho with ⟨rfl,_⟩ | ⟨rfl,_⟩;exact .inl upd_same;exact .inr upd_same,Nat.le_trans (m:=2000) (by rw [List.length_reverse];omega) (by decide),ndss ts' + ndss ds,by rw [ndss,ndss];omega,fs ++ [r],ts' ++ ds.reverse,_,_,_,rfl,by rw [aC nft];exact f5,upd_same,?_,rep2,Reps.append rt (Reps.rev res),wt.app wds.rev,?_,by rw [fX,rE],by omega⟩
    ·exact fun b o hb=>by rw [aC (aD hb ht0)];exact s5 _ _ hb
    ·rw [← e,hwl,List.reverse_append,List.reverse_reverse,List.flatMap_append,← tE]
     simp
noncomputable def mrk:D->M
 | .str x=>(sortS x,x,0)
 | .tup (.str n :: ds)=>(2,n,ds.length + 1)
 | _=>(0,"",0)
mutual
theorem CJ:∀ {d:D},Fl d->key d=(wlk d).map mrk
 | .str x,_=>by unfold key wlk;rfl
 | .tup (.str n :: ds),h=>by unfold Fl at h;rw [key,wlk,yM h];rfl
 | .non,h | .bl _,h | .int _,h | .lst _,h | .tup [],h | .tup (.non :: _),h | .tup (.bl _ :: _),h | .tup (.int _ :: _),h | .tup (.tup _ :: _),h | .tup (.lst _ :: _),h=>by unfold Fl at h;exact absurd h id
theorem yM:∀ {ds:List D},Fls ds->keys ds=(wlks ds).map mrk
 | [],_=>rfl
 | d :: ds,⟨a,b⟩=>by rw [keys,wlks,CJ a,yM b,List.map_append]
end
mutual
theorem HV:∀ {d:D},Fl d->∀ e ∈ wlk d,Fl e
 | .str x,h=>by unfold wlk;intro e he;rw [List.mem_singleton.mp he];exact h
 | .tup (.str n :: ds),h=>by
  rw [wlk]
  intro e he
  obtain rfl | he:=List.mem_cons.mp he
  ·exact h
  ·exact CO (by unfold Fl at h;exact h) e he
 | .non,h | .bl _,h | .int _,h | .lst _,h | .tup [],h | .tup (.non :: _),h | .tup (.bl _ :: _),h | .tup (.int _ :: _),h | .tup (.tup _ :: _),h | .tup (.lst _ :: _),h=>by unfold Fl at h;exact absurd h id
theorem CO:∀ {ds:List D},Fls ds->∀ e ∈ wlks ds,Fl e
 | [],_=>fun e he=>by cases he
 | d :: ds,⟨a,b⟩=>fun e he=>by
  rw [wlks] at he
  obtain he | he:=List.mem_append.mp he
  ·exact HV a e he
  ·exact CO b e he
end
noncomputable def mV (m:M):List V:=[.int m.1,.str m.2.1,.int m.2.2]
noncomputable def mD (m:M):D:=.tup [.int m.1,.str m.2.1,.int m.2.2]
noncomputable def zQ:Sp:=fun vs H Q _=>∃ (d:D) (v:V),vs=[v]/\bB H d v/\Fl d/\∀ p,H p=none->Q (.ref p) (upd H p (.tup (mV (mrk d))))
theorem KI {f:Addr}{fd:FuncData}(F:gY K "order_mark" "order_mark" dX f fd)(T:iH mg):bR P w K mg base bC 1 f fd j5 zQ:=by
 refine F.ok sS (fun vs H Q E h=>?_) (fun cdv A outer s H vs Q E hr h=>?_)
 ·obtain ⟨d,v,rfl,_⟩:=h
  rfl
 ·obtain ⟨d,v,rfl,rep,fl,q⟩:=h
  have hu:=hr.units
  refine ⟨_,(aE (bK (aR K rfl (aK aL rfl T.n_isinstance rfl (aA (pv 0) (aA (bH (v:=V.ty "str") rfl T.n_str rfl rfl) aB))) (fun _=>rfl)) (aH (aP (fW (aA (q8 (a0 (eF hu) (bN dD (pv 0) aJ (fun _ _=>rfl)) gH (nomark _)) aJ aJ) (aA (pv 0) (aA aJ aB)))))) aW)
   (aH (aP (fW (aA aJ (aA (bN dD (pv 0) aJ (fun _ _=>rfl)) (aA (aK bD rfl T.n_len rfl (aA (pv 0) aB)) aB))))))),?_⟩
  simp only [n9]
  clear hr F T hu
  have keep:=aI q (aI rep fl)
  clear q rep fl
  walk_at "rd"
  obtain ⟨q,rep,fl⟩:=keep
  rcases jB fl with ⟨x,rfl,h1,h2⟩ | ⟨nm,ds,rfl,fls⟩
  ·cases (show v = .str x from rep)
   refine ⟨true,rfl,?_⟩
   rw [if_pos rfl]
   have hz:x.length<=sizeLine:=Nat.le_trans (m:=20) (by rw [Array.length_toList] at h2;exact h2) (by decide)
   cases hc:x.cps.toList with
   | nil=>rw [hc] at h1;simp at h1
   | cons c r =>
    refine ⟨.str ⟨#[c]⟩,by rw [qJ hz,hc,atI_zero];rfl,?_⟩
    rw [rEqD_ss]
    refine ⟨_,rfl,?_⟩
    have ec:decide ((⟨#[c]⟩:Str)=Str.ofString "?")=decide (c=63):=by
     have e2:Str.ofString "?" = ⟨#[63]⟩:=by decide +kernel
     rw [e2,Bool.eq_iff_iff]
     simp
    have es:sortS x=if c=63 then 0 else 1:=by unfold sortS;rw [hc];simp
    rw [ec]
    by_cases h:c=63
    ·rw [if_pos (decide_eq_true h)]
     refine ⟨by decide,fun p hp=>?_⟩
     have:Q (.ref p) (upd H p (.tup [.int (sortS x),.str x,.int 0])):=q p hp
     rw [es,if_pos h] at this
     exact this
    ·rw [if_neg (by simpa using h)]
     refine ⟨by decide,fun p hp=>?_⟩
     have:Q (.ref p) (upd H p (.tup [.int (sortS x),.str x,.int 0])):=q p hp
     rw [es,if_neg h] at this
     exact this
  ·obtain ⟨a,vs,rfl,ha,_,vs',rfl,e1,r⟩:=rep
   cases e1
   have lr:=Reps.len r
   refine ⟨false,i9 ha,?_⟩
   rw [if_neg (by decide)]
   refine ⟨.str nm,by rw [ixV_t ha,atI_zero],.int (ds.length + 1),by rw [lenV_t ha,List.length_cons,lr];rfl,by decide,fun p hp=>?_⟩
   exact q p hp
noncomputable def spKey:Sp:=fun vs H Q _=>∃ (d:D) (v:V),vs=[v]/\bB H d v/\Fl d/\nds d<=1000/\∀ (l:Addr) (H':Hp),aG H H'->H l=none->bB (nw H H') (.lst ((key d).map mD)) (.ref l)->Q (.ref l) H'
noncomputable def PU (ds:List D)(H H1:Hp)(i:Nat)(acc:List V)(σ:St)(H2:Hp):Prop:=∃ o0:Option V,σ=[o0]/\aG H1 H2/\Reps (nw H H2) (((ds.take i).map mrk).map mD) acc
theorem xT {H:Hp}{p:Addr}{m:M}(h:H p=some (.tup (mV m))):bB H (mD m) (.ref p):=⟨p,_,rfl,h,.int _,_,rfl,rfl,.str _,_,rfl,rfl,.int _,[],rfl,rfl,rfl⟩
theorem B2 {H H1 H2:Hp}(s:aG H1 H2):aG (nw H H1) (nw H H2):=fun a o e=>by
 obtain ⟨h1,h2⟩:=g7.mp e
 exact g7.mpr ⟨h1,s _ _ h2⟩
theorem M7 {f:Addr}{fd:FuncData}(F:gY K "order_key" "order_key" dS f fd)(T:iH mg)(O_order_mark:cH P w K mg base bC 1 "order_mark" zQ)(O_walked:cH P w K mg base bC 1 "walked" jK):bR P w K mg base bC 2 f fd kZ spKey:=by
 refine F.ok vO (fun vs H Q E h=>?_) (fun cdv A outer s H vs Q E hr h=>?_)
 ·obtain ⟨d,v,rfl,_⟩:=h
  rfl
 ·obtain ⟨d,v,rfl,rep,fl,n1000,q⟩:=h
  have hu:=hr.units
  refine ⟨_,(aE (bK (aR K rfl (aK aL rfl T.n_isinstance rfl (aA (pv 0) (aA (bH (v:=V.ty "str") rfl T.n_str rfl rfl) aB))) (fun _=>rfl)) (aH (aP (cM (aA (aM O_order_mark (hr.mono (by decide)) pass0 rfl (aA (pv 0) aB)) aB)))) aW)
   (aH (aP (fA rfl (bG.by (N:=lF) (names:=(aF dS).names) (N':=["at"]) (src:=[none]) (by decide +kernel) rfl rfl) (cX K rfl (aM O_walked (hr.mono (by decide)) pass0 rfl (aA (pv 0) aB))) (fun _ _ _ _=>(bJ (i:=0) (show List.Nodup (["at"]:aQ) by decide +kernel) rfl (Or.inl rfl))) (fun _ _ _ _=>eT) (fun _ _ _ _=>(aM O_order_mark (hr.mono (by decide)) pass0 rfl (aA (pv 0) aB))))))),?_⟩
  simp only [lF]
  clear hr F T hu O_order_mark O_walked
  have keep:=aI q (aI rep (aI fl n1000))
  clear q rep fl n1000
  walk_at "rd"
  obtain ⟨q,rep,fl,n1000⟩:=keep
  rcases jB fl with ⟨x,rfl,h1,h2⟩ | ⟨nm,ds,rfl,fls⟩
  ·cases (show v = .str x from rep)
   refine ⟨true,rfl,?_⟩
   rw [if_pos rfl]
   refine ⟨_,_,rfl,rep,fl,fun p hp=>⟨by decide,fun l hl=>q l _ ((aG.upd hp).trans (aG.upd hl)) ((aG.upd hp).free hl) ?_⟩⟩
   have hk:key (.str x)=[mrk (.str x)]:=by unfold key;rfl
   rw [hk]
   exact ⟨l,[.ref p],rfl,g7.mpr ⟨(aG.upd hp).free hl,upd_same⟩,.ref p,[],rfl,xT (g7.mpr ⟨hp,by rw [aC (aD upd_same hl)];exact upd_same⟩),rfl⟩
  ·obtain ⟨b,hb⟩:∃ b,isV H v (.ty "str")=some b/\b=false:=by
    obtain ⟨a,vs,rfl,ha,_⟩:=rep
    exact ⟨false,i9 ha,rfl⟩
   refine ⟨b,hb.1,?_⟩
   rw [if_neg (by rw [hb.2];decide)]
   refine ⟨_,v,H,rfl,aG.refl _,rep,LZ fl,n1000,fun l0 ws H1 s1 hl0 h1 rws=>⟨l0,rfl,ws,.inl h1,fun J hJ=>?_⟩⟩
   have lw:=Reps.len rws
   have lk:=mY (.tup (.str nm :: ds))
   refine dC hJ (PU (wlk (.tup (.str nm :: ds))) H H1) ⟨none,rfl,aG.refl _,rfl⟩ (fun i acc σ H' _ ⟨_,_,s2,_⟩=>by rw [h1,s2 _ _ h1]) ?_ ?_
   ·rintro i x acc σ H2 hx ⟨o0,rfl,s2,racc⟩
    obtain ⟨e,he,re⟩:=Reps.get rws hx
    have la:=Reps.len racc
    refine ⟨_,rfl,e,x,rfl,bB.same (s1.trans s2) re,HV fl e (List.mem_of_getElem? he),fun p hp=>⟨Nat.lt_of_le_of_lt (m:=1000) ?_ (by decide),_,rfl,s2.trans (aG.upd hp),?_⟩⟩
    ·rw [List.length_map,List.length_map,List.length_take] at la
     omega
    ·rw [aV he,List.map_append,List.map_append]
     exact Reps.snoc (xT (g7.mpr ⟨(s1.trans s2).free hp,upd_same⟩)) (Reps.same (B2 (aG.upd hp)) racc)
   ·rintro acc σ H2 ⟨o0,rfl,s2,racc⟩ l hl
    rw [lw,List.take_length] at racc
    refine q l _ ((s1.trans s2).trans (aG.upd hl)) ((s1.trans s2).free hl) ?_
    rw [CJ fl]
    exact ⟨l,acc,rfl,g7.mpr ⟨(s1.trans s2).free hl,upd_same⟩,Reps.same (B2 (aG.upd hl)) racc⟩
noncomputable def opP (n:Str)(d:D):List D:=match d with
 | .tup (.str m :: es)=>if m=n then es else [d]
 | d=>[d]
noncomputable def oQ:Sp:=fun vs H Q _=>∃ (n:Str) (d:D) (v:V),vs=[.str n,v]/\bB H d v/\Fl d/\∀ (l:Addr) (ws:List V) (H':Hp),aG H H'->H l=none->H' l=some (.lst ws)->Reps H (opP n d) ws->Q (.ref l) H'
theorem AI {f:Addr}{fd:FuncData}(F:gY K "opened" "opened" iK f fd)(T:iH mg):bR P w K mg base bC 1 f fd sE oQ:=by
 refine F.ok DL (fun vs H Q E h=>?_) (fun cdv A outer s H vs Q E hr h=>?_)
 ·obtain ⟨n,d,v,rfl,_⟩:=h
  rfl
 ·obtain ⟨n,d,v,rfl,rep,fl,q⟩:=h
  have hu:=hr.units
  refine ⟨_,(aE (bK (PW.pt (oV (aR K rfl (aK aL rfl T.n_isinstance rfl (aA (pv 1) (aA (bH (v:=V.ty "tuple") rfl T.n_tuple rfl rfl) aB))) (fun _=>rfl)) (lK (a0 (eF hu) (bN dD (pv 1) aJ (fun _ _=>rfl)) (pv 0) (nomark _))))) (aH (aP (bZ rX rfl T.n_list rfl (aA (eN jU (pv 1) (d8 aJ) eU) aB)))) aW)
   (aH (aP (cM (aA (pv 1) aB))))),?_⟩
  simp only [zC]
  clear hr F T hu
  have keep:=aI q (aI rep fl)
  clear q rep fl
  walk_at "rd"
  obtain ⟨q,rep,fl⟩:=keep
  have one1:opP n d=[d]->1<=sizeLine/\∀ (p:Addr),H p=none->Q (V.ref p) (upd H p (HO.lst [v])):=fun e=>⟨by decide,fun p hp=>q p [v] _ (aG.upd hp) hp upd_same (by rw [e];exact ⟨v,[],rfl,rep,rfl⟩)⟩
  rcases jB fl with ⟨x,rfl,h1,h2⟩ | ⟨nm,ds,rfl,fls⟩
  ·cases (show v = .str x from rep)
   exact ⟨false,rfl,by rw [if_neg (by decide)];exact one1 rfl⟩
  ·obtain ⟨a,vs,rfl,ha,_,vs',rfl,e1,r⟩:=id rep
   cases e1
   refine ⟨true,wO ha,?_⟩
   rw [if_pos rfl]
   refine ⟨.str nm,by rw [ixV_t ha,atI_zero],?_⟩
   rw [rEqD_ss]
   refine ⟨_,rfl,?_⟩
   by_cases e:nm=n
   ·rw [if_pos (decide_eq_true e)]
    refine ⟨a,rfl,_,.inr ha,fun _ h=>?_,fun p o hp ho=>?_⟩
    ·have:=h.1
     simp [HT.sIx] at this
    ·rw [qM] at ho
     refine ⟨vs',by rcases ho with ⟨rfl,_⟩ | ⟨rfl,_⟩;rw [seqV_l upd_same];rw [seqV_t upd_same],fun l hl=>q l vs' _ ((aG.upd hp).trans (aG.upd hl)) ((aG.upd hp).free hl) upd_same ?_⟩
     show Reps H (if nm=n then ds else [.tup (.str nm :: ds)]) vs'
     rw [if_pos e]
     exact r
   ·rw [if_neg (by simpa using e)]
    exact one1 (by show (if nm=n then ds else [.tup (.str nm :: ds)])=_;rw [if_neg e])
end
end Lw
namespace L2
open PySem PySem.Spec PyProof.Rows PySem.W
noncomputable def iF (n:Nat)(lt:Nat->Nat->Bool){α:Type}:KasT α->(α->Prop)->Prop
 | .ret a,Q=>Q a
 | .ask i j k,Q=>i < n/\j < n/\iF n lt (k (lt i j)) Q
theorem iF.bind {n:Nat}{lt:Nat->Nat->Bool}{α β:Type}{f:α->KasT β}{Q:β->Prop}{R:α->Prop}(hf:∀ a,R a->iF n lt (f a) Q):∀ {t:KasT α},iF n lt t R->iF n lt (t.bind f) Q
 | .ret a,h=>hf a h
 | .ask i j k,h=>⟨h.1,h.2.1,iF.bind hf h.2.2⟩
theorem iF.mono {n:Nat}{lt:Nat->Nat->Bool}{α:Type}{Q R:α->Prop}(hf:∀ a,R a->Q a):∀ {t:KasT α},iF n lt t R->iF n lt t Q
 | .ret a,h=>hf a h
 | .ask i j k,h=>⟨h.1,h.2.1,iF.mono hf h.2.2⟩
structure OO (n:Nat)(lt:Nat->Nat->Bool):Prop where
 irr:∀ i,lt i i=false
 asym:∀ i j,lt i j=true->lt j i=false
 tr:∀ i j k,lt j i=false->lt k j=false->lt k i=false
section
variable {n:Nat}{lt:Nat->Nat->Bool}
noncomputable def le (lt:Nat->Nat->Bool)(i j:Nat):Prop:=lt j i=false
noncomputable abbrev pa (p:Array Nat)(i:Nat):Nat:=p.getD i 0
noncomputable def Up (lt:Nat->Nat->Bool)(p:Array Nat)(k:Nat):Prop:=∀ i j,i<=j->j < k->le lt (pa p i) (pa p j)
noncomputable def Dn (lt:Nat->Nat->Bool)(p:Array Nat)(k:Nat):Prop:=∀ i j,i<=j->j < k->le lt (pa p j) (pa p i)
noncomputable def Gd (n:Nat)(p:Array Nat):Prop:=p.Perm (List.range n).toArray
theorem Gd.size {p:Array Nat}(h:Gd n p):p.size=n:=by have:=h.size_eq;simpa using this
theorem Gd.inn {p:Array Nat}(h:Gd n p)(hn:1<=n)(i:Nat):pa p i < n:=by
 by_cases hi:i < p.size
 ·have e:pa p i=p[i]:=by simp [pa,Array.getD,hi]
  rw [e]
  have hm:p[i] ∈ p.toList:=by simp
  have:=(Array.perm_iff_toList_perm.mp h).mem_iff.mp hm
  simpa using this
 ·have e:pa p i=0:=by simp [pa,Array.getD,hi]
  rw [e];exact hn
theorem xW {p q:Array Nat}{i j:Nat}(h:p[i]?=q[j]?):pa p i=pa q j:=by
 unfold pa
 rw [Array.getD_eq_getD_getElem?,Array.getD_eq_getD_getElem?,h]
theorem jX {p:Array Nat}{i j:Nat}(hj:j<=p.size)(k:Nat):pa (kas_rev p i j) k=if i<=k/\k < j then pa p (i + j - 1 - k) else pa p k:=by
 have e:=getElem?_mirror_all (xs:=p) (i:=i) hj k
 unfold kas_rev
 by_cases h:i<=k/\k < j
 ·rw [if_pos h] at e ⊢;exact xW e
 ·rw [if_neg h] at e ⊢;exact xW e
theorem MS {p:Array Nat}{src d:Nat}(hs:src < p.size)(hd:d<=src)(k:Nat):pa (bubble p src d) k=if k=src - d then pa p src else if src - d < k/\k<=src then pa p (k - 1) else pa p k:=by
 have e:=getElem?_bubble (xs:=p) hs d hd k
 by_cases h1:k=src - d
 ·rw [if_pos h1] at e ⊢;exact xW e
 ·rw [if_neg h1] at e ⊢
  by_cases mid:src - d < k/\k<=src
  ·rw [if_pos mid] at e ⊢;exact xW e
  ·rw [if_neg mid] at e ⊢;exact xW e
theorem Gd.rev {p:Array Nat}(h:Gd n p)(i j:Nat):Gd n (kas_rev p i j):=(mirror_perm p i j _).trans h
theorem Gd.bub {p:Array Nat}(h:Gd n p)(i j:Nat):Gd n (bubble p i j):=(bubble_perm p i j).trans h
variable (O:OO n lt)
include O
theorem OO.le_refl (i:Nat):le lt i i:=O.irr i
theorem OO.le_trans {i j k:Nat}(a:le lt i j)(b:le lt j k):le lt i k:=O.tr i j k a b
theorem OO.le_of {i j:Nat}(h:lt i j=true):le lt i j:=O.asym i j h
theorem Up.snoc {p:Array Nat}{k:Nat}(h:Up lt p k)(hk:1<=k)(e:le lt (pa p (k - 1)) (pa p k)):Up lt p (k + 1):=by
 intro i j hij hj
 by_cases hjk:j < k
 ·exact h i j hij hjk
 ·have:j=k:=by omega
  subst this
  by_cases hi:i=j
  ·subst hi;exact O.le_refl _
  ·exact O.le_trans (h i (j - 1) (by omega) (by omega)) e
theorem Dn.snoc {p:Array Nat}{k:Nat}(h:Dn lt p k)(hk:1<=k)(e:le lt (pa p k) (pa p (k - 1))):Dn lt p (k + 1):=by
 intro i j hij hj
 by_cases hjk:j < k
 ·exact h i j hij hjk
 ·have:j=k:=by omega
  subst this
  by_cases hi:i=j
  ·subst hi;exact O.le_refl _
  ·exact O.le_trans e (h i (j - 1) (by omega) (by omega))
theorem r9 {p:Array Nat}(g:Gd n p)(hn:1<=n):∀ (f k:Nat),1<=k->Up lt p k->iF n lt (kas_asc p f k) fun m=>k<=m/\m<=k + f/\Up lt p m/\(m < k + f->lt (pa p m) (pa p (m - 1))=true)
 | 0,k,h1,h=>⟨Nat.le_refl _,Nat.le_refl _,h,fun z=>absurd z (Nat.lt_irrefl _)⟩
 | f + 1,k,h1,h=>by
  refine ⟨g.inn hn _,g.inn hn _,?_⟩
  cases c:lt (p.getD k 0) (p.getD (k - 1) 0) with
  | true =>
   dsimp only
   rw [if_pos rfl]
   exact ⟨Nat.le_refl _,by omega,h,fun _=>c⟩
  | false =>
   dsimp only
   rw [if_neg (by decide)]
   exact (r9 g hn f (k + 1) (by omega) (Up.snoc O h h1 c)).mono fun m ⟨a,b,d,e⟩=>⟨by omega,by omega,d,fun z=>e (by omega)⟩
theorem mR {p:Array Nat}{k:Nat}(g:Gd n p)(hn:1<=n)(up:Up lt p k):∀ (f l r:Nat),r - l<=f->l<=r->r<=k->(∀ i,i < l->le lt (pa p i) (pa p k))->(∀ i,r<=i->i < k->le lt (pa p k) (pa p i)) ->
  iF n lt (kas_place p k f l r) fun m=>m<=k/\(∀ i,i < m->le lt (pa p i) (pa p k))/\(∀ i,m<=i->i < k->le lt (pa p k) (pa p i))
 | 0,l,r,hf,hlr,hrk,h1,h2=>by
  have:l=r:=by omega
  subst this
  exact ⟨hrk,h1,h2⟩
 | f + 1,l,r,hf,hlr,hrk,h1,h2=>by
  unfold kas_place
  by_cases hge:l ≥ r
  ·rw [if_pos hge]
   have:l=r:=by omega
   subst this
   exact ⟨hrk,h1,h2⟩
  ·rw [if_neg hge]
   refine ⟨g.inn hn _,g.inn hn _,?_⟩
   cases c:lt (p.getD k 0) (p.getD ((l + r) / 2) 0) with
   | true =>
    dsimp only
    rw [if_pos rfl]
    refine mR g hn up f l ((l + r) / 2) (by omega) (by omega) (by omega) h1 fun i hi hk=>?_
    exact O.le_trans (O.le_of c) (up _ _ hi hk)
   | false =>
    dsimp only
    rw [if_neg (by decide)]
    refine mR g hn up f ((l + r) / 2 + 1) r (by omega) (by omega) hrk (fun i hi=>?_) h2
    exact O.le_trans (up i ((l + r) / 2) (by omega) (by omega)) c
theorem MB {p:Array Nat}{k l:Nat}(hk:k < p.size)(up:Up lt p k)(hl:l<=k)(h1:∀ i,i < l->le lt (pa p i) (pa p k))(h2:∀ i,l<=i->i < k->le lt (pa p k) (pa p i)):Up lt (bubble p k (k - l)) (k + 1):=by
 have e:=MS (p:=p) hk (Nat.sub_le k l)
 have ek:k - (k - l)=l:=by omega
 rw [ek] at e
 intro i j hij hj
 rw [e i,e j]
 by_cases i1:i=l
 ·rw [if_pos i1]
  by_cases j1:j=l
  ·rw [if_pos j1];exact O.le_refl _
  ·rw [if_neg j1,if_pos (by omega)]
   exact h2 _ (by omega) (by omega)
 ·rw [if_neg i1]
  by_cases i2:l < i/\i<=k
  ·rw [if_pos i2,if_neg (by omega),if_pos (by omega)]
   exact up _ _ (by omega) (by omega)
  ·rw [if_neg i2]
   by_cases j1:j=l
   ·rw [if_pos j1];exact h1 _ (by omega)
   ·rw [if_neg j1]
    by_cases j2:l < j/\j<=k
    ·rw [if_pos j2];exact up _ _ (by omega) (by omega)
    ·rw [if_neg j2];exact up _ _ hij (by omega)
theorem y9 (hn:1<=n):∀ (f:Nat) (p:Array Nat) (k:Nat),Gd n p->k + f<=n->Up lt p k->iF n lt (kas_bin f p k) fun q=>Gd n q/\Up lt q (k + f)
 | 0,p,k,g,hk,up=>⟨g,up⟩
 | f + 1,p,k,g,hk,up=>by
  unfold kas_bin
  refine iF.bind (R:=fun m=>m<=k/\(∀ i,i < m->le lt (pa p i) (pa p k))/\(∀ i,m<=i->i < k->le lt (pa p k) (pa p i))) (fun m hm=>?_) (mR O g hn up k 0 k (by omega) (by omega) (Nat.le_refl _) (fun i hi=>absurd hi (Nat.not_lt_zero _)) fun i hi hk=>absurd hi (by omega))
  refine (y9 hn f (bubble p k (k - m)) (k + 1) (g.bub _ _) (by omega) (MB O (by rw [g.size];omega) up hm.1 hm.2.1 hm.2.2)).mono fun q h=>⟨h.1,?_⟩
  rw [show k + (f + 1)=k + 1 + f by omega]
  exact h.2
noncomputable def N8 (lt:Nat->Nat->Bool)(p:Array Nat)(n q:Nat):Prop:=∀ i j,n - (q + 1)<=i->i < n->n - (q + 1)<=j->j < n->le lt (pa p i) (pa p j)
theorem HZ {p:Array Nat}{k q:Nat}(hk:k<=p.size)(dn:Dn lt p k)(eq:N8 lt p k q):Dn lt (kas_rev p (k - (q + 1)) k) k:=by
 intro i j hij hj
 rw [jX hk,jX hk]
 by_cases h1:k - (q + 1)<=i/\i < k
 ·rw [if_pos h1,if_pos (by omega)]
  exact eq _ _ (by omega) (by omega) (by omega) (by omega)
 ·rw [if_neg h1]
  by_cases h2:k - (q + 1)<=j/\j < k
  ·rw [if_pos h2];exact dn _ _ (by omega) (by omega)
  ·rw [if_neg h2];exact dn _ _ hij hj
theorem rA {p:Array Nat}{i j:Nat}(hj:j<=p.size){k:Nat}(h:j<=k):pa (kas_rev p i j) k=pa p k:=by rw [jX hj,if_neg (by omega)]
theorem lU (hn:1<=n):∀ (f:Nat) (p:Array Nat) (k q:Nat),Gd n p->1<=k->k + f<=n->q + 1<=k->Dn lt p k->N8 lt p k q->iF n lt (kas_desc f p k q) fun r=>Gd n r.1/\k<=r.2.1/\r.2.1<=k + f/\r.2.2 + 1<=r.2.1/\Dn lt r.1 r.2.1/\N8 lt r.1 r.2.1 r.2.2
 | 0,p,k,q,g,h1,hk,hq,dn,eq=>⟨g,Nat.le_refl _,Nat.le_refl _,hq,dn,eq⟩
 | f + 1,p,k,q,g,h1,hk,hq,dn,eq=>by
  refine ⟨g.inn hn _,g.inn hn _,?_⟩
  have one:∀ p':Array Nat,N8 lt p' (k + 1) 0:=fun p' i j a b c d=>by
   have:i=k:=by omega
   have:j=k:=by omega
   subst_vars
   exact O.le_refl _
  have more:∀ r:Array Nat×Nat×Nat,(Gd n r.1/\k + 1<=r.2.1/\r.2.1<=k + 1 + f/\r.2.2 + 1<=r.2.1/\Dn lt r.1 r.2.1/\N8 lt r.1 r.2.1 r.2.2)->(Gd n r.1/\k<=r.2.1/\r.2.1<=k + (f + 1)/\r.2.2 + 1<=r.2.1/\Dn lt r.1 r.2.1/\N8 lt r.1 r.2.1 r.2.2):=fun r ⟨a,b,c,d⟩=>⟨a,by omega,by omega,d⟩
  have hz:k<=p.size:=by rw [g.size];omega
  cases c:lt (p.getD k 0) (p.getD (k - 1) 0) with
  | true =>
   dsimp only
   rw [if_pos rfl]
   have lc:=O.le_of c
   by_cases h0:q > 0
   ·rw [if_pos h0]
    have d1:=HZ O hz dn eq
    have e1:pa (kas_rev p (k - (q + 1)) k) k=pa p k:=rA O hz (Nat.le_refl _)
    have e2:le lt (pa p k) (pa (kas_rev p (k - (q + 1)) k) (k - 1)):=by
     rw [jX hz,if_pos (by omega)]
     exact O.le_trans lc (eq _ _ (by omega) (by omega) (by omega) (by omega))
    exact (lU hn f _ (k + 1) 0 (g.rev _ _) (by omega) (by omega) (by omega) (Dn.snoc O d1 h1 (by rw [e1];exact e2)) (one _)).mono more
   ·rw [if_neg h0]
    exact (lU hn f p (k + 1) 0 g (by omega) (by omega) (by omega) (Dn.snoc O dn h1 lc) (one _)).mono more
  | false =>
   dsimp only
   rw [if_neg (by decide)]
   refine ⟨g.inn hn _,g.inn hn _,?_⟩
   cases c2:lt (p.getD (k - 1) 0) (p.getD k 0) with
   | true =>
    dsimp only
    rw [if_pos rfl]
    exact ⟨g,Nat.le_refl _,by show k<=k + (f + 1);omega,hq,dn,eq⟩
   | false =>
    dsimp only
    rw [if_neg (by decide)]
    refine (lU hn f p (k + 1) (q + 1) g (by omega) (by omega) (by omega) (Dn.snoc O dn h1 c2) ?_).mono more
    have a1:le lt (pa p (k - 1)) (pa p k):=c
    have a2:le lt (pa p k) (pa p (k - 1)):=c2
    intro i j hi hi' hj hj'
    by_cases i1:i=k
    ·by_cases j1:j=k
     ·subst i1;subst j1;exact O.le_refl _
     ·subst i1;exact O.le_trans a2 (eq _ _ (by omega) (by omega) (by omega) (by omega))
    ·by_cases j1:j=k
     ·subst j1;exact O.le_trans (eq _ _ (by omega) (by omega) (by omega) (by omega)) a1
     ·exact eq _ _ (by omega) (by omega) (by omega) (by omega)
theorem IX {p:Array Nat}{k:Nat}(hk:k<=p.size)(dn:Dn lt p k):Up lt (kas_rev p 0 k) k:=by
 intro i j hij hj
 rw [jX hk,jX hk,if_pos (by omega),if_pos (by omega)]
 exact dn _ _ (by omega) (by omega)
theorem rZ (hn:1<=n){p:Array Nat}{k m:Nat}(g:Gd n p)(h1:1<=k)(hk:k<=m)(hm:m<=n)(dn:Dn lt p k):iF n lt (kas_tail3 k m p) fun r=>Gd n r.2/\1<=r.1/\r.1<=m/\Up lt r.2 r.1:=by
 have hz:k<=p.size:=by rw [g.size];omega
 unfold kas_tail3
 refine iF.bind (fun a h=>?_) (r9 O (g.rev 0 k) hn (m - k) k h1 (IX O hz dn))
 exact ⟨g.rev 0 k,by have:=h.1;show 1<=a;omega,by have:=h.2.1;show a<=m;omega,h.2.2.1⟩
theorem mF (hn:1<=n){p:Array Nat}{k m:Nat}(g:Gd n p)(h1:1<=k)(hk:k + 1<=m)(hm:m<=n)(dn:Dn lt p (k + 1)):iF n lt (kas_descPart k m p) fun r=>Gd n r.2/\1<=r.1/\r.1<=m/\Up lt r.2 r.1:=by
 unfold kas_descPart
 refine iF.bind (fun r h=>?_) (lU O hn (m - (k + 1)) p (k + 1) 0 g (by omega) (by omega) (by omega) dn fun i j a b c d=>by
  have:i=k:=by omega
  have:j=k:=by omega
  subst_vars
  exact O.le_refl _)
 obtain ⟨a,b,c,d,e,f⟩:=h
 by_cases h0:r.2.2 > 0
 ·rw [if_pos h0]
  exact rZ O hn (a.rev _ _) (by omega) (by omega) hm (HZ O (by rw [a.size];omega) e f)
 ·rw [if_neg h0]
  exact rZ O hn a (by omega) (by omega) hm e
theorem BD (hn:1<=n){p:Array Nat}(g:Gd n p):iF n lt (kas_count n p) fun r=>Gd n r.2/\1<=r.1/\r.1<=n/\Up lt r.2 r.1:=by
 unfold kas_count
 refine iF.bind (fun m h=>?_) (r9 O g hn (n - 1) 1 (Nat.le_refl _) fun i j a b=>by
  have:i=0:=by omega
  have:j=0:=by omega
  subst_vars
  exact O.le_refl _)
 obtain ⟨h1,h2,up,dec⟩:=h
 by_cases e:m=n
 ·rw [if_pos (by simpa using e)]
  exact ⟨g,h1,by show m<=n;omega,up⟩
 ·rw [if_neg (by simpa using e)]
  have dc:=dec (by omega)
  by_cases h3:m > 1
  ·rw [if_pos h3]
   refine ⟨g.inn hn _,g.inn hn _,?_⟩
   cases c:lt (p.getD 0 0) (p.getD (m - 1) 0) with
   | true =>
    dsimp only
    rw [if_pos rfl]
    exact ⟨g,h1,by show m<=n;omega,up⟩
   | false =>
    dsimp only
    rw [if_neg (by decide)]
    have hz:m<=p.size:=by rw [g.size];omega
    have all:∀ i j,i < m->j < m->le lt (pa p i) (pa p j):=fun i j hi hj=>O.le_trans (O.le_trans (up i (m - 1) (by omega) (by omega)) c) (up 0 j (by omega) hj)
    refine mF O hn (g.rev 0 m) h1 (by omega) (Nat.le_refl _) (Dn.snoc O (fun i j hij hj=>?_) h1 ?_)
    ·rw [jX hz,jX hz,if_pos (by omega),if_pos (by omega)]
     exact all _ _ (by omega) (by omega)
    ·rw [rA O hz (Nat.le_refl _),jX hz,if_pos (by omega)]
     exact O.le_trans (O.le_of dc) (all _ _ (by omega) (by omega))
  ·rw [if_neg h3]
   have:m=1:=by omega
   subst this
   refine mF O hn g (Nat.le_refl _) (by omega) (Nat.le_refl _) (Dn.snoc O (fun i j hij hj=>?_) (Nat.le_refl _) (O.le_of dc))
   have:i=0:=by omega
   have:j=0:=by omega
   subst_vars
   exact O.le_refl _
theorem E1 (hn:1<=n):iF n lt (kas_sort n) fun q=>Gd n q/\Up lt q n:=by
 unfold kas_sort
 refine iF.bind (fun r h=>?_) (BD O hn (Array.Perm.refl _))
 obtain ⟨g,h1,h2,up⟩:=h
 by_cases h:r.1 < n
 ·rw [if_pos h,show max r.1 1=r.1 by omega]
  refine (y9 O hn (n - r.1) r.2 r.1 g (by omega) up).mono fun q hq=>⟨hq.1,?_⟩
  rw [← show r.1 + (n - r.1)=n by omega]
  exact hq.2
 ·rw [if_neg h]
  have:r.1=n:=by omega
  rw [this] at up
  exact ⟨g,up⟩
end
theorem CZ {n:Nat}{lt:Nat->Nat->Bool}{α:Type}{cmp:Nat->Nat->(Bool->Shared->Prop)->Shared->Prop}(J:Shared->Prop)(hc:∀ i j C s,i < n->j < n->J s->(∀ s',J s'->C (lt i j) s')->cmp i j C s){Q:α->Prop}{R:α->Shared->Prop}(hR:∀ a s,J s->Q a->R a s) :
  ∀ {t:KasT α},iF n lt t Q->∀ s,J s->t.kasWp cmp R s
 | .ret a,h,s,hs=>hR a s hs h
 | .ask i j k,h,s,hs=>hc i j _ s h.1 h.2.1 hs fun s' hs'=>CZ J hc hR h.2.2 s' hs'
end L2
namespace L2
open PySem PySem.Spec PyProof.Rows PySem.SeqAt
open PySem.AutoSeq1 (wpAny_loadPart')
open PySem.MeetsSeq PySem.MeetsSeq2 PySem.MeetsSeq3
noncomputable def LN (A:Around)(s:Shared)(y x:Value)(b:Bool):Prop:=∀ (prog:Program) (w:World) (E:bX) (Q:bX),Q (.bool b) s->wpAny (model prog w) A (richCompare .Lt y x) Q E s
inductive sZ (A:Around)(s:Shared):bP->bP->Bool->Prop
 | nn:sZ A s [] [] false
 | nc {v:Value} {vs:bP}:sZ A s [] (v :: vs) true
 | cn {u:Value} {us:bP}:sZ A s (u :: us) [] false
 | eq {u v:Value} {us vs:bP} {b:Bool}:EqAt A s u v true->sZ A s us vs b->sZ A s (u :: us) (v :: vs) b
 | ne {u v:Value} {us vs:bP} {b:Bool}:EqAt A s u v false->LN A s u v b->sZ A s (u :: us) (v :: vs) b
noncomputable def N2 (us:iA)(i:Nat)(xs:bP):Prop:=i<=us.size/\us.toList.drop i=xs
theorem N2.end_ {us:iA}{i:Nat}(h:N2 us i []):us.size=i/\us[i]?=none:=by
 have e:=congrArg List.length h.2
 rw [List.length_drop,Array.length_toList,List.length_nil] at e
 have:=h.1
 exact ⟨by omega,Array.getElem?_eq_none (by omega)⟩
theorem N2.next {us:iA}{i:Nat}{x:Value}{xs:bP}(h:N2 us i (x :: xs)):i < us.size/\us[i]?=some x/\N2 us (i + 1) xs:=by
 have e:=congrArg List.length h.2
 rw [List.length_drop,Array.length_toList,List.length_cons] at e
 have lt:i < us.toList.length:=by rw [Array.length_toList];omega
 have e2:=h.2
 rw [List.drop_eq_getElem_cons lt] at e2
 injection e2 with e3 e4
 rw [Array.length_toList] at lt
 refine ⟨lt,?_,lt,e4⟩
 rw [Array.getElem?_eq_getElem lt,← e3]
 rfl
noncomputable abbrev sP (l b:Addr)(ol ob:Obj)(xs ys:bP):PySem.Spec:=fun A R s=>s.heap.get? l=some ol/\s.heap.get? b=some ob/\∃ r,sZ A.in1 s xs ys r/\R (.ok (.ret (.bool r))) s
theorem qQ {l b:Addr}{ol ob:Obj}{xs ys:bP}{i:Nat}{prog:Program}{w:World}{A:Around}{R:Result->Shared->Prop}{s:Shared}(m:Meets (Builtin.«list.__eq__.loop» (ltAsk l b i)) (sP l b ol ob xs ys))(h:sP l b ol ob xs ys A R s) :
  (Code.builtin "list.__eq__.loop" (ltAsk l b i)).quiet=true/\codeAny (model prog w) A (.builtin "list.__eq__.loop" (ltAsk l b i)) R s:=by
 refine ⟨plainId_quiet plain_eq_loop (ltAsk l b i),codeAny_builtin entry_eq_loop ?_⟩
 have u:=A.under_plainId plain_eq_loop (ltAsk l b i)
 rw [u]
 exact m prog w A R s h
theorem tJ (l b:Addr)(us vs:iA)(n k:Nat)(du dv:Option Addr)(su sv:Array (Option Value)):∀ (xs ys:bP) (i:Nat),N2 us i xs->N2 vs i ys ->
  Meets (Builtin.«list.__eq__.loop» (ltAsk l b i)) (sP l b { cls:=.type "list",dict:=du,data:=.seq us n,slots:=su } { cls:=.type "list",dict:=dv,data:=.seq vs k,slots:=sv } xs ys)
 | [],ys,i,f,g=>by
  rintro prog w A R ⟨hp,ge,d,tk,os⟩ ⟨atL,atB,r,hc,h⟩
  obtain ⟨z,no⟩:=f.end_
  have says:r=decide (us.size < vs.size):=by
   cases hc with
   | nn=>exact (decide_eq_false (by rw [z,(g.end_).1];exact Nat.lt_irrefl _)).symm
   | nc=>exact (decide_eq_true (by rw [z];exact (g.next).1)).symm
  rw [says] at h
  wp_walk using wpAny_loadPart' atL,wpAny_loadPart' atB
  rw [show ((i:Nat):Int).toNat=i from rfl,no]
  cases vs[i]? <;> wp_walk using wpAny_loadPart' atL,wpAny_loadPart' atB <;> exact h
 | x :: xs,[],i,f,g=>by
  rintro prog w A R ⟨hp,ge,d,tk,os⟩ ⟨atL,atB,r,hc,h⟩
  obtain ⟨z,no⟩:=g.end_
  obtain ⟨lt,is,_⟩:=f.next
  cases hc
  have says:false=decide (us.size < vs.size):=(decide_eq_false (by omega)).symm
  rw [says] at h
  wp_walk using wpAny_loadPart' atL,wpAny_loadPart' atB
  rw [show ((i:Nat):Int).toNat=i from rfl,no,is]
  wp_walk using wpAny_loadPart' atL,wpAny_loadPart' atB
  exact h
 | x :: xs,y :: ys,i,f,g=>by
  have go:=tJ l b us vs n k du dv su sv xs ys (i + 1) (f.next).2.2 (g.next).2.2
  rintro prog w A R ⟨hp,ge,d,tk,os⟩ ⟨atL,atB,r,hc,h⟩
  obtain ⟨_,isU,_⟩:=f.next
  obtain ⟨_,isV,_⟩:=g.next
  wp_walk using wpAny_loadPart' atL,wpAny_loadPart' atB
  rw [show ((i:Nat):Int).toNat=i from rfl,isU,isV]
  cases hc with
  | eq asked rest =>
   refine wpAny_bind (asked prog w _ _ ?_)
   wp_walk
   exact qQ go ⟨atL,atB,r,rest,h⟩
  | ne asked less =>
   refine wpAny_bind (asked prog w _ _ ?_)
   have less:=less prog w
   wp_walk using wpAny_loadPart' atL,wpAny_loadPart' atB
   rw [isU,isV]
   wp_walk using less
   exact h
theorem wG (l b:Addr)(us vs:iA)(n k:Nat)(du dv:Option Addr)(su sv:Array (Option Value)) :
  Meets (Builtin.«list.__lt__» ⟨[.ref l,.ref b],[]⟩) (sP l b { cls:=.type "list",dict:=du,data:=.seq us n,slots:=su } { cls:=.type "list",dict:=dv,data:=.seq vs k,slots:=sv } us.toList vs.toList):=by
 have go:=tJ l b us vs n k du dv su sv us.toList vs.toList 0 ⟨Nat.zero_le _,rfl⟩ ⟨Nat.zero_le _,rfl⟩
 rintro prog w A R ⟨hp,ge,d,tk,os⟩ ⟨atL,atB,h⟩
 have kind:=AutoSeq1.sub_list_list
 wp_walk using wpAny_loadPart' atL,wpAny_loadPart' atB
 exact qQ go ⟨atL,atB,h⟩
theorem sQ (l b:Addr)(us vs:iA)(n k:Nat)(du dv:Option Addr)(su sv:Array (Option Value)) :
  Meets (Builtin.«tuple.__lt__» ⟨[.ref l,.ref b],[]⟩) (sP l b { cls:=.type "tuple",dict:=du,data:=.seq us n,slots:=su } { cls:=.type "tuple",dict:=dv,data:=.seq vs k,slots:=sv } us.toList vs.toList):=by
 refine .of_wp fun prog w A R s1 h=>?_
 obtain ⟨hp,g,d,tk,os⟩:=s1
 obtain ⟨hl,hb,r,hc,h⟩:=h
 have f2:=AutoSeq1.sub_tuple_tuple
 wp_walk using wpAny_loadPart' hl,wpAny_loadPart' hb,wpAny_forIn_list _ (fun rest b s'=>b.1=none/\s'=⟨hp,g,d,tk,os⟩/\∃ (xs ys:bP),rest=xs.zip ys/\sZ A.in1 ⟨hp,g,d,tk,os⟩ xs ys r/\xs.length + vs.size=ys.length + us.size) _
 case turn =>
  rintro ⟨y,x⟩ rest b s' ⟨hb',rfl,xs,ys,hz,hc',hlen⟩
  cases hc' with
  | nn=>cases hz
  | nc=>cases hz
  | cn=>cases hz
  | eq asked more =>
   rw [List.zip_cons_cons] at hz
   injection hz with hyx hrest
   injection hyx with hy hx
   subst hy hx
   simp only [List.length_cons] at hlen
   refine wpAny_bind (asked prog w _ _ ?_)
   wp_walk
   exact ⟨rfl,rfl,_,_,hrest,more,by omega⟩
  | ne asked less =>
   rw [List.zip_cons_cons] at hz
   injection hz with hyx hrest
   injection hyx with hy hx
   subst hy hx
   refine wpAny_bind (asked prog w _ _ ?_)
   have less:=less prog w
   wp_walk using less
   refine ⟨_,rfl,?_⟩
   simpa using h
 case fin =>
  rintro ⟨b1,b2⟩ s' ⟨hb',rfl,xs,ys,hz,hc',hlen⟩
  simp only at hb'
  subst hb'
  have hv:r=decide (us.size < vs.size):=by
   cases hc' with
   | nn =>
    simp only [List.length_nil] at hlen
    exact (decide_eq_false (by omega)).symm
   | nc =>
    simp only [List.length_nil,List.length_cons] at hlen
    exact (decide_eq_true (by omega)).symm
   | cn =>
    simp only [List.length_nil,List.length_cons] at hlen
    exact (decide_eq_false (by omega)).symm
   | eq _ _=>rw [List.zip_cons_cons] at hz;cases hz
   | ne _ _=>rw [List.zip_cons_cons] at hz;cases hz
  rw [hv] at h
  wp_walk
  exact ⟨_,rfl,by simpa [Builtin.Tuple.tupleCompareSizes] using h⟩
 case h =>
  exact ⟨rfl,rfl,us.toList,vs.toList,rfl,hc,by simp [Nat.add_comm]⟩
end L2
namespace Lw
open PySem PySem.Spec PyProof.Rows PySem.SeqAt L2
theorem HX (m m':M):eqD (mD m) (mD m')=decide (m=m'):=by
 obtain ⟨a,x,c⟩:=m
 obtain ⟨a',x',c'⟩:=m'
 rw [Bool.eq_iff_iff]
 simp [mD,eqD,eqDs]
 exact ⟨fun ⟨h1,h2,h3⟩=>⟨by omega,h2,by omega⟩,fun ⟨h1,h2,h3⟩=>⟨by omega,h2,by omega⟩⟩
theorem DB (A:Around)(s:Shared)(x y:Str)(t u:Tok):LN A s (.str x t) (.str y u) (sL x y):=fun prog w E Q h=>(lt_str h:wpAny (model prog w) A (compareOp .Lt (.str x t) (.str y u)) Q E s)
theorem uG (A:Around)(s:Shared)(x y:Int)(t u:Tok):LN A s (.int x t) (.int y u) (decide (x < y)):=fun prog w E Q h=>HT.rcLt_int A s x t y u prog w E Q h
section
variable {P:Program}{w:World}{H:Hp}{s:Shared}
theorem vals3 {a b c:V}{us:bP}(h:aU [a,b,c] us):∃ u v x,us=[u,v,x]/\aX a u/\aX b v/\aX c x:=by
 cases h with
 | cons r1 h =>
  obtain ⟨v,x,rfl,r2,r3⟩:=aU.two h
  exact ⟨_,v,x,rfl,r1,r2,r3⟩
theorem yE (ok:gX P w H s.heap){m:M}{v:V}{u:Value}(h:bB H (mD m) v)(r:aX v u):∃ p t1 t2 t3,u = .ref p/\s.heap.IsTuple p #[.int m.1 t1,.str m.2.1 t2,.int m.2.2 t3]:=by
 obtain ⟨p,vs,rfl,hp,x1,r1,rfl,e1,x2,r2,rfl,e2,x3,r3,rfl,e3,e4⟩:=h
 cases e1;cases e2;cases e3
 cases (show r3=[] from e4)
 cases r
 obtain ⟨its,rv,ht⟩:=iX ok hp
 obtain ⟨u1,u2,u3,rfl,⟨t1,rfl⟩,⟨t2,rfl⟩,⟨t3,rfl⟩⟩:=vals3 rv
 exact ⟨p,t1,t2,t3,rfl,ht⟩
theorem KR (ok:gX P w H s.heap)(A:Around)(hu:A.units + 8 < cLine){m m':M}{v v':V}{u u':Value}(h:bB H (mD m) v)(h':bB H (mD m') v')(r:aX v u)(r':aX v' u')(ne:m≠m'):LN A s u u' (ltM m m'):=by
 obtain ⟨p,t1,t2,t3,rfl,⟨⟨c,dd,dt,sl⟩,ho,hc,n,hd⟩⟩:=yE ok h r
 obtain ⟨p',t1',t2',t3',rfl,⟨⟨c',dd',dt',sl'⟩,ho',hc',n',hd'⟩⟩:=yE ok h' r'
 simp only at hc hd hc' hd'
 subst hc hd hc' hd'
 obtain ⟨a,x,b⟩:=m
 obtain ⟨a',x',b'⟩:=m'
 have q:sZ A.in1 s [.int a t1,.str x t2,.int b t3] [.int a' t1',.str x' t2',.int b' t3'] (ltM (a,x,b) (a',x',b')):=by
  have hi:A.in1.units + 0 < cLine:=by rw [eD];omega
  have e1:=eqAtD ok (.int a) (.int a') A.in1 (.int a) (.int a') (.int a t1) (.int a' t1') rfl rfl ⟨_,rfl⟩ ⟨_,rfl⟩ hi
  have e2:=eqAtD ok (.str x) (.str x') A.in1 (.str x) (.str x') (.str x t2) (.str x' t2') rfl rfl ⟨_,rfl⟩ ⟨_,rfl⟩ hi
  have e3:=eqAtD ok (.int b) (.int b') A.in1 (.int b) (.int b') (.int b t3) (.int b' t3') rfl rfl ⟨_,rfl⟩ ⟨_,rfl⟩ hi
  unfold ltM
  dsimp only
  by_cases h1:a=a'
  ·subst h1
   rw [if_pos rfl]
   refine .eq (by rw [iM] at e1;exact e1) ?_
   by_cases h2:x=x'
   ·subst h2
    rw [if_pos rfl]
    refine .eq (by rw [iM] at e2;exact e2) ?_
    have h3:b≠b':=fun z=>ne (by rw [z])
    have e:eqD (.int (b:Int)) (.int (b':Int))=false:=by
     show ((b:Int) == (b':Int))=false
     simp;omega
    rw [e] at e3
    have:decide (b < b')=decide ((b:Int) < (b':Int)):=by rw [Bool.eq_iff_iff];simp
    rw [this]
    exact .ne e3 (uG _ _ _ _ _ _)
   ·rw [if_neg h2]
    have e:eqD (.str x) (.str x')=false:=by
     show (x == x')=false
     simpa using h2
    rw [e] at e2
    exact .ne e2 (DB _ _ _ _ _ _)
  ·rw [if_neg h1]
   have e:eqD (.int (a:Int)) (.int (a':Int))=false:=by
    show ((a:Int) == (a':Int))=false
    simp;omega
   rw [e] at e1
   have:decide (a < a')=decide ((a:Int) < (a':Int)):=by rw [Bool.eq_iff_iff];simp
   rw [this]
   exact .ne e1 (uG _ _ _ _ _ _)
 intro prog w' E Q hq
 exact richCompare_meets_room (op:=.Lt) ⟨_,ho,rfl⟩ ⟨_,ho',rfl⟩ PySem.F.slot_tuple_lt PySem.F.entry_tuple_lt (PySem.F.args_tuple_lt_2 _ _) (sQ p p' _ _ n n' dd dd' sl sl')
  ⟨ho,ho',_,q,show Value.bool _≠Value.notImplemented/\Q _ s from ⟨(fun x=>nomatch x),hq⟩⟩ (by omega)
theorem uD (ok:gX P w H s.heap)(A:Around)(hu:A.units + 8 < cLine):∀ (ks ks':List M) (vs vs':List V) (us us':bP),Reps H (ks.map mD) vs->Reps H (ks'.map mD) vs'->aU vs us->aU vs' us'->sZ A s us us' (lexK ks ks')
 | [],[],vs,vs',us,us',h,h',r,r'=>by
  cases (show vs=[] from h);cases (show vs'=[] from h')
  cases r.zero;cases r'.zero
  exact .nn
 | [],m' :: ks',vs,vs',us,us',h,⟨x',q',e',_,_⟩,r,r'=>by
  cases (show vs=[] from h);subst e'
  cases r.zero
  cases r'
  exact .nc
 | m :: ks,[],vs,vs',us,us',⟨x,q,e,_,_⟩,h',r,r'=>by
  cases (show vs'=[] from h');subst e
  cases r'.zero
  cases r
  exact .cn
 | m :: ks,m' :: ks',vs,vs',us,us',⟨x,q,e,h1,h2⟩,⟨x',q',e',h1',h2'⟩,r,r'=>by
  subst e e'
  cases r with
  | cons r1 r2 =>
   cases r' with
   | cons r1' r2' =>
    have e:=eqAtD ok (mD m) (mD m') A _ _ _ _ h1 h1' r1 r1' (by
     have:depD (mD m)=1:=rfl
     omega)
    rw [HX] at e
    rw [lexK]
    by_cases ne:m=m'
    ·rw [if_pos ne]
     rw [decide_eq_true ne] at e
     exact .eq e (uD ok A hu ks ks' _ _ _ _ h2 h2' r2 r2')
    ·rw [if_neg ne]
     rw [decide_eq_false ne] at e
     exact .ne e (KR ok A hu h1 h1' r1 r1' ne)
theorem rL (ok:gX P w H s.heap){ks:List M}{v:V}{u:Value}(h:bB H (.lst (ks.map mD)) v)(r:aX v u):∃ l vs us,u = .ref l/\Reps H (ks.map mD) vs/\aU vs us/\s.heap.IsList l us.toArray:=by
 obtain ⟨l,vs,rfl,hl,hv⟩:=h
 cases r
 obtain ⟨us,rv,hl'⟩:=gT ok hl
 exact ⟨l,vs,us,rfl,hv,rv,hl'⟩
theorem yO (ok:gX P w H s.heap)(A:Around)(hu:A.units + 16 < cLine){ks ks':List M}{v v':V}{u u':Value}(h:bB H (.lst (ks.map mD)) v)(h':bB H (.lst (ks'.map mD)) v')(r:aX v u)(r':aX v' u') :
  s.TypeIs u "list"/\s.TypeIs u' "list"/\∀ (prog:Program) (w:World) (E:bX) (Q:bX),Q (.bool (lexK ks ks')) s->wpAny (model prog w) A (call (.builtin "list.__lt__") [u,u']) Q E s:=by
 obtain ⟨l,vs,us,rfl,hv,rv,hl⟩:=rL ok h r
 obtain ⟨l',vs',us',rfl,hv',rv',hl'⟩:=rL ok h' r'
 obtain ⟨⟨c,dd,dt,sl⟩,ho,hc,n,hd⟩:=id hl
 obtain ⟨⟨c',dd',dt',sl'⟩,ho',hc',n',hd'⟩:=id hl'
 simp only at hc hd hc' hd'
 subst hc hd hc' hd'
 refine ⟨⟨_,ho,rfl⟩,⟨_,ho',rfl⟩,fun prog w E Q hq=>?_⟩
 exact call_meets PySem.F.slot_list_lt ⟨_,ho,rfl⟩ PySem.F.entry_list_lt (PySem.F.args_list_lt_2 _ _) (wG l l' _ _ n n' dd dd' sl sl') ⟨ho,ho',_,uD ok A.in1 (by rw [eD];omega) ks ks' vs vs' us us' hv hv' rv rv',hq⟩
end
end Lw
namespace L2
open PySem PySem.Spec PyProof.Rows
theorem aO.adopt {X:Cx}{pins:dE}{σ:St}{H:Hp}{s:Shared}{a:Addr}{o:HO}(I:aO X pins σ H s)(f:fI X pins H a)(new:cE X.prog X.w (upd H a o) s.heap a o):aO X pins σ (upd H a o) s:=by
 obtain ⟨f0,f1,f2,f3,f4,f5⟩:=f
 have keep:∀ b u,H b=some u->upd H a o b=some u:=fun b u e=>by rw [aC (aD e f0)];exact e
 refine { ok:=I.ok,os:=I.os,bare:=I.bare,base:=?_,loc:=I.loc,cell:=I.cell,free:=?_,freeC:=?_,pin:=?_,hok:=?_,len:=I.len }
 ·have u:=I.base
  exact {
   keep:=u.keep,slot:=u.slot,there:=u.there,tups:=fun b xs e=>keep _ _ (u.tups b xs e),frzs:=fun b q r e=>keep _ _ (u.frzs b q r e),
   tbls:=fun b ps e=>by obtain ⟨more,h⟩:=u.tbls b ps e;exact ⟨more,keep _ _ h⟩,
   free:=fun b q e n hx=>by
    have ne:b≠a:=fun z=>by
     rcases f3 with h | h
     ·exact hx (z ▸ h)
     ·exact Nat.lt_irrefl _ (Nat.lt_of_lt_of_le (Heap.lt_size e) (z ▸ h))
    rw [aC ne]
    exact u.free b q e n hx }
 ·rw [aC (Ne.symm f1)]
  exact I.free
 ·intro x c e
  rw [aC (f4 x c e)]
  exact I.freeC x c e
 ·intro p hp
  obtain ⟨h1,h2,h3⟩:=I.pin p hp
  exact ⟨h1,by rw [aC (f5 p hp)];exact h2,h3⟩
 ·intro b u e
  by_cases hb:b=a
  ·subst hb
   rw [upd_same] at e
   cases e
   exact new
  ·rw [aC hb] at e
   exact (I.hok b u e).stay (fun _ _ _ q=>q) (fun c q=>keep _ _ q) (fun c xs q=>keep _ _ q)
theorem fI.at {X:Cx}{pins:dE}{H H':Hp}{b:Addr}(f:fI X pins H b)(h:H' b=none):fI X pins H' b:=⟨h,f.2⟩
end L2
namespace Lw
open PySem PySem.Spec PyProof.Rows PySem.SeqAt PySem.W L2
noncomputable def kyD (d:D):D:=.lst ((key d).map mD)
theorem LE {P:Program}{w:World}{H:Hp}{s:Shared}(ok:gX P w H s.heap)(A:Around)(hu:A.units + 32 < cLine){d e:D}{v v':V}{u u':Value}(h:bB H (kyD d) v)(h':bB H (kyD e) v')(r:aX v u)(r':aX v' u'){prog:Program}{w':World}{E:bX}{Q:Bool->Shared->Prop}
  (q:Q (lexK (key d) (key e)) s):wpAny (model prog w') A (keyLt' oneType' u u') Q E s:=by
 obtain ⟨t1,t2,t3⟩:=yO ok A (by omega) h h' r r'
 rw [keyLt'_oneType,oneLt'_eq,if_pos rfl]
 refine wpAny_bind (wpAny_cRoomFor (by omega) (wpAny_bind (wpAny_callSpecialIfBound?_slot t1 F.slot_list_lt (t3 prog w' _ _ ?_))))
 exact wpAny_truthy_bool q
theorem AV {M:Model}{h:Heap}{l:Addr}{us:iA}(hl:h.IsList l us):Looks M h (typeOf (.ref l)) (.type "list"):=fun A Q E s k q=>by
 obtain ⟨o,ho,hc,_⟩:=hl
 exact wpAny_typeOf ⟨o,k _ _ ho,hc⟩ q
noncomputable def ltI (ds:List D)(i j:Nat):Bool:=lexK (key (ds.getD i .non)) (key (ds.getD j .non))
theorem GK (n:Nat)(ds:List D):OO n (ltI ds):=⟨fun i=>nS _,fun i j h=>pB h,fun i j k h1 h2=>rG h2 h1⟩
theorem wN {ks is:bP}{i:Nat}(h:ks.length=is.length)(hi:i < is.length):kas_item (ks.toArray.zip is.toArray) i=(ks.getD i .none,is.getD i .none):=by
 unfold kas_item
 have h1:i < (ks.toArray.zip is.toArray).size:=by simp;omega
 rw [Array.getD_eq_getD_getElem?,Array.getElem?_eq_getElem h1]
 have h2:i < ks.length:=by omega
 simp [hi,h2]
theorem nW {H:Hp}{ds:List D}{vs:List V}(h:Reps H ds vs){i:Nat}(hi:i < ds.length):bB H (ds.getD i .non) (vs.getD i .non):=by
 obtain ⟨v,hv,r⟩:=Reps.get' h (List.getElem?_eq_getElem hi)
 have e1:ds.getD i .non=ds[i]:=by simp [hi]
 have e2:vs.getD i .non=v:=by rw [List.getD_eq_getElem?_getD,hv];rfl
 rw [e1,e2]
 exact r
theorem nV {vs:List V}{us:bP}(h:aU vs us){i:Nat}(hi:i < vs.length):aX (vs.getD i .non) (us.getD i .none):=by
 obtain ⟨u,hu,r⟩:=h.get (List.getElem?_eq_getElem hi)
 have e1:vs.getD i .non=vs[i]:=by simp [hi]
 have e2:us.getD i .none=u:=by rw [List.getD_eq_getElem?_getD,hu];rfl
 rw [e1,e2]
 exact r
theorem xS {H:Hp}{ds:List D}{vs:List V}(h:Reps H ds vs):∀ (l:List Nat),(∀ i ∈ l,i < ds.length)->Reps H (l.map fun i=>ds.getD i .non) (l.map fun i=>vs.getD i .non)
 | [],_=>rfl
 | i :: l,hl=>⟨_,_,rfl,nW h (hl i List.mem_cons_self),xS h l fun j hj=>hl j (List.mem_cons_of_mem _ hj)⟩
theorem xF {vs:List V}{us:bP}(h:aU vs us):∀ (l:List Nat),(∀ i ∈ l,i < vs.length)->aU (l.map fun i=>vs.getD i .non) (l.map fun i=>us.getD i .none)
 | [],_=>.nil
 | i :: l,hl=>.cons (nV h (hl i List.mem_cons_self)) (xF h l fun j hj=>hl j (List.mem_cons_of_mem _ hj))
theorem G3 (ds:List D):(List.range ds.length).map (fun i=>ds.getD i .non)=ds:=by
 apply List.ext_getElem
 ·simp
 ·intro i h1 h2
  simp [h2]
section
variable {X:Cx}{pins:dE}{σ:L2.St}{H Hj:Hp}{s:Shared}{a kS:Addr}{e1 e:Nat}{kvs xs:List V}{kus its:bP}{ds:List D}{A:Around}{E:bX}
theorem FP (hu:A.units + 64 < cLine)(I:aO X pins σ Hj s)(sH:aG H Hj)(fa:fI X pins Hj a)(fk:fI X pins Hj kS)(ne:kS≠a)(ha:s.heap.get? a=some (seqObj "list" #[] e1))(hk:s.heap.get? kS=some (seqObj "list" kus.toArray e))
  (rk:aU kvs kus) (rr:Reps Hj (ds.map kyD) kvs) (rx:aU xs its) (rd:Reps H ds xs) (h2:2<=ds.length) (h64:ds.length < 64) {Pf:PySem.Fin->Shared->Prop}
  (h:∀ s' ys es,aO X pins σ (upd Hj a (.lst ys)) s'->es.Perm ds->es.Pairwise leK->Reps H es ys->Pf (.done (.ret .none)) s') :
  wpAny (model X.prog X.w) A (ksk_end a false its.toArray e1 (.ref kS) kus.toArray) Pf E s:=by
 have l1:=Reps.len rr
 rw [List.length_map] at l1
 have l2:=rk.length
 have l3:=Reps.len rd
 have l4:=rx.length
 have lk:kus.length=its.length:=by omega
 have n2:¬ its.toArray.size < 2:=by rw [List.size_toArray];omega
 unfold ksk_end
 dsimp only
 rw [if_neg n2,if_neg n2,if_neg Bool.false_ne_true]
 have look:∀ v ∈ kus,Looks (model X.prog X.w) s.heap (typeOf v) (.type "list"):=fun v hv=>by
  obtain ⟨i,hi⟩:=List.getElem?_of_mem hv
  have hi':=(List.getElem?_eq_some_iff.mp hi).1
  have r1:=nW rr (i:=i) (by rw [List.length_map];omega)
  have r2:=nV rk (i:=i) (by omega)
  have ek:kus.getD i .none=v:=by rw [List.getD_eq_getElem?_getD,hi];rfl
  rw [ek] at r2
  have ed:(ds.map kyD).getD i .non=kyD (ds.getD i .non):=by
   have:i < ds.length:=by omega
   simp [this]
  rw [ed] at r1
  obtain ⟨l,_,us,rfl,_,_,hl⟩:=rL I.hok r1 r2
  exact AV hl
 refine wpAny_bind (kas_kind (vs:=kus) (by omega) look (by decide) (by decide) ?_)
 have est:SortSt.mk' oneType' (kus.toArray.zip its.toArray) #[] 7 none=kas_st oneType' (kus.toArray.zip its.toArray) (List.toArray (List.range ds.length)):=by
  have e:=kas_range (kus.toArray.zip its.toArray)
  have z:(kus.toArray.zip its.toArray).size=ds.length:=by simp;omega
  rw [z] at e
  unfold kas_st
  rw [e]
 have run:=kas_runs (prog:=X.prog) (w:=X.w) (A:=A) (E:=E) (κ:=oneType') (it:=kus.toArray.zip its.toArray) (n:=ds.length) (s:=s)
  (Q:=fun _ st' s'=>s'=s/\∃ p:Array Nat,Gd ds.length p/\Up (ltI ds) p ds.length/\arrOf st'=p.map (kas_item (kus.toArray.zip its.toArray))/\failedOf st'=none)
  (G:=fun p s'=>s'=s/\Gd ds.length p/\Up (ltI ds) p ds.length) h2 h64 (fun p' st' s' _ a2 a3 a4=>⟨a4.1,p',a4.2.1,a4.2.2,a2,a3⟩) ?ask
 case ask =>
  refine CZ (n:=ds.length) (lt:=ltI ds) (fun s'=>s'=s) ?_ (fun p s' e1 e2=>⟨e1,e2⟩) (E1 (GK ds.length ds) (by omega)) s rfl
  intro i j C s' hi hj es hC
  subst es
  unfold kas_cmp
  rw [wN lk (by omega),wN lk (by omega)]
  have g1:=nW rr (i:=i) (by rw [List.length_map];omega)
  have g2:=nW rr (i:=j) (by rw [List.length_map];omega)
  have ed:∀ i,i < ds.length->(ds.map kyD).getD i .non=kyD (ds.getD i .non):=fun i hi=>by simp [hi]
  rw [ed i hi] at g1
  rw [ed j hj] at g2
  exact LE I.hok A (by omega) g1 g2 (nV rk (by omega)) (nV rk (by omega)) (hC _ rfl)
 rw [← est] at run
 refine wpAny_bind (wpAny_mono run ?_ fun _ _ z=>z)
 rintro ⟨⟨⟩,st'⟩ s' ⟨rfl,p,gp,up,har,hf⟩
 have ho:(arrOf st').map (·.2)=(p.toList.map fun i=>its.getD i .none).toArray:=by
  rw [har]
  apply Array.toList_inj.mp
  rw [Array.map_map,Array.toList_map]
  refine List.map_congr_left fun i hi=>?_
  have:i < ds.length:=by
   have:=(Array.perm_iff_toList_perm.mp gp).mem_iff.mp hi
   simpa using this
  show (kas_item (kus.toArray.zip its.toArray) i).2=_
  rw [wN lk (by omega)]
 have inn:∀ i ∈ p.toList,i < ds.length:=fun i hi=>by
  have:=(Array.perm_iff_toList_perm.mp gp).mem_iff.mp hi
  simpa using this
 have pl:p.toList.length=ds.length:=by rw [Array.length_toList,gp.size]
 unfold ksk_tail
 dsimp only
 rw [ho]
 refine wpAny_bind (listUpdate_at hk rfl ?_ (Nat.le_trans (m:=64) (by rw [List.size_toArray];omega) (by decide)) (Nat.zero_le _))
 refine wpAny_bind (wpAny_letGo ?_)
 have sb1:=Heap.SameBut.update s'.heap kS (Obj.mapSeq fun _=>(#[]:iA))
 have ha1:=(sb1.2 a ne.symm).trans ha
 have I1:=I.turned (t':=s'.toks) (fun b o hb z=>(sb1.2 b hb).trans z) fk.1 fk.2.1 fk.2.2.2.1 fk.2.2.2.2.1 fk.2.2.2.2.2
 refine wpAny_bind (seqEpoch_at ha1 rfl ?_)
 refine wpAny_bind (listUpdate_at ha1 rfl ?_ (Nat.zero_le _) (Nat.le_trans (m:=64) (by simp only [Bool.false_eq_true,if_false];rw [List.size_toArray,List.length_map];omega) (by decide)))
 rw [hf]
 simp only [bne_self_eq_false,if_false,Bool.false_eq_true]
 have sb2:=Heap.SameBut.update (s'.heap.update kS (Obj.mapSeq fun _=>(#[]:iA))) a (Obj.mapSeq fun _=>(p.toList.map fun i=>its.getD i .none).toArray)
 have I2:=I1.turned (t':=s'.toks) (fun b o hb z=>(sb2.2 b hb).trans z) fa.1 fa.2.1 fa.2.2.2.1 fa.2.2.2.2.1 fa.2.2.2.2.2
 have ga:=get?_update_seq ha1 fun _=>(p.toList.map fun i=>its.getD i .none).toArray
 have I3:=I2.adopt (o:=.lst (p.toList.map fun i=>xs.getD i .non)) fa ⟨Nat.le_trans (m:=64) (by rw [List.length_map];omega) (by decide),_,_,xF rx p.toList (fun i hi=>by have:=inn i hi;omega),ga⟩
 refine wpAny_pure (h _ _ (p.toList.map fun i=>ds.getD i .non) I3 ?_ ?_ (xS rd p.toList inn))
 ·have:=(Array.perm_iff_toList_perm.mp gp).map (fun i=>ds.getD i .non)
  rw [List.toList_toArray,G3] at this
  exact this
 ·rw [List.pairwise_map,List.pairwise_iff_getElem]
  intro i j hi hj hij
  have u:=up i j (by omega) (by omega)
  have ei:pa p i=p.toList[i]:=by
   have:i < p.size:=by rw [gp.size];omega
   simp [pa,Array.getD,this]
  have ej:pa p j=p.toList[j]:=by
   have:j < p.size:=by rw [gp.size];omega
   simp [pa,Array.getD,this]
  rw [ei,ej] at u
  exact u
theorem G9 {k:Nat}{f:Addr}{fd:FuncData}{ps:aQ}(F:bR X.prog X.w X.K X.mg X.base bC k f fd ps spKey)(hb:eX X.K fd ps [])(hr:eI k A)(he:A.frames=some X.stack)(I:aO X pins σ Hj s)(fa:fI X pins Hj a)(fk:fI X pins Hj kS){oa ok:Obj}(ha:s.heap.get? a=some oa)(hk:s.heap.get? kS=some ok){d:D}{v:V}{u:Value}(rp:bB Hj d v)(fl:Fl d)(nd:nds d<=1000)(r:aX v u)
  {Q:bX} {E:bX} (h:∀ kv ku H' s',aO X pins σ H' s'->aG Hj H'->H' a=none->H' kS=none->s'.heap.get? a=some oa->s'.heap.get? kS=some ok->bB H' (kyD d) kv->aX kv ku->Q ku s') :
  wpAny (model X.prog X.w) A (call (.ref f) [u]) Q E s:=by
 have e0:=I.env0
 have sp:spKey [v] Hj (fun kv H'=>aG Hj H'/\bB H' (kyD d) kv) E0:=⟨d,v,rfl,rp,fl,nd,fun l H' s' hl rep=>⟨s',bB.same (fun b o z=>(g7.mp z).2) rep⟩⟩
 have hl:[u].length=ps.length:=F.len _ _ _ _ sp
 have nf:∀ b,fI X pins Hj b->b ∉ frs X.stack:=fun b fb z=>(List.mem_cons.mp (I.stkSub b z)).elim fb.2.1 fb.2.2.1
 refine wpAny_call (codeAny_mono (F.run A X.stack s Hj ⟨[u],[]⟩ [u] [v] _ E0 hr ⟨he,e0.mod,e0.bs,e0.bsz,e0.funs,e0.frf,e0.hok,e0.bare⟩ (by have:=hb s [u] I.kIn (by simpa using hl);simpa using this) (.cons r .nil) sp) fun res s' hq=>?_)
 cases res with
 | error x=>exact hq.elim
 | ok fl' =>
  cases fl' with
  | ret ku =>
   obtain ⟨kv,H',os,bare,un,hok,rk,sm,rep⟩:=hq
   have I':=I.call' (ch:=[]) os un hok bare (fun b z=>absurd z (by simp))
   exact h kv ku H' s' I' sm (un.free a oa ha fa.1 (by simp)) (un.free kS ok hk fk.1 (by simp)) (un.keep a oa ha fa.1 (nf a fa) (by simp)) (un.keep kS ok hk fk.1 (nf kS fk) (by simp)) rep rk
  | next=>exact hq.elim
  | brk=>exact hq.elim
  | cont=>exact hq.elim
theorem DE {k:Nat}{f:Addr}{fd:FuncData}{ps:aQ}(F:bR X.prog X.w X.K X.mg X.base bC k f fd ps spKey)(hb:eX X.K fd ps [])(hr:eI k A)(he:A.frames=some X.stack)(I:aO X pins σ H s)(fa:fI X pins H a)(fk:fI X pins H kS)(ne:kS≠a)
  (ha:s.heap.get? a=some (seqObj "list" #[] e1)) (hk:s.heap.get? kS=some (seqObj "list" #[] 0)) (rx:aU xs its) (rd:Reps H ds xs) (fl:∀ d ∈ ds,Fl d/\nds d<=1000) (h2:2<=ds.length) (h64:ds.length < 64) {Pf:PySem.Fin->Shared->Prop}
  (h:∀ s' H' ys es,aO X pins σ (upd H' a (.lst ys)) s'->aG H H'->H' a=none->es.Perm ds->es.Pairwise leK->Reps H es ys->Pf (.done (.ret .none)) s') :
  wpAny (model X.prog X.w) A (ksk_rest a (.ref f) false its.toArray e1 (.ref kS)) Pf E s:=by
 have hu:=hr.units
 have l3:=Reps.len rd
 have l4:=rx.length
 unfold ksk_rest
 refine wpAny_bind (wpAny_rule ?_)
 rw [List.forIn_toArray]
 refine wpAny_bind (ksk_fold (fun j s'=>∃ (Hj:Hp) (kvs:List V) (kus:bP) (e:Nat),aO X pins σ Hj s'/\aG H Hj/\Hj a=none/\Hj kS=none/\s'.heap.get? a=some (seqObj "list" #[] e1)/\s'.heap.get? kS=some (seqObj "list" kus.toArray e)/\aU kvs kus/\Reps Hj ((ds.take j).map kyD) kvs) its 0 s
  ⟨H,[],[],0,I,aG.refl _,fa.1,fk.1,ha,hk,.nil,rfl⟩ ?step ?done)
 case step =>
  rintro j x s' hx ⟨Hj,kvs,kus,e,I',sm,na,nk,ha',hk',rk,rr⟩
  rw [Nat.zero_add] at rr ⊢
  have hj:j < its.length:=(List.getElem?_eq_some_iff.mp hx).1
  have hd:ds[j]?=some ds[j]:=List.getElem?_eq_getElem (by omega)
  obtain ⟨v,hv,rv⟩:=Reps.get' rd hd
  obtain ⟨u,hu',ru⟩:=rx.get hv
  rw [hx] at hu'
  cases hu'
  have lr:=Reps.len rr
  rw [List.length_map,List.length_take] at lr
  have lk:=rk.length
  have hf:=fl ds[j] (List.mem_of_getElem? hd)
  refine wpAny_bind (wpAny_attempt (G9 F hb hr he I' (fa.at na) (fk.at nk) ha' hk' (bB.same sm rv) hf.1 hf.2 ru fun kv ku H' s2 I2 sm2 na2 nk2 ha2 hk2 rep rku=>?_))
  have sb:=Heap.SameBut.update s2.heap kS (Obj.mapSeq (·.push ku))
  have gk:=get?_update_seq hk2 (·.push ku)
  refine wpAny_bind (listUpdate_at hk2 rfl ?_ (Nat.le_trans (m:=64) (by rw [List.size_toArray];omega) (by decide)) (Nat.le_trans (m:=65) (by rw [Array.size_push,List.size_toArray];omega) (by decide)))
  have fk2:=fk.at nk2
  refine wpAny_pure ⟨rfl,H',kvs ++ [kv],kus ++ [ku],_,I2.turned (t':=s2.toks) (fun b o hb z=>(sb.2 b hb).trans z) fk2.1 fk2.2.1 fk2.2.2.2.1 fk2.2.2.2.2.1 fk2.2.2.2.2.2,sm.trans sm2,na2,nk2,(sb.2 a ne.symm).trans ha2,by rw [gk,List.push_toArray],rk.append (.cons rku .nil),?_⟩
  rw [aV hd,List.map_append]
  exact Reps.snoc rep (Reps.same sm2 rr)
 case done =>
  rintro s' ⟨Hj,kvs,kus,e,I',sm,na,nk,ha',hk',rk,rr⟩
  rw [Nat.zero_add,← l4,l3,List.take_length] at rr
  exact wpAny_bind (listItems_at hk' rfl (FP (by omega) I' sm (fa.at na) (fk.at nk) ne ha' hk' rk rr rx rd h2 h64 fun s2 ys es I2 a1 a2 a3=>h s2 Hj ys es I2 sm na a1 a2 a3))
theorem BB {k:Nat}{f l:Addr}{fd:FuncData}{ps:aQ}(F:bR X.prog X.w X.K X.mg X.base bC k f fd ps spKey)(hb:eX X.K fd ps [])(hr:eI (k + 2) X.A)(I:aO X pins σ H s)(hl:H l=some (.lst xs))(rd:Reps H ds xs)(fl:∀ d ∈ ds,Fl d/\nds d<=1000)(h2:2<=ds.length)(h64:ds.length < 64){Q:VK}
  (h:∀ l' ys es H',aG H H'->H l'=none->H' l'=some (.lst ys)->es.Perm ds->es.Pairwise leK->Reps H es ys->Q (.ref l') H') :
  wpAny (model X.prog X.w) X.A (call (.builtin "sorted") [.ref l] [(Str.ofString "key",.ref f)]) (EP X pins σ Q) E s:=by
 obtain ⟨its,rx,pl,hz⟩:=I.list (eA.of hl)
 have l3:=Reps.len rd
 have l4:=rx.length
 refine call_function_entry_kw kind_sorted plain_sorted entry_sorted (ksk_s1 _ _) ?_
 unfold Builtin.«sorted»
 refine wpAny_bind (m:=checkCount "sorted" 1 1 _) (wpAny_pure (wpAny_bind (collect_list pl.isList ?_ (by omega))))
 refine wpAny_bind (wpAny_newList ?_ (by omega))
 have k1:∀ b o,s.heap.get? b=some o->((s.heap.push (seqObj "list" #[] 0)).update s.heap.objs.size (Obj.mapSeq fun x=>x ++ its.toArray)).get? b=some o:=fun b o e=>by
  have lt:=Heap.lt_size e
  rw [Heap.get?_update_ne _ _ _ _ (Nat.ne_of_lt lt)]
  exact Heap.get?_push_of_some _ e
 have z1:s.heap.objs.size<=((s.heap.push (seqObj "list" #[] 0)).update s.heap.objs.size (Obj.mapSeq fun x=>x ++ its.toArray)).objs.size:=by
  rw [Heap.size_update,Heap.size_push]
  omega
 dsimp only
 generalize (s.heap.push (seqObj "list" #[] 0)).update s.heap.objs.size (Obj.mapSeq fun x=>x ++ its.toArray)=h1 at k1 z1 ⊢
 have I2:aO X pins σ H { s with heap:=h1.push (seqObj "list" its.toArray 0) }:=I.kept (t':=s.toks) fun b o e=>Heap.get?_push_of_some _ (k1 b o e)
 have nD:=I.hok.fresh z1
 have fD:=I.fpOk z1 nD
 have gD:(h1.push (seqObj "list" its.toArray 0)).get? h1.objs.size=some (seqObj "list" its.toArray 0):=Heap.get?_push_size _ rfl
 refine wpAny_bind (wpAny_holding (wpAny_call_entry_kw slot_list_sort ⟨_,gD,rfl⟩ entry_list_sort ?body (ksk_l1 _ _)))
 show wpAny (model X.prog X.w) X.A.in1.in1 (ksk_tree h1.objs.size (.ref f) false) _ _ _
 unfold ksk_tree
 refine wpAny_bind (listItems_at gD rfl ?_)
 refine wpAny_bind (listUpdate_at gD rfl ?_ (by rw [List.size_toArray];omega) (Nat.zero_le _))
 have sb:=Heap.SameBut.update (h1.push (seqObj "list" its.toArray 0)) h1.objs.size (Obj.mapSeq fun _=>(#[]:iA))
 have g3:=get?_update_seq gD fun _=>(#[]:iA)
 have I3:=I2.turned (t':=s.toks) (fun b o hb z=>(sb.2 b hb).trans z) fD.1 fD.2.1 fD.2.2.2.1 fD.2.2.2.2.1 fD.2.2.2.2.2
 refine wpAny_bind (seqEpoch_at g3 rfl ?_)
 refine wpAny_bind (wpAny_newTuple ?_ (by show its.length<=_;omega))
 refine wpAny_bind (wpAny_newList (wpAny_holding ?_) (Nat.zero_le _))
 have I4:=I3.kept (t':=s.toks) fun b o e=>Heap.get?_push_of_some { cls:=.type "tuple",data:=.seq its.toArray } e
 have I5:=I4.kept (t':=s.toks) fun b o e=>Heap.get?_push_of_some { cls:=.type "list",data:=.seq #[] } e
 have fk:=I4.fpOk (Nat.le_refl _) (I4.hok.fresh (Nat.le_refl _))
 have gk:=Heap.get?_push_of_some { cls:=.type "list",data:=.seq #[] } (Heap.get?_push_of_some { cls:=.type "tuple",data:=.seq its.toArray } g3)
 refine DE F hb hr.in1.in1 (I.ok.frames) I5 fD fk (fun z=>?_) gk (Heap.get?_push_size _ rfl) rx rd fl h2 h64 fun s' H' ys es I' sm na a1 a2 a3=>⟨_,rfl,wpAny_pure ⟨_,rfl,.ref h1.objs.size,_,I',rfl,h _ ys es _ (sm.trans (aG.upd na)) nD upd_same a1 a2 a3⟩⟩
 have lt:=Heap.lt_size (Heap.get?_push_of_some { cls:=.type "tuple",data:=.seq its.toArray } g3)
 exact Nat.ne_of_gt lt z
end
noncomputable def MF (ta:TA):TE:=fun σ H Q=>ta σ H fun vs H1=>∃ l xs ds,vs=[.ref l]/\H1 l=some (.lst xs)/\Reps H1 ds xs/\(∀ d ∈ ds,Fl d/\nds d<=1000)/\2<=ds.length/\ds.length < 64 /\
 ∀ l' ys es H',aG H1 H'->H1 l'=none->H' l'=some (.lst ys)->es.Perm ds->es.Pairwise leK->Reps H1 es ys->Q (.ref l') H'
theorem AB {X:Cx}{k:Nat}{e:Expr}{ta:TA}{p p3 kpos pos:Pos}(O:cH X.prog X.w X.K X.mg X.base bC k "order_key" spKey)(hr:eI (k + 2) X.A)(hg:Gl X "sorted")(hm:X.mg "sorted" = none)(hg2:Gl X "order_key")(ha:PA X [e] ta)
  (he:backTo pos (starEach [e] X.env)=(false,eval e X.env) :: backTo pos (starEach [] X.env):=by rfl) (hpl:(backTo pos (starEach [e] X.env)).any (·.1)=false:=by rfl):PE X (.Call (.Name "sorted" p) [e] [⟨some "key",.Name "order_key" p3,kpos⟩] pos) (MF ta):=by
 obtain ⟨f,fd,ps,F,hf,hk,hb⟩:=O
 intro pins s σ H Q I h
 refine wpAny_Call_Name_kw (kO I hg hm (u:=.builtin "sorted") rfl ?_)
 refine callWith_kw (thn (ha pos pins s σ H _ I h) fun us s1 ⟨vs,H1,I1,r1,q1⟩=>?_) he hpl
 have pk:PK X [⟨some "key",.Name "order_key" p3,kpos⟩] (tCons (tC (.ref f)) tNil):=JQ (eP ⟨_,hf,rfl⟩ hg2) MP
 refine thn (pk pos pins s1 σ H1 (fun vs H2=>vs=[.ref f]/\H2=H1) I1 ⟨rfl,rfl⟩) fun kus s2 ⟨kvs,H2,I2,r2,e1,e2⟩=>?_
 subst e1 e2
 obtain ⟨ku,rfl,rku⟩:=aU.one r2
 cases rku
 obtain ⟨l,xs,ds,rfl,hl,rd,fl,h2,h64,q⟩:=q1
 obtain ⟨u,rfl,ru⟩:=aU.one r1
 cases ru
 exact BB F hb hr I2 hl rd fl h2 h64 q
end Lw
namespace Lw
open PySem L2
section
variable {P:Program}{w:World}{K:PySem.W.Frag}{mg:gA}{base:Heap}
theorem MU (n z:Str)(d:D)(fd:Fl d):opn1 n z d=if eqD d (.str z)=true then [] else opP n d:=by
 rcases jB fd with ⟨x,rfl,_⟩ | ⟨m,es,rfl,_⟩
 ·rfl
 ·have e:eqD (.tup (.str m :: es)) (.str z)=false:=rfl
  rw [e,if_neg (by decide)]
  rfl
theorem pS:∀ (ds l:List D),(∀ d ∈ ds,Fl d)->(∀ d ∈ l,Fl d)->l.Pairwise leK->(ds.foldl (fun l d=>insA d l) l).Pairwise leK
 | [],l,_,_,h=>h
 | d :: ds,l,hd,hl,h=>by
  refine pS ds (insA d l) (fun e he=>hd e (List.mem_cons_of_mem _ he)) (fun e he=>?_) (pU (hd d List.mem_cons_self) hl h)
  rcases List.mem_cons.mp ((lP d l).mem_iff.mp he) with rfl | he
  ·exact hd _ List.mem_cons_self
  ·exact hl e he
theorem sW {ds:List D}(h:∀ d ∈ ds,Fl d):(cN ds).Pairwise leK:=pS ds [] h (fun _ h=>by cases h) .nil
theorem DD {ds es:List D}(h:∀ d ∈ ds,Fl d)(p:es.Perm ds)(s:es.Pairwise leK):es=cN ds :=
 qW (fun d hd=>h d (p.mem_iff.mp hd)) (p.trans (cD ds).symm) s (sW h)
theorem B3:∀ {ds:List D} {d:D},d ∈ ds->nds d<=ndss ds
 | e :: ds,d,h=>by
  rw [ndss]
  obtain rfl | h:=List.mem_cons.mp h
  ·omega
  ·have:=B3 h;omega
theorem GM (n z:Str)(d:D):ndss (opn1 n z d)<=nds d:=by
 unfold opn1
 split
 ·split
  ·rw [nds];omega
  ·rw [ndss,ndss];omega
 ·split
  ·rw [ndss];omega
  ·rw [ndss,ndss];omega
theorem vZ (n z:Str):∀ ds:List D,ndss (opn n z ds)<=ndss ds
 | []=>Nat.le_refl _
 | d :: ds=>by rw [nO,fX,ndss];have:=GM n z d;have:=vZ n z ds;omega
noncomputable def oS:Sp:=fun vs H Q _=>∃ (n z:Str) (a:Addr) (ds:List D) (ws:List V),vs=[.str n,.str z,.ref a]/\H a=some (.lst ws)/\Reps H ds ws/\Fls ds/\szs ds<=60/\ndss ds<=1000/\depDs ds<=50 /\
 ∀ (v':V) (H':Hp),aG H H'->bB H' (one n z (cN (opn n z ds))) v'->Q v' H'
noncomputable def P0 (a l:Addr)(n z:Str)(ds:List D)(H:Hp)(i:Nat)(σ:St)(H2:Hp):Prop:=∃ (us:List V) (o:Option V),σ=[some (.str n),some (.str z),some (.ref a),some (.ref l),o]/\H2 l=some (.lst us)/\aG H H2/\Reps H2 (opn n z (ds.take i)) us
theorem AL {f:Addr}{fd:FuncData}(F:gY K "flat_sum" "flat_sum" fE f fd)(T:iH mg)(O_opened:cH P w K mg base bC 1 "opened" oQ)(O_order_key:cH P w K mg base bC 2 "order_key" spKey):bR P w K mg base bC 5 f fd mU oS:=by
 refine F.ok kJ (fun vs H Q E h=>?_) (fun cdv A outer s H vs Q E hr h=>?_)
 ·obtain ⟨n,z,a,ds,ws,rfl,_⟩:=h
  rfl
 ·obtain ⟨n,z,a,ds,ws,rfl,ha,rd,fls,s60,n1000,d50,q⟩:=h
  have hu:=hr.units
  refine ⟨_,(aE (aZ (i:=3) kJ.nd rfl (Or.inl rfl) (cM aB))
   (aE (eY PassesOwn.never rfl (cX K rfl (pv 2)) (bJ (i:=4) kJ.nd rfl (Or.inl rfl)) (aH (bK (a0 (fG hu) (pv 4) (pv 1) (nomark _)) (aH (cW (iW PySem.F.plainAttrs_list PySem.F.slot_list_extend PySem.F.type_list_extend wE (pv 3) (aA (aM O_opened (hr.mono (by decide)) pass0 rfl (aA (pv 0) (aA (pv 4) aB))) aB)))) aW)))
   (aE (bK (cL (aR K rfl (pv 3) (fun _=>rfl))) (aH (aP (pv 1))) aW)
   (aE (bK (a0 (eF hu) (aK bD rfl T.n_len rfl (aA (pv 3) aB)) aJ (nomark _)) (aH (aP (bN dD (pv 3) aJ (fun _ _=>rfl)))) aW)
   (aH (aP (bZ fM rfl T.n_tuple rfl (aA (bO bV (cM (aA (pv 0) aB)) (AB O_order_key (hr.mono (by decide)) rfl T.n_sorted rfl (aA (pv 3) aB))) aB)))))))),?_⟩
  simp only [sN]
  clear hr F T hu O_opened O_order_key
  have keep:=aI q (aI ha (aI rd (aI fls (aI s60 (aI n1000 d50)))))
  clear q ha rd fls s60 n1000 d50
  walk_at "rd"
  obtain ⟨q,ha,rd,fls,s60,n1000,d50⟩:=keep
  refine ⟨by decide,fun l hl=>⟨ws,.inl (by rw [aC (aD ha hl)];exact ha),fun J hJ=>?_⟩⟩
  have s1:aG H (upd H l (.lst [])):=aG.upd hl
  have h1:upd H l (.lst []) l=some (.lst []):=upd_same
  generalize upd H l (.lst [])=H1 at s1 h1 hJ ⊢
  have small:∀ i,(opn n z (ds.take i)).length<=60:=fun i=>by
   have h1:=jT (opn n z (ds.take i))
   have h2:=rB n z (ds.take i)
   have h3:=xI i ds
   omega
  have lw:=Reps.len rd
  refine iY hJ (P0 a l n z ds H) ⟨[],none,rfl,h1,s1,rfl⟩ (by rintro i σ H' _ ⟨_,_,_,_,s2,_⟩;rw [s2 _ _ ha,s1 _ _ ha]) ?_ ?_
  ·rintro i x σ H2 hx ⟨us,o,rfl,h2,s2,ru⟩
   obtain ⟨d,hd,rx⟩:=Reps.get rd hx
   have fd:=fls.get hd
   have dd:=gW hd
   have keep:=aI q (aI ha (aI rd (aI fls (aI s60 (aI n1000 (aI d50 (aI hl (aI h2 (aI s2 (aI ru (aI hd (aI rx (aI fd (aI dd small))))))))))))))
   clear q ha rd fls s60 n1000 d50 hl h2 s2 ru hd rx fd dd small s1 h1 hJ hx
   walk_at "rd"
   obtain ⟨q,ha,rd,fls,s60,n1000,d50,hl,h2,s2,ru,hd,rx,fd,dd,small⟩:=keep
   refine ⟨d,.str z,bB.same s2 rx,rfl,by omega,_,rfl,?_⟩
   have lu:=Reps.len ru
   have e1:=MU n z d fd
   cases he:eqD d (.str z) with
   | true =>
    rw [if_neg (by decide)]
    rw [he,if_pos rfl] at e1
    exact ⟨us,_,rfl,h2,s2,by rw [aV hd,gR,e1,List.append_nil];exact ru⟩
   | false =>
    rw [if_pos (by decide)]
    rw [he,if_neg (by decide)] at e1
    refine ⟨tyL h2,n,d,x,rfl,bB.same s2 rx,fd,fun l2 vs2 H3 s3 hl2 h3 r3=>?_⟩
    have l3:=s3 _ _ h2
    have lv:=Reps.len r3
    have sm:=small (i + 1)
    rw [aV hd,gR,List.length_append,e1] at sm
    have f2:Fls (opn n z (ds.take i) ++ opP n d):=by
     rw [← e1,← gR,← aV hd]
     exact v8 (jA fun e he=>fY fls e (List.mem_of_mem_take he))
    refine ⟨l,l2,us,vs2,rfl,rfl,l3,.inl h3,Nat.le_trans (m:=100) (by omega) (by decide),us ++ vs2,_,rfl,upd_same,fun b o hb=>by rw [aC (aD hb hl)];exact s3 _ _ (s2 _ _ hb),?_⟩
    rw [aV hd,gR,e1]
    exact Reps.tups (bF.lst l3) f2 (Reps.append (Reps.same s3 ru) (Reps.same s3 r3))
  ·rintro σ H2 ⟨us,o,rfl,h2,s2,ru⟩
   rw [lw,List.take_length] at ru
   have keep:=aI q (aI ha (aI rd (aI fls (aI s60 (aI n1000 (aI d50 (aI hl (aI h2 (aI s2 (aI ru small))))))))))
   clear q ha rd fls s60 n1000 d50 hl h2 s2 ru small s1 h1 hJ
   walk_at "rd"
   obtain ⟨q,ha,rd,fls,s60,n1000,d50,hl,h2,s2,ru,small⟩:=keep
   have fo:=v8 (n:=n) (z:=z) fls
   have lu:=Reps.len ru
   have sm:=small ds.length
   rw [List.take_length] at sm
   have nn:=vZ n z ds
   refine ⟨!us.isEmpty,.inl ⟨us,eA.of h2,rfl⟩,?_⟩
   generalize hos:opn n z ds=os at fo lu sm nn ru q
   clear hos
   match os,fo,lu,sm,nn,ru,q with
   | [],fo,lu,sm,nn,ru,q =>
    cases (show us=[] from ru)
    rw [if_pos (by decide)]
    exact q _ _ s2 rfl
   | [d],fo,lu,sm,nn,⟨u,_,e,h,e'⟩,q =>
    subst e
    cases (show _=[] from e')
    rw [if_neg (by simp),if_pos (by simp)]
    exact ⟨u,atI_zero,q _ _ s2 h⟩
   | d :: d2 :: os',fo,lu,sm,nn,ru,q =>
    have l2:us.length=os'.length + 2:=by rw [lu];rfl
    have ne:us≠[]:=fun z=>by rw [z] at l2;simp at l2
    rw [if_neg (by cases us with | nil=>exact absurd rfl ne | cons a b=>simp),if_neg (by omega)]
    refine ⟨by decide,fun p hp=>?_⟩
    have sp:aG H2 (upd H2 p (.lst [.str n])):=aG.upd hp
    have hpp:upd H2 p (.lst [.str n]) p=some (.lst [.str n]):=upd_same
    generalize upd H2 p (.lst [.str n])=H3 at sp hpp ⊢
    have all:∀ e ∈ d :: d2 :: os',Fl e:=fY fo
    refine ⟨_,rfl,l,us,d :: d2 :: os',rfl,sp _ _ h2,Reps.same sp ru,fun e he=>⟨all e he,by have:=B3 he;omega⟩,by simp,by simp only [List.length_cons] at sm ⊢;omega,fun l' ys es H4 s4 hl' h4 pm so re=>?_⟩
    have ees:=DD all pm so
    have ly:=Reps.len re
    have le:=pm.length_eq
    refine ⟨.lst (.str n :: ys),n5 (s4 _ _ hpp) h4 (Nat.le_trans (m:=100) (by simp only [List.length_cons,List.length_nil] at sm le ⊢;omega) (by decide)),fun p5 hp5=>⟨.str n :: ys,.inl upd_same,fun l6 H6 hc=>?_⟩⟩
    rcases hc with ⟨hc,_⟩ | ⟨_,hl6,rfl⟩
    ·cases hc
    ·have s6:aG H4 (upd (upd H4 p5 (.lst (.str n :: ys))) l6 (.tup (.str n :: ys))):=(aG.upd hp5).trans (aG.upd hl6)
     refine q _ _ ((s2.trans (sp.trans s4)).trans s6) ?_
     rw [xZ (by rw [(cD _).length_eq];simp),← ees]
     exact ⟨l6,_,rfl,upd_same,.str n,ys,rfl,rfl,Reps.same (s4.trans s6) re⟩
noncomputable def gB (K:PySem.W.Frag)(C:Addr):Sp:=fun vs H Q _=>∃ (g:Addr) (fx:cQ) (sm:bY) (n:Str) (a:Addr) (ds:List D) (ws:List V),vs=[.ref g,.str n,.ref a]/\iO K C fx sm H g/\H a=some (.lst ws)/\Reps H ds ws/\Fls ds/\szs ds<=60/\ndss ds<=1000/\depDs ds<=50 /\
 ∀ (v':V) (H':Hp),aG H H'->bB H' (knot sm n ds) v'->Q v' H'
theorem AJ {f C:Addr}{fd:FuncData}(F:gY K "flat_of_parts" "flat_of_parts" cK f fd)(T:iH mg)(M_nought:E3 P w K mg base bC 1 C "nought" (nB K C))(O_flat_sum:cH P w K mg base bC 5 "flat_sum" oS):bR P w K mg base bC 6 f fd g8 (gB K C):=by
 refine F.ok jL (fun vs H Q E h=>?_) (fun cdv A outer s H vs Q E hr h=>?_)
 ·obtain ⟨g,fx,sm,n,a,ds,ws,rfl,_⟩:=h
  rfl
 ·obtain ⟨g,fx,sm,n,a,ds,ws,rfl,sg,ha,rd,fls,s60,n1000,d50,q⟩:=h
  have hu:=hr.units
  refine ⟨_,(aE (aZ (i:=3) jL.nd rfl (Or.inl rfl) (vY M_nought (hr.mono (by decide)) pass0 (pv 0) (aA (pv 1) aB)))
   (aE (bK (a0 MX (pv 3) vX (nomark _)) (aH (aP (bZ fM rfl T.n_tuple rfl (aA (bO bV (cM (aA (pv 1) aB)) (pv 2)) aB)))) aW)
   (aH (aP (aM O_flat_sum (hr.mono (by decide)) pass0 rfl (aA (pv 1) (aA (pv 3) (aA (pv 2) aB)))))))),?_⟩
  simp only [kE]
  clear hr F T hu M_nought O_flat_sum
  have keep:=aI q (aI ha (aI rd (aI fls (aI s60 (aI n1000 (aI d50 sg))))))
  clear q ha rd fls s60 n1000 d50 sg
  walk_at "rd"
  obtain ⟨q,ha,rd,fls,s60,n1000,d50,sg⟩:=keep
  obtain ⟨dx,fs,_,_,h1,_,h3,_⟩:=sg.ex
  refine ⟨_,rfl,g,dx,fs,rfl,h1,h3,_,rfl,g,n,fx,sm,rfl,sg,?_⟩
  unfold knot at q
  cases hz:zr sm n with
  | none =>
   have e0:nulV sm n = .non:=by unfold nulV;rw [hz];rfl
   rw [hz] at q
   rw [e0,if_pos rfl]
   have lw:=Reps.len rd
   have:=jT ds
   refine ⟨by decide,fun p hp=>⟨.lst (.str n :: ws),n5 upd_same (by rw [aC (aD ha hp)];exact ha) (Nat.le_trans (m:=100) (by simp;omega) (by decide)),fun p5 hp5=>⟨.str n :: ws,.inl upd_same,fun l6 H6 hc=>?_⟩⟩⟩
   rcases hc with ⟨hc,_⟩ | ⟨_,hl6,rfl⟩
   ·cases hc
   ·have s6:aG H (upd (upd (upd H p (.lst [.str n])) p5 (.lst (.str n :: ws))) l6 (.tup (.str n :: ws))):=((aG.upd hp).trans (aG.upd hp5)).trans (aG.upd hl6)
    exact q _ _ s6 ⟨l6,_,rfl,upd_same,.str n,ws,rfl,rfl,Reps.same s6 rd⟩
  | some z =>
   have e0:nulV sm n = .str z:=by unfold nulV;rw [hz];rfl
   rw [hz] at q
   rw [e0,if_neg (by simp)]
   exact ⟨n,z,a,ds,ws,rfl,ha,rd,fls,s60,n1000,d50,q⟩
end
end Lw
namespace L2
open PySem PySem.Spec PyProof.Rows
theorem JY {X:Cx}(K:PySem.W.Frag)(hK:X.K=K){o:Expr}{to:TE}{name:Str}{apos cpos:Pos}{T id:String}{r:V->List V->Hp->VK->Prop}(pa:PlainAttrs T)(slot:Slot T name id)(hty:typeOf (.builtin id)=pure (.type "method_descriptor"))(hm:O2 X id r)(ho:PE X o to)
  (hbase:attributeBase o name X.env (eval o X.env)=eval o X.env:=by rfl) (hline:(apos.endLine == cpos.line)=true:=by rfl):PE X (.Call (.Attribute o name apos) [] [] cpos) (tBM0 K T r to):=by
 subst hK
 exact AE pa slot hty hm ho hbase hline
noncomputable abbrev pinO (a:Addr)(o:Obj):HO:=.ext fun h=>h.get? a=some o
theorem vT {P:Program}{w:World}{H:Hp}{h:Heap}{a:Addr}{o:Obj}(e:h.get? a=some o):cE P w H h a (pinO a o):=⟨e,⟨o,e⟩,fun h1 h2 q k=>k o q⟩
theorem nM {P:Program}{w:World}{H:Hp}{h:Heap}{a:Addr}{o:Obj}(ok:gX P w H h)(e:H a=some (pinO a o)):h.get? a=some o:=(ok a _ e).1
noncomputable def del1 (H:Hp)(p:Addr):Hp:=fun b=>if b=p then none else H b
theorem ID {H:Hp}{p b:Addr}{o:HO}(h:del1 H p b=some o):H b=some o/\b≠p:=by
 unfold del1 at h
 by_cases e:b=p
 ·rw [if_pos e] at h;cases h
 ·rw [if_neg e] at h;exact ⟨h,e⟩
theorem iG {H:Hp}{p b:Addr}(h:H b=none):del1 H p b=none:=by
 unfold del1
 split
 ·rfl
 ·exact h
theorem dP {H:Hp}{p b:Addr}(h:b≠p):del1 H p b=H b:=by unfold del1;rw [if_neg h]
theorem lR {H:Hp}{p:Addr}:del1 H p p=none:=by unfold del1;rw [if_pos rfl]
theorem gX.del {P:Program}{w:World}{H:Hp}{h:Heap}{c:Addr}{φ:Heap->Prop}(ok:gX P w H h)(e:H c=some (.ext φ)):gX P w (del1 H c) h:=fun a o q=>by
 obtain ⟨q1,q2⟩:=ID q
 exact (ok a o q1).stay (fun _ _ _ z=>z) (fun b z=>by rw [dP (fun w=>by rw [w,e] at z;cases z)];exact z) (fun b xs z=>by rw [dP (fun w=>by rw [w,e] at z;cases z)];exact z)
theorem gX.back {P:Program}{w:World}{H:Hp}{h:Heap}{c:Addr}{o:Obj}(ok:gX P w H h)(n:H c=none)(e:h.get? c=some o):gX P w (upd H c (pinO c o)) h:=fun a u q=>by
 by_cases z:a=c
 ·subst z
  rw [upd_same] at q
  cases q
  exact vT e
 ·rw [aC z] at q
  exact (ok a u q).stay (fun _ _ _ z=>z) (fun b z=>by rw [aC (aD z n)];exact z) (fun b xs z=>by rw [aC (aD z n)];exact z)
end L2
namespace Lw
open PySem PySem.Spec PyProof.Rows L2
noncomputable def lamOf (s:Stmt):Expr:=match aN s with
 | [.Return (some (.Call _ [_,_,e] _ _)) _]=>e
 | _=>.Name "" ⟨0,0,0,0⟩
noncomputable def NC (e:Expr):Arguments:=match e with
 | .Lambda a _ _ _=>a
 | _=>default
noncomputable def ND (e:Expr):Expr:=match e with
 | .Lambda _ b _ _=>b
 | e=>e
noncomputable def lamSc (e:Expr):Scope:=match e with
 | .Lambda _ _ s _=>s
 | _=>default
noncomputable abbrev pL:Arguments:=NC (lamOf cP)
noncomputable abbrev bL:Expr:=ND (lamOf cP)
noncomputable abbrev scL:Scope:=lamSc (lamOf cP)
noncomputable def qL:Str:="put_in.<locals>.<lambda>"
noncomputable abbrev oL (c0 c':Addr)(pm ctv:Value):Obj:=PySem.W.kla_obj "<lambda>" qL pL bL scL [("signs",c0)] pm c' ctv
noncomputable abbrev envL (L fl c0 c':Addr):Env:=newEnv scL L mainGlobals [("signs",c0)] (qL ++ ".<locals>.") (some fl) (.ref c') none builtinsNs
noncomputable def cxL (P:Program)(w:World)(K:PySem.W.Frag)(mg:gA)(base:Heap)(A:Around)(outer:List Env)(s:Shared)(H:Hp)(fl c0 c':Addr):Cx where
 prog:=P
 w:=w
 K:=K
 mg:=mg
 base:=base
 A:=A.deeper (envL s.heap.objs.size fl c0 c')
 N:=["name","parts","signs"]
 s₀:=s
 H₀:=H
 env:=envL s.heap.objs.size fl c0 c'
 outer:=outer
 stack:=envL s.heap.objs.size fl c0 c' :: outer
 ex:=[]
 fn:=fun _=>false
 calm:=true
 pn:=[]
 xe:=fun _ _=>False
theorem A2 {x:Str}(h:scL.names.lookup x=some .cell∨scL.names.lookup x=some .free):x="signs":=by
 have all:∀ y ∈ scL.names,(y.2 = .cell∨y.2 = .free)->y.1=("signs" : Str):=by decide +kernel
 rcases h with h | h
 ·exact all _ (PySem.mem_of_lookup h) (.inl rfl)
 ·exact all _ (PySem.mem_of_lookup h) (.inr rfl)
section
variable {P:Program}{w:World}{K:PySem.W.Frag}{mg:gA}{base:Heap}
theorem KY {A:Around}{outer:List Env}{s:Shared}{H:Hp}{g fl c0 c' a C:Addr}{pm ctv u1 u2:Value}{oc0 oc':Obj}{vsc:iA}{tq:Tok}{n:Str}{k:Nat}{Q:VK}(hr:eI (k + 1) A)(e0:xD P w K mg base A outer s H)
  (hfl:H fl=some (pinO fl (oL c0 c' pm ctv))) (hc0:H c0=some (pinO c0 oc0)) (hd0:oc0.data = .cell (some (.ref g))) (hc':H c'=some (pinO c' oc')) (hcd:oc'.data = .fields vsc) (hq:vsc[1]?=some (.str qL tq))
  (O:cH P w K mg base bC k "flat_of_parts" (gB K C)) (r1:aX (.str n) u1) (r2:aX (.ref a) u2) (sp:gB K C [.ref g,.str n,.ref a] (del1 H c0) (fun v H'=>H' c0=none->Q v (upd H' c0 (pinO c0 oc0))) E0) :
  codeAny (model P w) A (.call (.ref fl) ⟨[u1,u2],[]⟩) (CR bC outer P w H s Q E0) s:=by
 have gfl:=nM e0.hok hfl
 have g0:=nM e0.hok hc0
 have g':=nM e0.hok hc'
 have lim:s.heap.NoLimit:=e0.mod.nolimit.keeps fun b o e=>(e0.bs b o e).1
 refine PySem.W.kla_callFunE hr.depth gfl rfl rfl rfl rfl ⟨c',oc',vsc,tq,rfl,g',hcd,hq⟩ ?_
 rw [show bindArgs (PySem.W.kla_fn "<lambda>" qL pL bL scL [("signs",c0)] pm (.ref c') ctv) ⟨[u1,u2],[]⟩=pure [(("name" : Str),u1),(("parts" : Str),u2)] from rfl]
 have nc:∀ x ∈ scL.names,x.2≠.cell:=by decide +kernel
 have nl:∀ x ∈ [(("name" : Str),u1),(("parts" : Str),u2)],scL.names.lookup x.1=some .local:=by
  intro x hx
  obtain rfl | hx:=List.mem_cons.mp hx
  ·rfl
  ·rw [List.mem_singleton.mp hx];rfl
 refine wpAny_pure (wpAny_newFunctionEnv nc nl (fun h' hns hsb=>⟨lim.fresh _ hsb,?_⟩) rfl)
 have hk:∀ b o,s.heap.get? b=some o->h'.get? b=some o:=fun b o e=>hsb.extBut b o (Nat.ne_of_lt (Heap.lt_size e)) (Heap.get?_push_of_some _ e)
 have ok1:=e0.hok.del hc0
 have nfr:c0 ∉ frs outer:=fun z=>by have:=e0.frf c0 z;rw [hc0] at this;cases this
 have I:aO (cxL P w K mg base A outer s (del1 H c0) fl c0 c') [] [some (.str n),some (.ref a),some (.ref g)] (del1 H c0) { s with heap:=h',toks:=s.toks + 2 }:=by
  have noA:∀ b:Addr,b ∉ (cxL P w K mg base A outer s (del1 H c0) fl c0 c').ex:=fun b z=>absurd (show b ∈ ([]:List Addr) from z) (by simp)
  have one:∀ x c,(cxL P w K mg base A outer s (del1 H c0) fl c0 c').env.cells.lookup x=some c->x=("signs" : Str)/\c=c0:=fun x c e=>by
   have e':[(("signs" : Str),c0)].lookup x=some c:=e
   have:=PySem.mem_of_lookup e'
   rw [List.mem_singleton] at this
   cases this
   exact ⟨rfl,rfl⟩
  refine ⟨⟨e0.mod,rfl,rfl,rfl,Nat.le_refl _,fun x y c h1 h2=>?_,fun x hx=>?_,fun x c h=>absurd h (by simp [cxL]),fun _=>hr.hd,Around.frames_deeper e0.frames,.inr ⟨rfl,rfl⟩,fun b z=>absurd z (noA b),fun b o e=>⟨(e0.bs b o e).1,iG (e0.bs b o e).2⟩,e0.bsz,fun b _ _=>noA b,fun b z=>absurd z (noA b),e0.funs,fun b z=>iG (e0.frf b z)⟩,
   rfl,e0.bare,Un.kept hk,⟨_,hns,fun i x v h1 h2 h3=>?_⟩,fun x c h=>?_,ok1.fresh (Nat.le_refl _),fun x c h=>?_,fun p hp=>absurd (show p ∈ ([]:dE) from hp) (by simp),ok1.kept hk,rfl⟩
  ·rw [(one x c h1).1,(one y c h2).1]
  ·rw [A2 hx]
   exact ⟨c0,rfl⟩
  ·match i,h1,h2 with
   | 0,h1,h2=>cases h1;cases h2;exact ⟨u1,r1,.inl ⟨rfl,rfl⟩⟩
   | 1,h1,h2=>cases h1;cases h2;exact ⟨u2,r2,.inl ⟨rfl,rfl⟩⟩
   | 2,h1,h2=>cases h1;cases h2;exact ⟨.ref g,rfl,.inr ⟨.inr rfl,c0,rfl,oc0,hk _ _ g0,hd0⟩⟩
   | i + 3,h1,h2=>cases h1
  ·rw [(one x c h).2]
   exact ⟨_,oc0,hk _ _ g0,hd0⟩
  ·rw [(one x c h).2]
   exact lR
 have pb:PE (cxL P w K mg base A outer s (del1 H c0) fl c0 c') bL (tCall (gB K C) [] E0 (tCons (tVar 2) (tCons (tVar 0) (tCons (tVar 1) tNil)))):=aM O (hr.deeper _) pass0 rfl (aA (pv 2) (aA (pv 0) (aA (pv 1) aB)))
 refine PySem.W.kla_codeExpr (wpAny_mono (pb [] _ _ _ (fun v H'=>H' c0=none->Q v (upd H' c0 (pinO c0 oc0))) I ⟨_,rfl,_,rfl,_,rfl,sp⟩) (fun u s' ⟨v,H',J,rv,q⟩=>?_) fun _ _ z=>z.elim)
 have un:Un (frs outer) [] (del1 H c0) H' s.heap s'.heap:=J.base
 have gs:=un.keep c0 oc0 g0 lR nfr (by simp)
 have nn:=un.free c0 oc0 g0 lR (by simp)
 refine ⟨v,upd H' c0 (pinO c0 oc0),J.os,J.bare,?_,J.hok.back nn gs,rv,q nn⟩
 have ne:∀ b u,H b=some u->(∀ φ,u≠.ext φ)->b≠c0:=fun b u e z w=>by rw [w,hc0] at e;cases e;exact z _ rfl
 refine ⟨fun b o e z hb hx=>un.keep b o e (iG z) hb hx,fun b o e z hb hx=>un.slot b o e (iG z) hb hx,fun b o e z hx=>?_,fun b o e hx=>un.there b o e hx,fun b xs e=>?_,fun b o u' e=>?_,fun b ps e=>?_⟩
 ·rw [aC (fun w=>by rw [w,hc0] at z;cases z)]
  exact un.free b o e (iG z) hx
 ·have nb:=ne b _ e (fun φ=>by simp)
  rw [aC nb]
  exact un.tups b xs (by rw [dP nb];exact e)
 ·have nb:=ne b _ e (fun φ=>by simp)
  rw [aC nb]
  exact un.frzs b o u' (by rw [dP nb];exact e)
 ·have nb:=ne b _ e (fun φ=>by simp)
  rw [aC nb]
  exact un.tbls b ps (by rw [dP nb];exact e)
end
noncomputable def zE (H:Hp)(fl c0 g:Addr):Prop:=∃ (c':Addr) (pm ctv:Value) (oc0 oc':Obj) (vsc:iA) (tq:Tok),H fl=some (pinO fl (oL c0 c' pm ctv))/\H c0=some (pinO c0 oc0)/\oc0.data = .cell (some (.ref g))/\H c'=some (pinO c' oc')/\oc'.data = .fields vsc/\vsc[1]?=some (.str qL tq)
theorem zE.same {H H':Hp}{fl c0 g:Addr}(h:zE H fl c0 g)(s:aG H H'):zE H' fl c0 g:=by
 obtain ⟨c',pm,ctv,oc0,oc',vsc,tq,h1,h2,h3,h4,h5⟩:=h
 exact ⟨c',pm,ctv,oc0,oc',vsc,tq,s _ _ h1,s _ _ h2,h3,s _ _ h4,h5⟩
mutual
theorem bB.del1 {H:Hp}{c:Addr}{φ:Heap->Prop}(e:H c=some (.ext φ)):∀ {d:D} {v:V},bB H d v->bB (L2.del1 H c) d v
 | .non,v,h | .bl _,v,h | .int _,v,h | .str _,v,h=>h
 | .tup ds,v,⟨a,vs,h1,h2,h3⟩=>⟨a,vs,h1,by rw [dP (fun z=>by rw [z,e] at h2;cases h2)];exact h2,Reps.del1 e h3⟩
 | .lst ds,v,⟨a,vs,h1,h2,h3⟩=>⟨a,vs,h1,by rw [dP (fun z=>by rw [z,e] at h2;cases h2)];exact h2,Reps.del1 e h3⟩
theorem Reps.del1 {H:Hp}{c:Addr}{φ:Heap->Prop}(e:H c=some (.ext φ)):∀ {ds:List D} {vs:List V},Reps H ds vs->Reps (L2.del1 H c) ds vs
 | [],vs,h=>h
 | d :: ds,vs,⟨v,r,h1,h2,h3⟩=>⟨v,r,h1,bB.del1 e h2,Reps.del1 e h3⟩
end
theorem iO.del1 {K:PySem.W.Frag}{C:Addr}{fx:cQ}{sm:bY}{H:Hp}{g c:Addr}{φ:Heap->Prop}(e:H c=some (.ext φ))(h:iO K C fx sm H g):iO K C fx sm (L2.del1 H c) g:=by
 obtain ⟨a,b,n,dx,fs,dm,dn,h1,h2,h3,h4,h5,h6,h7⟩:=h
 exact ⟨a,b,n,dx,fs,dm,dn,by rw [dP (fun z=>by rw [z,e] at h1;cases h1)];exact h1,h2,h3,h4,h5,by rw [dP (fun z=>by rw [z,e] at h6;cases h6)];exact h6,by rw [dP (fun z=>by rw [z,e] at h7;cases h7)];exact h7⟩
noncomputable def tLam (K:PySem.W.Frag)(C:Addr)(i:Nat)(t:TA):TE:=fun σ H Q=>∃ fl,σ[i]?=some (some (.ref fl))/\t σ H fun vs H1=>∃ (c0 g:Addr) (fx:cQ) (sm:bY) (n:Str) (a:Addr) (ds:List D) (ws:List V),vs=[.str n,.ref a]/\zE H1 fl c0 g /\
 iO K C fx sm H1 g/\H1 a=some (.lst ws)/\Reps H1 ds ws/\Fls ds/\szs ds<=60/\ndss ds<=1000/\depDs ds<=50/\∀ (v':V) (H':Hp),aG H1 H'->bB H' (knot sm n ds) v'->Q v' H'
theorem AD {X:Cx}{C:Addr}{k i:Nat}{e1 e2:Expr}{t:TA}{p pos:Pos}(hN:X.N[i]?=some ("whole" : Str))(hv:OT X.env.scope "whole")(O:cH X.prog X.w X.K X.mg X.base bC k "flat_of_parts" (gB X.K C))(hr:eI (k + 1) X.A)(ha:PA X [e1,e2] t)
  (he:starEach [e1,e2] X.env=(false,eval e1 X.env) :: starEach [e2] X.env:=by rfl) (hpl:(backTo pos (starEach [e2] X.env)).any (·.1)=false:=by rfl):PE X (.Call (.Name "whole" p) [e1,e2] [] pos) (tLam X.K C i t):=by
 intro pins s σ H Q I h
 obtain ⟨fl,hfl,h⟩:=h
 have pw:PE X (.Name "whole" p) (tVar i):=GC hN hv
 refine wpAny_Call_Name_kw (thn (pw pins s σ H (fun x H'=>x = .ref fl/\H'=H) I ⟨_,hfl,rfl,rfl⟩) fun f s0 ⟨x,H0,I0,rx,e3,e4⟩=>?_)
 subst e3 e4
 cases rx
 have hargs:=ha pos pins s0 σ H0 _ I0 h
 rw [he] at hargs ⊢
 refine PySem.W.callWith_of (P:=fun h=>∃ o fd,h.get? fl=some o/\o.data = .func fd) (by show ((false || (backTo pos (starEach [e2] X.env)).any (·.1)) || false)=false;rw [hpl];rfl) (fun h ⟨o,fd,z1,z2⟩=>⟨.frame,.inl rfl,?_⟩) (Calls.evalArgs_plain (thn hargs fun us s1 ⟨vs,H1,I1,rv,q⟩=>?_))
 ·intro A' Q' E' s' kp q
  unfold keeperOf
  refine wpAny_bind (wpAny_load (kp _ _ z1) ?_)
  rw [z2]
  exact wpAny_pure q
 ·obtain ⟨c0,g,fx,sm,n,a,ds,ws,rfl,la,sg,h1,rd,fls,s60,n1000,d50,q⟩:=q
  obtain ⟨c',pm,ctv,oc0,oc',vsc,tq,l1,l2,l3,l4,l5,l6⟩:=la
  obtain ⟨u1,u2,rfl,r1,r2⟩:=aU.two rv
  refine ⟨⟨_,_,nM I1.hok l1,rfl⟩,?_⟩
  refine wpAny_call (codeAny_mono (KY (Q:=Q) hr I1.env0 l1 l2 l3 l4 l5 l6 O r1 r2 ⟨g,fx,sm,n,a,ds,ws,rfl,sg.del1 l2,by rw [dP (fun z=>by rw [z,l2] at h1;cases h1)];exact h1,Reps.del1 l2 rd,fls,s60,n1000,d50,fun v' H' sm' rp nn=>q v' _ (fun b o e=>?_) (bB.same (aG.upd nn) rp)⟩) fun r s' hq=>?_)
  ·by_cases z:b=c0
   ·subst z
    rw [l2] at e
    cases e
    exact upd_same
   ·rw [aC z]
    exact sm' b o (by rw [dP z];exact e)
  ·cases r with
   | error e=>exact hq.elim
   | ok fl' =>
    cases fl' with
    | ret u=>exact I1.after hq
    | next=>exact hq.elim
    | brk=>exact hq.elim
    | cont=>exact hq.elim
end Lw
namespace Lw
open PySem L2
section
variable {P:Program}{w:World}{K:PySem.W.Frag}{mg:gA}{base:Heap}
noncomputable def pts:D->List D
 | .tup (.str _ :: ds)=>ds
 | .lst (.str _ :: ds)=>ds
 | _=>[]
noncomputable def stk:List D->List D
 | []=>[]
 | x :: S=>x :: (stk S).drop (pts x).length
mutual
theorem BU:∀ {d:D},Wk d->∀ S:List D,stk (wlk d ++ S)=d :: stk S
 | .str x,_,S=>by unfold wlk;show stk (.str x :: S)=_;rw [stk];rfl
 | .tup (.str n :: ds),h,S=>by
  unfold Wk at h
  rw [wlk,List.cons_append,stk,nA h S]
  show _ :: (ds ++ stk S).drop ds.length=_
  rw [List.drop_left]
 | .lst (.str n :: ds),h,S=>by
  unfold Wk at h
  rw [wlk,List.cons_append,stk,nA h S]
  show _ :: (ds ++ stk S).drop ds.length=_
  rw [List.drop_left]
 | .non,h,_ | .bl _,h,_ | .int _,h,_ | .tup [],h,_ | .lst [],h,_ | .tup (.non :: _),h,_ | .tup (.bl _ :: _),h,_ | .tup (.int _ :: _),h,_ | .tup (.tup _ :: _),h,_ | .tup (.lst _ :: _),h,_ | .lst (.non :: _),h,_ | .lst (.bl _ :: _),h,_ | .lst (.int _ :: _),h,_ | .lst (.tup _ :: _),h,_ | .lst (.lst _ :: _),h,_=>by unfold Wk at h;exact absurd h id
theorem nA:∀ {ds:List D},Wks ds->∀ S:List D,stk (wlks ds ++ S)=ds ++ stk S
 | [],_,S=>rfl
 | d :: ds,⟨a,b⟩,S=>by rw [wlks,List.append_assoc,BU a,nA b];rfl
end
mutual
theorem tF:∀ {d:D},Wk d->∀ {pre S:List D} {x:D},wlk d=pre ++ x :: S->∃ rest,S=wlks (pts x) ++ rest
 | .str y,_,pre,S,x,e=>by
  unfold wlk at e
  cases pre with
  | nil=>cases e;exact ⟨[],rfl⟩
  | cons p pre=>have:=congrArg List.length e;simp at this
 | .tup (.str n :: ds),h,pre,S,x,e=>by
  unfold Wk at h
  rw [wlk] at e
  cases pre with
  | nil=>cases e;exact ⟨[],by simp [pts]⟩
  | cons p pre=>injection e with _ e;exact jS h e
 | .lst (.str n :: ds),h,pre,S,x,e=>by
  unfold Wk at h
  rw [wlk] at e
  cases pre with
  | nil=>cases e;exact ⟨[],by simp [pts]⟩
  | cons p pre=>injection e with _ e;exact jS h e
 | .non,h,_,_,_,_ | .bl _,h,_,_,_,_ | .int _,h,_,_,_,_ | .tup [],h,_,_,_,_ | .lst [],h,_,_,_,_ | .tup (.non :: _),h,_,_,_,_ | .tup (.bl _ :: _),h,_,_,_,_ | .tup (.int _ :: _),h,_,_,_,_ | .tup (.tup _ :: _),h,_,_,_,_ | .tup (.lst _ :: _),h,_,_,_,_ | .lst (.non :: _),h,_,_,_,_ | .lst (.bl _ :: _),h,_,_,_,_ | .lst (.int _ :: _),h,_,_,_,_ | .lst (.tup _ :: _),h,_,_,_,_ | .lst (.lst _ :: _),h,_,_,_,_=>by unfold Wk at h;exact absurd h id
theorem jS:∀ {ds:List D},Wks ds->∀ {pre S:List D} {x:D},wlks ds=pre ++ x :: S->∃ rest,S=wlks (pts x) ++ rest
 | [],_,pre,S,x,e=>by have:=congrArg List.length e;simp [wlks] at this
 | d :: ds,⟨a,b⟩,pre,S,x,e=>by
  rw [wlks] at e
  rcases List.append_eq_append_iff.mp e with ⟨m,h1,h2⟩ | ⟨m,h1,h2⟩
  ·exact jS b h2
  ·cases m with
   | nil=>exact jS b (pre:=[]) (by simpa using h2.symm)
   | cons y m =>
    injection h2 with h3 h4
    subst h3
    obtain ⟨rest,hr⟩:=tF a h1
    exact ⟨rest ++ wlks ds,by rw [h4,hr];show (wlks (pts x) ++ rest) ++ wlks ds=_;rw [List.append_assoc]⟩
end
theorem BV:∀ {S:List D} {y:D},y ∈ stk S->y ∈ S
 | x :: S,y,h=>by
  rw [stk] at h
  obtain rfl | h:=List.mem_cons.mp h
  ·exact List.mem_cons_self
  ·exact List.mem_cons_of_mem _ (BV (List.mem_of_mem_drop h))
theorem BW:∀ S:List D,(stk S).length<=S.length
 | []=>Nat.le_refl _
 | x :: S=>by rw [stk,List.length_cons,List.length_cons,List.length_drop];have:=BW S;omega
theorem wU {l:List D}(h:Fls l):Fls l.reverse:=jA fun d hd=>fY h d (List.mem_reverse.mp hd)
theorem yS {l:List D}(h:Fls l)(k:Nat):Fls (l.drop k):=jA fun d hd=>fY h d (List.mem_of_mem_drop hd)
theorem HR {l:List D}(h:Fls l)(k:Nat):Fls (l.take k):=jA fun d hd=>fY h d (List.mem_of_mem_take hd)
theorem EI (sm:bY)(l:List D)(k:Nat):flts sm (l.drop k)=(flts sm l).drop k:=by rw [cI,cI,List.map_drop]
structure Sub (d x:D):Prop where
 tm:Tm x
 sz:sz x<=sz d
 nd:nds x<=nds d
 dp:depD x<=depD d
mutual
theorem vC:∀ {d:D},Tm d->∀ x ∈ wlk d,Sub d x
 | .str y,h,x,hx=>by unfold wlk at hx;rw [List.mem_singleton.mp hx];exact ⟨h,Nat.le_refl _,Nat.le_refl _,Nat.le_refl _⟩
 | .tup (.str n :: ds),h,x,hx=>by
  rw [wlk] at hx
  obtain rfl | hx:=List.mem_cons.mp hx
  ·exact ⟨h,Nat.le_refl _,Nat.le_refl _,Nat.le_refl _⟩
  ·unfold Tm at h
   obtain ⟨a,b,c,e⟩:=qS h.2 x hx
   exact ⟨a,by rw [sz];omega,by rw [nds];omega,by rw [depD,depDs];omega⟩
 | .lst (.str n :: ds),h,x,hx=>by
  rw [wlk] at hx
  obtain rfl | hx:=List.mem_cons.mp hx
  ·exact ⟨h,Nat.le_refl _,Nat.le_refl _,Nat.le_refl _⟩
  ·unfold Tm at h
   obtain ⟨a,b,c,e⟩:=qS h.2 x hx
   exact ⟨a,by rw [sz];omega,by rw [nds];omega,by rw [depD,depDs];omega⟩
 | .non,h,_,_ | .bl _,h,_,_ | .int _,h,_,_ | .tup [],h,_,_ | .lst [],h,_,_ | .tup (.non :: _),h,_,_ | .tup (.bl _ :: _),h,_,_ | .tup (.int _ :: _),h,_,_ | .tup (.tup _ :: _),h,_,_ | .tup (.lst _ :: _),h,_,_ | .lst (.non :: _),h,_,_ | .lst (.bl _ :: _),h,_,_ | .lst (.int _ :: _),h,_,_ | .lst (.tup _ :: _),h,_,_ | .lst (.lst _ :: _),h,_,_=>by unfold Tm at h;exact absurd h id
theorem qS:∀ {ds:List D},Tms ds->∀ x ∈ wlks ds,Tm x/\sz x<=szs ds/\nds x<=ndss ds/\depD x<=depDs ds
 | d :: ds,⟨a,b⟩,x,hx=>by
  rw [wlks] at hx
  obtain hx | hx:=List.mem_append.mp hx
  ·obtain ⟨h1,h2,h3,h4⟩:=vC a x hx
   exact ⟨h1,by rw [szs];omega,by rw [ndss];omega,by rw [depDs];omega⟩
  ·obtain ⟨h1,h2,h3,h4⟩:=qS b x hx
   exact ⟨h1,by rw [szs];omega,by rw [ndss];omega,by rw [depDs];omega⟩
end
mutual
theorem u8:∀ {d:D},Tm d->Wk d
 | .str x,h=>trivial
 | .tup (.str n :: ds),h=>by unfold Wk;unfold Tm at h;exact m9 h.2
 | .lst (.str n :: ds),h=>by unfold Wk;unfold Tm at h;exact m9 h.2
 | .non,h | .bl _,h | .int _,h | .tup [],h | .lst [],h | .tup (.non :: _),h | .tup (.bl _ :: _),h | .tup (.int _ :: _),h | .tup (.tup _ :: _),h | .tup (.lst _ :: _),h | .lst (.non :: _),h | .lst (.bl _ :: _),h | .lst (.int _ :: _),h | .lst (.tup _ :: _),h | .lst (.lst _ :: _),h=>by unfold Tm at h;exact absurd h id
theorem m9:∀ {ds:List D},Tms ds->Wks ds
 | [],_=>trivial
 | _ :: _,⟨a,b⟩=>⟨u8 a,m9 b⟩
end
theorem J8 (n z:Str)(l:List D):nds (one n z l)<=1 + ndss l:=by
 unfold one
 split
 ·show nds (.str z)<=_
  unfold nds;omega
 ·rw [ndss,ndss];omega
 ·rw [nds];omega
theorem D0 {l m:List D}(p:l.Perm m):ndss l=ndss m:=by
 induction p with
 | nil=>rfl
 | cons x _ ih=>rw [ndss,ndss,ih]
 | swap x y l=>rw [ndss,ndss,ndss,ndss];omega
 | trans _ _ a b=>exact a.trans b
theorem yK (sm:bY)(n:Str)(ps:List D):nds (knot sm n ps)<=1 + ndss ps:=by
 unfold knot
 split
 ·rw [nds];omega
 ·rename_i z _
  have h1:=J8 n z (cN (opn n z ps))
  rw [D0 (cD _)] at h1
  have h2:=vZ n z ps
  omega
mutual
theorem K8 (sm:bY):∀ d:D,nds (flt sm d)<=nds d
 | .tup (.str n :: ds)=>by rw [flt,nds];have:=yK sm n (flts sm ds);have:=nY sm ds;omega
 | .lst (.str n :: ds)=>by rw [flt,nds];have:=yK sm n (flts sm ds);have:=nY sm ds;omega
 | .non | .bl _ | .int _ | .str _ | .tup [] | .lst [] | .tup (.non :: _) | .tup (.bl _ :: _) | .tup (.int _ :: _) | .tup (.tup _ :: _) | .tup (.lst _ :: _) | .lst (.non :: _) | .lst (.bl _ :: _) | .lst (.int _ :: _) | .lst (.tup _ :: _) | .lst (.lst _ :: _)=>by unfold flt;exact Nat.le_refl _
theorem nY (sm:bY):∀ ds:List D,ndss (flts sm ds)<=ndss ds
 | []=>Nat.le_refl _
 | d :: ds=>by rw [flts,ndss,ndss];have:=K8 sm d;have:=nY sm ds;omega
end
theorem K7 (sm:bY){n:Str}{ds:List D}{x:D}(h:x = .tup (.str n :: ds)∨x = .lst (.str n :: ds)):flt sm x=knot sm n (flts sm ds)/\pts x=ds:=by rcases h with rfl | rfl <;> exact ⟨by rw [flt],rfl⟩
noncomputable def spFW (K:PySem.W.Frag)(C:Addr):Sp:=fun vs H Q _=>∃ (fi fl c0 g:Addr) (fx:cQ) (sm:bY) (d:D) (v:V),vs=[v,.ref fi,.ref fl]/\H fi=some (.dK [])/\zE H fl c0 g/\iO K C fx sm H g/\bB H d v/\Tm d/\(∀ r ∈ sm,r.2=("" : Str)∨Fl (.str r.2))/\sz d<=60/\nds d<=1000/\depD d<=50 /\
 ∀ (v':V) (H':Hp),aG H H'->bB H' (flt sm d) v'->Q v' H'
noncomputable def PY (v:V)(fi fl m l:Addr)(sm:bY)(W:List D)(ws:List V)(H:Hp)(i:Nat)(σ:St)(H3:Hp):Prop:=∃ (us:List V) (o4 o5:Option V),σ=[some v,some (.ref fi),some (.ref fl),some (.ref m),o4,o5]/\H3 m=some (.lst us)/\aG H H3/\H3 l=some (.lst ws)/\Reps H3 (flts sm (stk (W.drop (W.length - i)))).reverse us
noncomputable def PZ (m l p:Addr)(ws:List V)(o:HO)(fs:List D)(H:Hp)(j:Nat)(acc:List V)(σ:St)(H5:Hp):Prop:=∃ (us:List V) (o0:Option V),σ=[o0,some (.ref m)]/\H5 m=some (.lst us)/\aG H H5/\H5 l=some (.lst ws)/\H5 p=some o/\Reps H5 (fs.drop j).reverse us/\Reps H5 (fs.take j) acc
theorem OF {f C:Addr}{fd:FuncData}(F:gY K "from_within" "from_within" cY f fd)(T:iH mg)(O_walked:cH P w K mg base bC 1 "walked" jK)(O_flat_of_parts:cH P w K mg base bC 6 "flat_of_parts" (gB K C)):bR P w K mg base bC 8 f fd jD (spFW K C):=by
 refine F.ok fQ (fun vs H Q E h=>?_) (fun cdv A outer s H vs Q E hr h=>?_)
 ·obtain ⟨fi,fl,c0,g,fx,sm,d,v,rfl,_⟩:=h
  rfl
 ·obtain ⟨fi,fl,c0,g,fx,sm,d,v,rfl,hfi,la,sg,rep,tm,hz,s60,n1000,d50,q⟩:=h
  have hu:=hr.units
  refine ⟨_,(aE (aZ (i:=3) fQ.nd rfl (Or.inr rfl) (cM aB))
   (aE (eY PassesOwn.never rfl (vU K rfl rfl T.n_reversed (aA (aM O_walked (hr.mono (by decide)) pass0 rfl (aA (pv 0) aB)) aB)) (bJ (i:=4) fQ.nd rfl (Or.inl rfl)) (aH (bK (aR K rfl (aK aL rfl T.n_isinstance rfl (aA (pv 4) (aA (bH (v:=V.ty "str") rfl T.n_str rfl rfl) aB))) (fun _=>rfl)) (aH (cW (iW PySem.F.plainAttrs_list PySem.F.slot_list_append PySem.F.type_list_append eV (pv 3) (aA (GG (Nat.lt_of_le_of_lt (Nat.add_le_add_left (by decide) _) hu) (pv 1) (pv 4) (pv 4) ⟨rfl,rfl,rfl,rfl⟩) aB)))) (aE (iV (i:=5) fQ.nd rfl rfl rfl rfl (bG.by (N:=jH) (names:=(aF cY).names) (N':=["part","made"]) (src:=[none,some 3]) (by decide +kernel) rfl rfl) (cX K rfl (eN jU (pv 4) (d8 aJ) eU)) (fun _ _ _ _=>(bJ (i:=0) (show List.Nodup (["part","made"]:aQ) by decide +kernel) rfl (Or.inl rfl))) (fun _ _ _ _=>eT) (fun _ _ _ _=>(JY K rfl PySem.F.plainAttrs_list PySem.F.slot_list_pop PySem.F.type_list_pop AO (pv 1))))
   (aH (cW (iW PySem.F.plainAttrs_list PySem.F.slot_list_append PySem.F.type_list_append eV (pv 3) (aA (AD (i:=2) rfl (Or.inl rfl) O_flat_of_parts (hr.mono (by decide)) (aA (bN dD (pv 4) aJ (fun _ _=>rfl)) (aA (pv 5) aB))) aB))))))))
   (aH (aP (bN dD (pv 3) aJ (fun _ _=>rfl)))))),?_⟩
  simp only [jH]
  clear hr F T hu O_walked O_flat_of_parts
  have keep:=aI q (aI hfi (aI la (aI sg (aI rep (aI tm (aI hz (aI s60 (aI n1000 d50))))))))
  clear q hfi la sg rep tm hz s60 n1000 d50
  walk_at "rd"
  obtain ⟨q,hfi,la,sg,rep,tm,hz,s60,n1000,d50⟩:=keep
  refine ⟨Nat.zero_le _,fun m hm=>?_⟩
  have s1:aG H (upd H m (.lst [])):=aG.upd hm
  have hm1:upd H m (.lst []) m=some (.lst []):=upd_same
  generalize upd H m (.lst [])=H1 at s1 hm1 ⊢
  refine ⟨_,rfl,d,v,H,rfl,s1,rep,u8 tm,n1000,fun l ws H2 s2 hl h2 rws=>⟨l,ws,rfl,h2,?_⟩⟩
  have lw:=Reps.len rws
  have lk:=mY d
  have hml:m≠l:=fun z=>by rw [z,hl] at hm1;cases hm1
  refine HM ws (PY v fi fl m l sm (wlk d) ws H) ⟨[],none,none,rfl,s2 _ _ hm1,s1.trans s2,h2,by rw [Nat.sub_zero,List.drop_length];rfl⟩ (fun i σ H3 _ ⟨_,_,_,_,_,_,h,_⟩=>h) ?_ ?_
  ·rintro i x σ H3 hi hx ⟨us,o4,o5,rfl,h3,s3,hl3,ru⟩
   obtain ⟨e,he,rx⟩:=Reps.get rws hx
   rw [lw] at hi he
   have hlt:(wlk d).length - 1 - i < (wlk d).length:=by omega
   have hdrop:(wlk d).drop ((wlk d).length - (i + 1))=e :: (wlk d).drop ((wlk d).length - i):=by
    have e1:(wlk d)[(wlk d).length - 1 - i]=e:=(List.getElem?_eq_some_iff.mp he).2
    rw [show (wlk d).length - (i + 1)=(wlk d).length - 1 - i by omega,List.drop_eq_getElem_cons hlt,e1,show (wlk d).length - 1 - i + 1=(wlk d).length - i by omega]
   have hsplit:wlk d=(wlk d).take ((wlk d).length - (i + 1)) ++ e :: (wlk d).drop ((wlk d).length - i):=by rw [← hdrop,List.take_append_drop]
   obtain ⟨rest,hrest⟩:=tF (u8 tm) hsplit
   have sub:=vC tm e (List.mem_of_getElem? he)
   have inS:∀ y ∈ (wlk d).drop ((wlk d).length - i),y ∈ wlk d:=fun y hy=>List.mem_of_mem_drop hy
   have lS:((wlk d).drop ((wlk d).length - i)).length<=1000:=by rw [List.length_drop];omega
   generalize (wlk d).drop ((wlk d).length - i)=S at hdrop hsplit hrest inS lS ru
   have flS:Fls (flts sm (stk S)):=jA fun y hy=>by
    rw [cI] at hy
    obtain ⟨z,hz1,rfl⟩:=List.mem_map.mp hy
    exact (wT hz (vC tm z (inS z (BV hz1))).tm).1
   have lu:=Reps.len ru
   rw [List.length_reverse,cI,List.length_map] at lu
   have ls:(stk S).length<=1000:=Nat.le_trans (BW S) lS
   have keep:=aI q (aI hfi (aI la (aI sg (aI tm (aI hz (aI s60 (aI n1000 (aI d50 (aI hm (aI hl3 (aI h3 (aI s3 (aI ru (aI rx (aI sub (aI hdrop (aI hrest (aI flS (aI lu (aI ls (aI hml he)))))))))))))))))))))
   clear q hfi la sg rep tm hz s60 n1000 d50 hm hl3 h3 s3 ru rx sub hdrop hrest flS lu ls hml he s1 hm1 s2 hl h2 rws lw lk hx hi hlt hsplit inS lS
   walk_at "rd"
   obtain ⟨q,hfi,la,sg,tm,hz,s60,n1000,d50,hm,hl3,h3,s3,ru,rx,sub,hdrop,hrest,flS,lu,ls,hml,he⟩:=keep
   rcases BS sub.tm with ⟨y,rfl,_⟩ | ⟨n,ds,hd,dne,tms⟩
   ·cases (show x = .str y from rx)
    refine ⟨true,rfl,?_⟩
    rw [if_pos rfl]
    refine ⟨tyL h3,_,rfl,fi,rfl,.inl ⟨_,.inl (s3 _ _ hfi)⟩,_,rfl,_,rfl,_,jR.k (k:=.inr y) (s3 _ _ hfi),us,h3,Nat.lt_of_le_of_lt (m:=1000) (by omega) (by decide),us ++ [.str y],_,_,rfl,upd_same,fun b o hb=>by rw [aC (aD hb hm)];exact s3 _ _ hb,by rw [aC hml.symm];exact hl3,?_⟩
    rw [hdrop,stk]
    show Reps _ (flts sm (.str y :: (stk S).drop 0)).reverse _
    rw [List.drop_zero,flts,List.reverse_cons]
    exact Reps.snoc (by unfold flt;rfl) (Reps.tups (bF.lst h3) (wU flS) ru)
   ·obtain ⟨va,vs',rfl,hbb,hseq,lv⟩:∃ va vs',x = .ref va/\isV H3 (.ref va) (.ty "str")=some false/\eG H va (.str n :: vs')/\vs'.length=ds.length:=by
     rcases hd with rfl | rfl
     ·obtain ⟨a,vs,rfl,ha,_,vs',rfl,e1,r⟩:=rx
      cases e1
      exact ⟨a,vs',rfl,i9 (s3 _ _ ha),.inr ha,Reps.len r⟩
     ·obtain ⟨a,vs,rfl,ha,_,vs',rfl,e1,r⟩:=rx
      cases e1
      exact ⟨a,vs',rfl,kP (s3 _ _ ha),.inl ha,Reps.len r⟩
    obtain ⟨hfe,hpe⟩:=K7 sm hd
    rw [hpe] at hrest
    have wds:Wks ds:=m9 tms
    have hst:stk S=ds ++ stk rest:=by rw [hrest,nA wds]
    have hfs:flts sm (stk S)=flts sm ds ++ flts sm (stk rest):=by rw [hst,cI,List.map_append,← cI,← cI]
    have lds:(flts sm ds).length=ds.length:=by rw [cI,List.length_map]
    have lfs:(flts sm (stk S)).length<=1000:=by rw [cI,List.length_map];exact ls
    refine ⟨false,hbb,?_⟩
    rw [if_neg (by decide)]
    refine ⟨va,rfl,_,hseq.same s3,fun _ h=>by have:=h.1;simp [HT.sIx] at this,fun p o hp ho=>?_⟩
    rw [qM] at ho
    refine ⟨vs',by rcases ho with ⟨rfl,_⟩ | ⟨rfl,_⟩;exact .inl upd_same;exact .inr upd_same,fun J hJ=>?_⟩
    have sp:aG H3 (upd H3 p o):=aG.upd hp
    have hpo:upd H3 p o p=some o:=upd_same
    have hmp:m≠p:=aD h3 hp
    have hlp:l≠p:=aD hl3 hp
    generalize upd H3 p o=H4 at sp hpo hJ ⊢
    refine dC hJ (PZ m l p ws o (flts sm (stk S)) H) ⟨us,none,rfl,sp _ _ h3,s3.trans sp,sp _ _ hl3,hpo,by rw [List.drop_zero];exact Reps.same sp ru,rfl⟩ (fun j acc σ H' _ ⟨_,_,_,_,_,_,h,_⟩=>by rw [h,hpo]) ?_ ?_
    ·rintro j y acc σ H5 hy ⟨us5,o0,rfl,h5,s5,hl5,hp5,r5,racc⟩
     have hj:j < ds.length:=by have:=(List.getElem?_eq_some_iff.mp hy).1;omega
     have hj2:j < (flts sm (stk S)).length:=by rw [hfs,List.length_append];omega
     rw [List.drop_eq_getElem_cons hj2,List.reverse_cons] at r5
     obtain ⟨us6,u,rfl,r6,ru6⟩:=iT r5
     have la':=Reps.len racc
     rw [List.length_take] at la'
     have fu:Fl (flts sm (stk S))[j]:=fY flS _ (List.getElem_mem hj2)
     refine ⟨_,rfl,tyL h5,m,_,u,rfl,rfl,h5,by simp,Nat.lt_of_le_of_lt (m:=1000) (by omega) (by decide),?_⟩
     rw [List.dropLast_concat]
     have tt:bF H5 (upd H5 m (.lst us6)):=bF.lst h5
     refine ⟨us6,_,rfl,upd_same,fun b o hb=>by rw [aC (aD hb hm)];exact s5 _ _ hb,by rw [aC hml.symm];exact hl5,by rw [aC hmp.symm];exact hp5,Reps.tups tt (wU (yS flS (j + 1))) r6,?_⟩
     rw [aV (List.getElem?_eq_getElem hj2)]
     exact Reps.snoc (bB.tups tt fu ru6) (Reps.tups tt (HR flS j) racc)
    ·rintro acc σ H5 ⟨us5,o0,rfl,h5,s5,hl5,hp5,r5,racc⟩ p6 hp6
     have e1:(flts sm (stk S)).take vs'.length=flts sm ds:=by rw [hfs,lv,← lds,List.take_left]
     rw [e1] at racc
     have s6:aG H5 (upd H5 p6 (.lst acc)):=aG.upd hp6
     have h66:upd H5 p6 (.lst acc) p6=some (.lst acc):=upd_same
     have hmp6:m≠p6:=aD h5 hp6
     generalize upd H5 p6 (.lst acc)=H6 at s6 h66 ⊢
     have sH6:=s5.trans s6
     have ix0:ixV H6 (.ref va) (.int 0)=some (.str n):=by
      rcases hseq.same sH6 with e | e
      ·rw [ixV_l e,atI_zero]
      ·rw [ixV_t e,atI_zero]
     have hsz:sz e=max 1 (szs ds):=by rcases hd with rfl | rfl <;> rw [sz]
     have hnd:nds e=1 + ndss ds:=by rcases hd with rfl | rfl <;> rw [nds]
     have hdp:depD e=depDs ds + 1:=by
      rcases hd with rfl | rfl
      ·rw [depD,depDs,show depD (.str n)=0 from rfl];omega
      ·rw [depD,depDs,show depD (.str n)=0 from rfl];omega
     have b1:=nX sm ds
     have b2:=nY sm ds
     have b3:=kQ sm ds
     have c1:=sub.sz
     have c2:=sub.nd
     have c3:=sub.dp
     refine ⟨tyL (s6 _ _ h5),fl,rfl,_,rfl,.str n,ix0,_,rfl,c0,g,fx,sm,n,p6,flts sm ds,acc,rfl,la.same sH6,sg.same sH6,h66,Reps.same s6 racc,CM hz tms,by omega,by omega,by omega,fun v' H7 s7 r7=>?_⟩
     have h7:=s7 _ _ (s6 _ _ h5)
     have l5:=Reps.len r5
     rw [List.length_reverse,List.length_drop] at l5
     refine ⟨us5,h7,Nat.lt_of_le_of_lt (m:=1000) (by omega) (by decide),us5 ++ [v'],_,_,rfl,upd_same,fun b o hb=>by rw [aC (aD hb hm)];exact s7 _ _ (sH6 _ _ hb),by rw [aC hml.symm];exact s7 _ _ (s6 _ _ hl5),?_⟩
     have tt:bF H7 (upd H7 m (.lst (us5 ++ [v']))):=bF.lst h7
     rw [hdrop,stk,flts,List.reverse_cons,hpe,EI,hfe]
     rw [lv] at r5
     have fe:=(wT hz sub.tm).1
     rw [hfe] at fe
     exact Reps.snoc (bB.tups tt fe r7) (Reps.tups tt (wU (yS flS ds.length)) (Reps.same (s6.trans s7) r5))
  ·rintro σ H3 ⟨us,o4,o5,rfl,h3,s3,hl3,ru⟩
   rw [lw,Nat.sub_self,List.drop_zero] at ru
   have e:=BU (u8 tm) []
   rw [List.append_nil] at e
   rw [e] at ru
   obtain ⟨u,r,rfl,r1,r2⟩:=ru
   cases (show r=[] from r2)
   exact ⟨_,rfl,u,by rw [ixV_l h3,atI_zero],q u H3 s3 r1⟩
end
end Lw
namespace L2
open PySem PySem.Spec PyProof.Rows PySem.W
theorem aO.grow {X:Cx}{pins:dE}{σ:L2.St}{H:Hp}{s:Shared}{P:Addr}{ps more:iA}{h':Heap}{t':Nat}(I:aO X pins σ H s)(hP:H P=some (.tbl ps))(hx:Heap.ExtBut P s.heap h')(ht:h'.get? P=some (tabObj (ps ++ more))):aO X pins σ (upd H P (.tbl (ps ++ more))) { s with heap:=h',toks:=t' }:=by
 have nP:∀ b,H b=none->b≠P:=fun b e z=>by rw [z,hP] at e;cases e
 have nK:∀ b u,H b=some u->(∀ qs,u≠.tbl qs)->b≠P:=fun b u e z w=>by rw [w,hP] at e;cases e;exact z _ rfl
 refine I.un ⟨fun b o e n _ _=>hx b o (nP b n) e,fun b o e n _ _=>⟨o.slots,hx b o (nP b n) e⟩,fun b o e n _=>by rw [aC (nP b n)];exact n,fun b o e _=>?_,fun b xs e=>?_,fun b o u e=>?_,fun b qs e=>?_⟩ (fun b u e=>?_)
 ·by_cases z:b=P
  ·subst z;exact ⟨_,ht⟩
  ·exact ⟨o,hx b o z e⟩
 ·rw [aC (nK b _ e fun _=>by simp)];exact e
 ·rw [aC (nK b _ e fun _=>by simp)];exact e
 ·by_cases z:b=P
  ·subst z
   rw [hP] at e
   cases e
   exact ⟨more,upd_same⟩
  ·exact ⟨#[],by rw [aC z,e];simp⟩
 ·by_cases z:b=P
  ·subst z
   rw [upd_same] at e
   cases e
   exact ht
  ·rw [aC z] at e
   refine (I.hok b u e).stay (fun c o hc q=>hx c o ?_ q) (fun c q=>by rw [aC (nK c _ q fun _=>by simp)];exact q) (fun c xs q=>by rw [aC (nK c _ q fun _=>by simp)];exact q)
   rcases hc with rfl | hc
   ·exact z
   ·exact nK c _ hc fun _=>by simp
end L2
namespace Lw
open PySem PySem.Spec PyProof.Rows PySem.W L2
noncomputable def NB (e:Expr):Pos:=match e with
 | .Lambda _ _ _ p=>p
 | _=>⟨0,0,0,0⟩
noncomputable abbrev xL:Pos:=NB (lamOf cP)
noncomputable def LT (P:Addr)(H:Hp):Prop:=H P=some (.tbl #[])∨∃ (c':Addr) (oc':Obj) (vsc:iA) (tq:Tok),H P=some (.tbl #[rawInt xL.line,rawInt xL.col,.ref c'])/\H c'=some (pinO c' oc')/\oc'.data = .fields vsc/\vsc[1]?=some (.str qL tq)
theorem LT.same {P:Addr}{H H':Hp}(h:LT P H)(s:aG H H'):LT P H':=by
 rcases h with h | ⟨c',oc',vsc,tq,h1,h2,h3⟩
 ·exact .inl (s _ _ h)
 ·exact .inr ⟨c',oc',vsc,tq,s _ _ h1,s _ _ h2,h3⟩
noncomputable def Bm (mg:gA)(base:Heap):Prop:=∃ bm o,mg "__builtins__" = some (.ref bm)/\bm≠builtinsNs/\bm≠mainGlobals/\base.get? bm=some o/\o.cls = .type "module"/\o.dict=some builtinsNs/\o.data = .plain
noncomputable def MG (P c0:Addr):TE:=fun σ H Q=>LT P H/\∀ (fl c':Addr) (pm ctv:Value) (oc':Obj) (vsc:iA) (tq:Tok) (H':Hp),dM P H H'->LT P H'->H' fl=some (pinO fl (oL c0 c' pm ctv))->H' c'=some (pinO c' oc')->oc'.data = .fields vsc->vsc[1]?=some (.str qL tq)->H c0=none->H' c0=none->Q (.ref fl) H'
theorem GD {X:Cx}{c P c0:Addr}(hcl:closureFor scL X.env=pure [(("signs" : Str),c0)])(hcell:X.env.cells.lookup ("signs" : Str)=some c0)(hcode:X.env.code = .ref c)(hq:X.env.qual ++ "<lambda>" = qL)(hC:∀ h,X.K.In h->CodeHd h c P)(hB:Bm X.mg X.base):PE X (.Lambda pL bL scL xL) (MG P c0):=by
 intro pins s σ H Q I h
 obtain ⟨lt,q⟩:=h
 have hg:s.heap.Ns mainGlobals X.mg:=I.mod.glob.keeps I.bk
 have hPs:∃ ps,H P=some (.tbl ps):=by
  rcases lt with h | ⟨_,_,_,_,h,_⟩
  ·exact ⟨_,h⟩
  ·exact ⟨_,h⟩
 obtain ⟨ps,hP⟩:=hPs
 have gP:s.heap.get? P=some (tabObj ps):=I.hok P _ hP
 have nb:∀ b o,X.base.get? b=some o->b≠P:=fun b o e z=>by have:=(I.bs b o e).2;rw [z,hP] at this;cases this
 have hgP:mainGlobals≠P:=by
  obtain ⟨o,es,ep,e,_⟩:=I.mod.glob
  exact nb _ _ e
 have hb:s.heap.BuiltinsAt X.mg P:=by
  obtain ⟨bm,o,b1,b2,b3,b4,b5,b6,b7⟩:=hB
  exact ⟨bm,o,b1,b2,b3,nb _ _ b4,I.bk _ _ b4,b5,b6,b7⟩
 have n0:=I.freeC _ _ hcell
 refine kla_eval rfl ?_
 rw [hq]
 rcases lt with lt | ⟨c',oc',vsc,tq,lt,l2,l3,l4⟩
 ·rw [hP] at lt
  cases lt
  refine kla_makeFunction hcl I.ok.glob hg hcode (hC _ I.kIn) gP trivial rfl hgP hb fun c' ctv h' tk hx hge hlt hrec htb=>?_
  obtain ⟨c2,oc',vsc,tq,e2,hoc,hd,hv⟩:=hrec
  cases e2
  have I1:aO X pins σ (upd H P (.tbl (#[] ++ #[rawInt xL.line,rawInt xL.col,.ref c']))) { s with heap:=h',toks:=tk }:=I.grow hP hx htb
  have nP:P≠c':=fun z=>by
   have:=Heap.lt_size gP
   rw [z] at this
   exact Nat.lt_irrefl _ (Nat.lt_of_lt_of_le this hge)
  have nc':H c'=none:=I.hok.fresh hge
  have fc:=I.fpOk (H':=upd H P (.tbl (#[] ++ #[rawInt xL.line,rawInt xL.col,.ref c']))) hge (by rw [aC nP.symm];exact nc')
  have I2:=I1.adopt (o:=pinO c' oc') fc (vT hoc)
  have zf:s.heap.objs.size<=h'.objs.size:=Nat.le_trans hge (Nat.le_of_lt hlt)
  have I3:=I2.kept (t':=tk) fun b o e=>Heap.get?_push_of_some (oL c0 c' ((X.mg "__name__").getD .none) ctv) e
  have ff:=I2.fpOk (Nat.le_refl h'.objs.size) (I2.hok.fresh (Nat.le_refl _))
  have gf:(h'.push (oL c0 c' ((X.mg "__name__").getD .none) ctv)).get? h'.objs.size=some (oL c0 c' ((X.mg "__name__").getD .none) ctv):=Heap.get?_push_size _ rfl
  have I4:=I3.adopt (o:=pinO h'.objs.size (oL c0 c' ((X.mg "__name__").getD .none) ctv)) ff (vT gf)
  have nfc:c'≠h'.objs.size:=Nat.ne_of_lt hlt
  have nPf:P≠h'.objs.size:=fun z=>by
   have:=Heap.lt_size gP
   rw [z] at this
   exact Nat.lt_irrefl _ (Nat.lt_of_lt_of_le this zf)
  have hc'4:upd (upd (upd H P (.tbl (#[] ++ #[rawInt xL.line,rawInt xL.col,.ref c']))) c' (pinO c' oc')) h'.objs.size (pinO h'.objs.size (oL c0 c' ((X.mg "__name__").getD .none) ctv)) c'=some (pinO c' oc'):=by rw [aC nfc];exact upd_same
  have hP4:upd (upd (upd H P (.tbl (#[] ++ #[rawInt xL.line,rawInt xL.col,.ref c']))) c' (pinO c' oc')) h'.objs.size (pinO h'.objs.size (oL c0 c' ((X.mg "__name__").getD .none) ctv)) P=some (.tbl #[rawInt xL.line,rawInt xL.col,.ref c']):=by rw [aC nPf,aC nP,upd_same];rfl
  refine ⟨.ref h'.objs.size,_,I4,rfl,q _ c' _ ctv oc' vsc tq _ (fun b o nb e=>?_) (.inr ⟨c',oc',vsc,tq,hP4,hc'4,hd,hv⟩) upd_same hc'4 hd hv n0 (I4.freeC _ _ hcell)⟩
  have lb:=I.hok.lt e
  rw [aC (fun z=>by rw [z] at lb;exact Nat.lt_irrefl _ (Nat.lt_of_lt_of_le lb zf)),aC (aD e nc'),aC nb]
  exact e
 ·rw [hP] at lt
  cases lt
  have am:codeAmong xL [rawInt xL.line,rawInt xL.col,.ref c']=some (.ref c'):=by simp [codeAmong,rawInt]
  refine kla_makeFunctionHit (cv:=.ref c') hcl I.ok.glob hg hcode (hC _ I.kIn) gP trivial am hb fun ctv h' tk hk hsz=>?_
  have I3:aO X pins σ H { s with heap:=h'.push (oL c0 c' ((X.mg "__name__").getD .none) ctv),toks:=tk }:=I.kept fun b o e=>Heap.get?_push_of_some _ (hk b o e)
  have nf:=I.hok.fresh hsz
  have ff:=I.fpOk hsz nf
  have gf:(h'.push (oL c0 c' ((X.mg "__name__").getD .none) ctv)).get? h'.objs.size=some (oL c0 c' ((X.mg "__name__").getD .none) ctv):=Heap.get?_push_size _ rfl
  have I4:=I3.adopt (o:=pinO h'.objs.size (oL c0 c' ((X.mg "__name__").getD .none) ctv)) ff (vT gf)
  have sm:aG H (upd H h'.objs.size (pinO h'.objs.size (oL c0 c' ((X.mg "__name__").getD .none) ctv))):=aG.upd nf
  exact ⟨.ref h'.objs.size,_,I4,rfl,q _ c' _ ctv oc' vsc tq _ (fun b o _ e=>sm b o e) (.inr ⟨c',oc',vsc,tq,sm _ _ hP,sm _ _ l2,l3,l4⟩) upd_same (sm _ _ l2) l3 l4 n0 (I4.freeC _ _ hcell)⟩
noncomputable def tFWc (K:PySem.W.Frag)(C c0:Addr)(t:TA):TE:=fun σ H Q=>t σ H fun vs H1=>∃ g,σ[0]?=some (some (.ref g))/\∀ oc0:Obj,oc0.data = .cell (some (.ref g))->H1 c0=none->spFW K C vs (upd H1 c0 (pinO c0 oc0)) (fun v H'=>H' c0=some (pinO c0 oc0)/\Q v (del1 H' c0)) E0
theorem OD {X:Cx}{C c0:Addr}{k:Nat}{e:Expr}{es:lW}{t:TA}{p pos:Pos}(O:cH X.prog X.w X.K X.mg X.base bC k "from_within" (spFW X.K C))(hr:eI k X.A)(hg:Gl X "from_within")(hN:X.N[0]?=some ("signs" : Str))(hkind:X.env.scope.names.lookup ("signs" : Str)=some .cell)(hcell:X.env.cells.lookup ("signs" : Str)=some c0)(hfn:X.fn "signs" = true)(ha:PA X (e :: es) t)
  (he:starEach (e :: es) X.env=(false,eval e X.env) :: starEach es X.env:=by rfl) (hpl:(backTo pos (starEach es X.env)).any (·.1)=false:=by rfl):PE X (.Call (.Name "from_within" p) (e :: es) [] pos) (tFWc X.K C c0 t):=by
 obtain ⟨f,fd,ps,F,hm,hk,hb⟩:=O
 intro pins s σ H Q I h
 refine wpAny_Call_Name_kw (qI I hg hm ?_ (by decide))
 refine PySem.W.callWith_K (h₀:=X.base) I.ok.mod.kin hk (thn (ha pos pins s σ H _ I h) fun us s1 ⟨vs,H1,I1,r,q⟩=>⟨I1.kIn,?_⟩) he hpl
 obtain ⟨g,hσ,q⟩:=q
 have n0:=I1.freeC _ _ hcell
 have young:=I1.ok.cab _ _ hfn hcell
 obtain ⟨oc0,ho,hd⟩:∃ oc0,s1.heap.get? c0=some oc0/\oc0.data = .cell (some (.ref g)):=by
  obtain ⟨m,hns,hl⟩:=I1.loc
  obtain ⟨u,ru,look⟩:=hl 0 _ _ hN hσ (.inr (.inl hkind))
  cases ru
  rcases look with ⟨z,_⟩ | ⟨_,c,hc,oc0,ho,hd⟩
  ·have z':X.env.scope.names.lookup ("signs" : Str)=some .local:=z
   rw [hkind] at z'
   cases z'
  ·rw [hcell] at hc
   cases hc
   exact ⟨oc0,ho,hd⟩
 have sp:=q oc0 hd n0
 have e0:=I1.env0
 have nl:c0≠X.env.locals:=fun z=>by
  obtain ⟨m,⟨o,es',ep,e1,e2,_⟩,_⟩:=I1.loc
  rw [← z,ho] at e1
  cases e1
  rw [hd] at e2
  cases e2
 have nfs:∀ b ∈ frs X.stack,b≠c0:=fun b hb z=>by
  rcases List.mem_cons.mp (I1.stkSub b hb) with w | w
  ·exact nl (z ▸ w)
  ·obtain ⟨_,o,e1,_⟩:=I1.ok.funs.mem w
   exact Nat.lt_irrefl _ (Nat.lt_of_lt_of_le (Heap.lt_size e1) (z ▸ young))
 have hl:(us ++ []).length=ps.length:=by
  have:=F.len _ _ _ _ sp
  rw [List.append_nil,← r.length];exact this
 have ne:∀ b o,X.base.get? b=some o->b≠c0:=fun b o e z=>Nat.lt_irrefl _ (Nat.lt_of_lt_of_le (Heap.lt_size (I1.ok.bs b o e).1) (z ▸ young))
 have env:xD X.prog X.w X.K X.mg X.base X.A X.stack s1 (upd H1 c0 (pinO c0 oc0)):=⟨e0.frames,e0.mod,fun b o e=>⟨(e0.bs b o e).1,by rw [aC (ne b o e)];exact (e0.bs b o e).2⟩,e0.bsz,e0.funs,fun b z=>by rw [aC (nfs b z)];exact e0.frf b z,e0.hok.back n0 ho,e0.bare⟩
 refine wpAny_call (codeAny_mono (F.run X.A X.stack s1 _ ⟨us,[]⟩ us vs _ E0 hr env (by have:=hb s1 us I1.kIn hl;rw [List.append_nil] at this;exact this) r sp) fun res s' hq=>?_)
 cases res with
 | error x=>exact hq.elim
 | ok fl' =>
  cases fl' with
  | ret u =>
   obtain ⟨v,H',os,bare,un,hok,rv,hc0,qq⟩:=hq
   have g0:=nM hok hc0
   have nb:∀ b u,H1 b=some u->b≠c0:=fun b u e=>aD e n0
   have un2:Un (frs X.stack) [] H1 (del1 H' c0) s1.heap s'.heap:=by
    refine ⟨fun b o e n hf hx=>?_,fun b o e n hf hx=>?_,fun b o e n hx=>?_,fun b o e hx=>un.there b o e hx,fun b xs e=>?_,fun b o u' e=>?_,fun b qs e=>?_⟩
    ·by_cases z:b=c0
     ·subst z
      rw [ho] at e
      cases e
      exact g0
     ·exact un.keep b o e (by rw [aC z];exact n) hf hx
    ·exact un.slot b o e (by rw [aC (nfs b hf)];exact n) hf hx
    ·by_cases z:b=c0
     ·subst z;exact lR
     ·exact iG (un.free b o e (by rw [aC z];exact n) hx)
    ·rw [dP (nb b _ e)]
     exact un.tups b xs (by rw [aC (nb b _ e)];exact e)
    ·rw [dP (nb b _ e)]
     exact un.frzs b o u' (by rw [aC (nb b _ e)];exact e)
    ·rw [dP (nb b _ e)]
     exact un.tbls b qs (by rw [aC (nb b _ e)];exact e)
   exact ⟨v,_,I1.call' (ch:=[]) os un2 (hok.del hc0) bare (fun b z=>absurd z (by simp)),rv,qq⟩
  | next=>exact hq.elim
  | brk=>exact hq.elim
  | cont=>exact hq.elim
end Lw
namespace Lw
open PySem L2
section
variable {P:Program}{w:World}{K:PySem.W.Frag}{mg:gA}{base:Heap}
theorem K3 {x qual:Str}{st:Stmt}{f:Addr}{oc:Value}{od an:Option Addr}{osl:Array (Option Value)}{kV doc pm cdv ct:Value}{N ps:aQ}{k:Nat}{sp:Sp}(lk:K.lookup f=some ⟨oc,od,.func (PySem.W.fnOf x qual (aT st) (aN st) (aF st) .none kV doc pm an cdv ct),osl⟩)(hcd:PySem.W.codeIn K cdv qual=true)(S:aY N ps (aF st))(len:∀ vs H Q E,sp vs H Q E->vs.length=ps.length)
  (hbody:∀ (A:Around) (outer:List Env) (s:Shared) (H:Hp) (vs:List V) (Q:VK) (E:XK),eI k (A.deeper (PyProof.Rows.envOfC qual (aF st) s.heap.objs.size f cdv))->sp vs H Q E ->
   ∃ t,C0 (cxOf bC P w K mg base N qual (aF st) f cdv A outer s H E).nox (aN st) t/\t { nx:=fun _ H'=>Q .non H',rt:=Q } (start N vs) H):bR P w K mg base bC (k + 1) f (PySem.W.fnOf x qual (aT st) (aN st) (aF st) .none kV doc pm an cdv ct) ps sp:=by
 refine LY lk hcd S len fun A outer s H vs Q E hr hsp=>?_
 obtain ⟨t,h,q⟩:=hbody A outer s H vs Q E hr hsp
 exact ⟨t,h.nox,q⟩
mutual
theorem bB.but {H H':Hp}{p:Addr}(b:dM p H H')(n1:∀ xs,H p≠some (.tup xs))(n2:∀ xs,H p≠some (.lst xs)):∀ {d:D} {v:V},bB H d v->bB H' d v
 | .non,v,h | .bl _,v,h | .int _,v,h | .str _,v,h=>h
 | .tup ds,v,⟨a,vs,h1,h2,h3⟩=>⟨a,vs,h1,b a _ (fun z=>n1 vs (z ▸ h2)) h2,Reps.but b n1 n2 h3⟩
 | .lst ds,v,⟨a,vs,h1,h2,h3⟩=>⟨a,vs,h1,b a _ (fun z=>n2 vs (z ▸ h2)) h2,Reps.but b n1 n2 h3⟩
theorem Reps.but {H H':Hp}{p:Addr}(b:dM p H H')(n1:∀ xs,H p≠some (.tup xs))(n2:∀ xs,H p≠some (.lst xs)):∀ {ds:List D} {vs:List V},Reps H ds vs->Reps H' ds vs
 | [],vs,h=>h
 | d :: ds,vs,⟨v,r,h1,h2,h3⟩=>⟨v,r,h1,bB.but b n1 n2 h2,Reps.but b n1 n2 h3⟩
end
theorem LT.tbl {Pt:Addr}{H:Hp}(h:LT Pt H):∃ ps,H Pt=some (.tbl ps):=by
 rcases h with h | ⟨_,_,_,_,h,_⟩
 ·exact ⟨_,h⟩
 ·exact ⟨_,h⟩
theorem LT.rep {Pt:Addr}{H H':Hp}(h:LT Pt H)(b:dM Pt H H'){d:D}{v:V}(r:bB H d v):bB H' d v:=by
 obtain ⟨ps,e⟩:=h.tbl
 exact bB.but b (fun xs z=>by rw [e] at z;cases z) (fun xs z=>by rw [e] at z;cases z) r
theorem LT.ne {Pt:Addr}{H:Hp}(h:LT Pt H){a:Addr}{o:HO}(e:H a=some o)(n:∀ ps,o≠.tbl ps):a≠Pt:=fun z=>by
 obtain ⟨ps,e2⟩:=h.tbl
 rw [z,e2] at e
 cases e
 exact n _ rfl
theorem LT.sg {Pt C g:Addr}{fx:cQ}{sm:bY}{H H':Hp}(h:LT Pt H)(b:dM Pt H H')(s:iO K C fx sm H g):iO K C fx sm H' g:=by
 obtain ⟨a1,a2,a3,dx,fs,dm,dn,h1,h2,h3,h4,h5,h6,h7⟩:=s
 exact ⟨a1,a2,a3,dx,fs,dm,dn,b _ _ (h.ne h1 fun _=>by simp) h1,h2,h3,h4,h5,b _ _ (h.ne h6 fun _=>by simp) h6,b _ _ (h.ne h7 fun _=>by simp) h7⟩
noncomputable def vG (K:PySem.W.Frag)(C Pt:Addr):Sp:=fun vs H Q _=>∃ (fi g:Addr) (fx:cQ) (sm:bY) (d:D) (v:V),vs=[.ref g,.ref fi,v]/\H fi=some (.dK [])/\iO K C fx sm H g/\bB H d v/\Tm d/\(∀ r ∈ sm,r.2=("" : Str)∨Fl (.str r.2))/\sz d<=60/\nds d<=1000/\depD d<=50/\LT Pt H /\
 ∀ (v':V) (H':Hp),dM Pt H H'->LT Pt H'->bB H' (flt sm d) v'->Q v' H'
theorem GQ {f C c Pt:Addr}{oc:Value}{od an:Option Addr}{osl:Array (Option Value)}{kV doc pm ct:Value}(lk:K.lookup f=some ⟨oc,od,.func (PySem.W.fnOf "put_in" "put_in" (aT cP) (aN cP) (aF cP) .none kV doc pm an (.ref c) ct),osl⟩)(hcd:PySem.W.codeIn K (.ref c) "put_in" = true)
  (hC:∀ h,K.In h->PySem.W.CodeHd h c Pt) (hB:Bm mg base) (O_from_within:cH P w K mg base bC 8 "from_within" (spFW K C)):bR P w K mg base bC 9 f (PySem.W.fnOf "put_in" "put_in" (aT cP) (aN cP) (aF cP) .none kV doc pm an (.ref c) ct) sD (vG K C Pt):=by
 refine K3 lk hcd DK (fun vs H Q E h=>?_) (fun A outer s H vs Q E hr h=>?_)
 ·obtain ⟨fi,g,fx,sm,d,v,rfl,_⟩:=h
  rfl
 ·obtain ⟨fi,g,fx,sm,d,v,rfl,hfi,sg,rep,tm,hz,s60,n1000,d50,lt,q⟩:=h
  refine ⟨_,(aH (aP (OD O_from_within (hr.mono (by decide)) rfl rfl rfl rfl rfl (aA (pv 2) (aA (pv 1) (aA (GD rfl rfl rfl rfl hC hB) aB)))))),?_⟩
  refine ⟨_,rfl,_,rfl,lt,fun fl c' pm ctv oc' vsc tq H' bt lt' hfl hc' hcd hv n0 n0'=>⟨g,rfl,fun oc0 hd0 _=>?_⟩⟩
  have su:aG H' (upd H' (s.heap.objs.size + 1) (pinO (s.heap.objs.size + 1) oc0)):=aG.upd n0'
  refine ⟨fi,fl,s.heap.objs.size + 1,g,fx,sm,d,v,rfl,su _ _ (bt _ _ (lt.ne hfi fun _=>by simp) hfi),⟨c',pm,ctv,oc0,oc',vsc,tq,su _ _ hfl,upd_same,hd0,su _ _ hc',hcd,hv⟩,(lt.sg bt sg).same su,bB.same su (lt.rep bt rep),tm,hz,s60,n1000,d50,fun v' H2 s2 r2=>⟨s2 _ _ upd_same,?_⟩⟩
  have sd:aG H' (del1 H2 (s.heap.objs.size + 1)):=fun b o e=>by
   rw [dP (aD e n0')]
   exact s2 _ _ (su _ _ e)
  exact q v' _ (fun b o nb e=>sd _ _ (bt b o nb e)) (lt'.same sd) (bB.del1 (s2 _ _ upd_same) r2)
end
section
variable {P:Program}{w:World}{K:PySem.W.Frag}{mg:gA}{base:Heap}
structure IR (fx:cQ)(sm:bY)(os:aQ)(d:D):Prop where
 so:dJ fx sm
 ho:∀ x ∈ os,eQ x
 tm:bM fx sm os d
 lv:lvs d<=50
 nd:nds d<=1000
 dp:depD d<=50
noncomputable def vK (K:PySem.W.Frag)(C Pt:Addr):Sp:=fun vs H Q _=>∃ (g:Addr) (fx:cQ) (sm:bY) (os:aQ) (d:D) (v:V),vs=[.ref g,v]/\iO K C fx sm H g/\bB H d v/\IR fx sm os d/\LT Pt H /\
 ∀ (v':V) (H':Hp),dM Pt H H'->LT Pt H'->bB H' (flt sm d) v'->Q v' H'
theorem GV {f C Pt:Addr}{fd:FuncData}(F:gY K "flat" "flat" mK f fd)(T:iH mg)(O_check_term:cH P w K mg base bC 3 "check_term" (nF K C))(O_put_in:cH P w K mg base bC 9 "put_in" (vG K C Pt)):bR P w K mg base bC 10 f fd BG (vK K C Pt):=by
 refine F.ok JF (fun vs H Q E h=>?_) (fun cdv A outer s H vs Q E hr h=>?_)
 ·obtain ⟨g,fx,sm,os,d,v,rfl,_⟩:=h
  rfl
 ·obtain ⟨g,fx,sm,os,d,v,rfl,sg,rep,tr,lt,q⟩:=h
  have hu:=hr.units
  refine ⟨_,(aE (cW (aM O_check_term (hr.mono (by decide)) pass0 rfl (aA (pv 0) (aA (pv 1) aB))))
   (aH (aP (aM O_put_in (hr.mono (by decide)) pass0 rfl (aA (pv 0) (@JZ _ _ _ _ (aA (pv 1) aB))))))),?_⟩
  simp only [IN]
  clear hr F T hu O_check_term O_put_in
  have keep:=aI q (aI sg (aI rep (aI tr lt)))
  clear q sg rep tr lt
  walk_at "rd"
  obtain ⟨q,sg,rep,tr,lt⟩:=keep
  obtain ⟨tm0,esz⟩:=xH tr.so tr.ho tr.tm
  have l1:=tr.lv
  have d1:=tr.dp
  refine ⟨g,fx,sm,os,d,v,rfl,sg,tr.so,tr.ho,rep,tr.tm,by omega,by omega,tr.nd,fun H1 s1 fi hfi=>?_⟩
  have s2:=s1.trans (aG.upd (o:=.dK []) hfi)
  exact ⟨fi,g,fx,sm,d,v,rfl,upd_same,sg.same s2,bB.same s2 rep,tm0,jY tr.so,by omega,tr.nd,d1,lt.same s2,fun v' H' b l r=>q v' H' (fun a o na e=>b a o na (s2 _ _ e)) l r⟩
end
end Lw
namespace L2
open PySem PySem.Spec PyProof.Rows
noncomputable def xB (vs:bP)(ks:List fZ):Prop:=ks.length=vs.length/\∀ (i:Nat) (k:fZ) (v:Value),ks[i]?=some k->vs[i]?=some v->keyIs k v=true/\v.scannable=true
noncomputable def IP (P:Program)(w:World)(h:Heap)(S:Addr)(ks:List fZ)(i:Nat):Prop:=h.SetOf (cJ P w) S (fun k=>(ks.take i).any fun x=>decide (x=k)) i
theorem IP.at {P:Program}{w:World}{h h':Heap}{S:Addr}{ks:List fZ}{i:Nat}(x:IP P w h S ks i)(k:∀ o,h.get? S=some o->h'.get? S=some o):IP P w h' S ks i:=by
 obtain ⟨o,es,ep,t,e,r⟩:=x
 exact ⟨o,es,ep,t,k _ e,r⟩
local macro_rules | `(tactic| walk_at "sd_on")=>`(tactic| (repeat (any_goals (first | assumption | wp_step))))
section
variable {P:Program}{w:World}{A:Around}
theorem B9 {I S:Addr}{R:Result->Shared->Prop}{s:Shared}(h:wpAny (model P w) A.in1 (Builtin.«set.update.loop» ⟨[.ref S,.ref I],[]⟩) (fun y s'=>match y with | .done f=>R (.ok f) s' | .again c=>c.quiet=true/\codeAny (model P w) A c R s') (fun e s'=>R (.error e) s') s):codeAny (model P w) A (.builtin "set.update.loop" ⟨[.ref S,.ref I],[]⟩) R s :=
 codeAny_builtin F.entry_set_update_loop (by rw [Around.under_plainId F.plain_set_update_loop _];exact h)
theorem FS {l I S:Addr}{items:bP}{ks:List fZ}(hh:A.handled=none)(kk:xB items ks)(nd:ks.Nodup)(hb:items.length + 1 < scanBound)(n1:S≠I)(n2:l≠I)(n3:l≠S){R:Result->Shared->Prop} :
  ∀ (j i:Nat) (s:Shared),i + j=items.length->s.heap.IsListIter I l i->s.heap.IsList l items.toArray->IP P w s.heap S ks i ->
   (∀ h' tk,IP P w h' S ks items.length->(∀ b o,b≠S->b≠I->s.heap.get? b=some o->h'.get? b=some o)->R (.ok (.ret .none)) { s with heap:=h',toks:=tk }) ->
   codeAny (model P w) A (.builtin "set.update.loop" ⟨[.ref S,.ref I],[]⟩) R s:=by
 intro j
 induction j with
 | zero =>
  intro i s e it hl hS hR
  rw [Nat.add_zero] at e
  subst e
  refine B9 ?_
  refine wpAny_bind (wpAny_pyNext_list_end (A:=A.in1) hh it hl (by simp) fun h' eb=>?_)
  exact wpAny_pure (hR h' s.toks (hS.at fun o z=>eb _ _ n1 z) fun b o _ hI z=>eb b o hI z)
 | succ j ih =>
  intro i s e it hl hS hR
  have hi:i < items.length:=by omega
  have hk:i < ks.length:=by rw [kk.1];exact hi
  obtain ⟨is,sc⟩:=kk.2 i ks[i] items[i] (List.getElem?_eq_getElem hk) (List.getElem?_eq_getElem hi)
  refine B9 ?_
  refine wpAny_bind (wpAny_pyNext_list_item (A:=A.in1) (x:=items[i]) it hl (by simp [hi]) fun h1 it1 sb1=>?_)
  have hS1:IP P w h1 S ks i:=hS.at fun o z=>(sb1.2 S n1).trans z
  show wpAny _ A.in1 (holding [items[i]] (setAdd S items[i]) >>= _) _ _ { s with heap:=h1 }
  refine wpAny_bind (wpAny_holding (show wpAny _ _ (setAdd S items[i]) _ _ _ from ?_))
  unfold setAdd
  refine wpAny_holding (wpAny_bind ((cJ P w).pyHash (k:=ks[i]) is ?_))
  refine wpAny_setAddHashed_of (knd:=cJ P w) (s:={ s with heap:=h1,toks:=s.toks + 1 }) is sc hS1 (by omega) fun h2 sb2 hS2=>?_
  have new:((ks.take i).any fun x=>decide (x=ks[i]))=false:=by
   rw [List.any_eq_false]
   intro x hx z
   have z:=of_decide_eq_true z
   obtain ⟨m,hm,em⟩:=List.mem_iff_getElem.mp hx
   rw [z] at em
   rw [List.length_take] at hm
   rw [List.getElem_take] at em
   have:=(List.getElem_inj nd).mp em
   omega
  rw [new] at hS2
  have fe:(fun k'=>((ks.take i).any fun x=>decide (x=k')) || decide (k'=ks[i]))=fun k=>(ks.take (i + 1)).any fun x=>decide (x=k):=by
   funext k
   rw [List.take_succ_eq_append_getElem hk,List.any_append,List.any_cons,List.any_nil,Bool.or_false]
   congr 1
   exact decide_eq_decide.mpr eq_comm
  rw [fe] at hS2
  have hS3:IP P w h2 S ks (i + 1):=hS2
  refine wpAny_pure ⟨plainId_quiet F.plain_set_update_loop _,ih (i + 1) { s with heap:=h2,toks:=s.toks + 1 } (by omega) ?_ ?_ hS3 fun h' tk hS' kp=>?_⟩
  ·obtain ⟨o,z1,z2⟩:=it1
   exact ⟨o,(sb2.2 I n1.symm).trans z1,z2⟩
  ·obtain ⟨o,z1,z2⟩:=hl
   exact ⟨o,(sb2.2 l n3).trans ((sb1.2 l n2).trans z1),z2⟩
  ·exact hR h' tk hS' fun b o bS bI z=>kp b o bS bI ((sb2.2 b bS).trans ((sb1.2 b bI).trans z))
theorem ER {E:bX}{s:Shared}{l:Addr}{items:bP}{ks:List fZ}{Q:bX}(hh:A.handled=none)(hl:s.heap.IsList l items.toArray)(kk:xB items ks)(nd:ks.Nodup)(hb:items.length + 1 < scanBound)
  (h:∀ (h':Heap) (tk:Nat),IP P w h' s.heap.objs.size ks items.length->(∀ b o,s.heap.get? b=some o->h'.get? b=some o)->Q (.ref s.heap.objs.size) { s with heap:=h',toks:=tk }) :
  wpAny (model P w) A (call (.type "set") [.ref l]) Q E s:=by
 obtain ⟨c,tl,m0⟩:=F.called_set.mro
 have m1:=F.called_set.made
 have m2:=F.called_set.sub
 refine wpAny_call (codeAny_of_tree (wpAny_pure ⟨Code.quiet_builtin _ (by decide +kernel),codeAny_builtin F.entry_type_call ?_⟩))
 have wt:=weight_type_call_type "set" [.ref l] []
 rw [Around.under_plain wt rfl]
 have m3:=F.called_set.notType
 have m4:=F.called_set.canCreate
 have m5:=F.typeCall_set_1 (.ref l)
 walk_at "sd_on"
 refine codeAny_mono (code_set_new_1 (.ref l) (E:=E) (Q₁:=fun obj s1=>∃ led:Bool,obj = .ref s.heap.objs.size/\s1={ s with heap:=s.heap.push { cls:=.type "set",dict:=none,data:=.set #[] 0 (.fresh 0 0 led) } }) fun led=>⟨led,rfl,rfl⟩) fun r s1 hr=>?_
 cases r with
 | error e=>exact hr
 | ok fl =>
  cases fl with
  | next=>exact hr.elim
  | brk=>exact hr.elim
  | cont=>exact hr.elim
  | ret obj =>
   obtain ⟨led,rfl,rfl⟩:=hr
   have gS:(s.heap.push { cls:=.type "set",dict:=none,data:=.set #[] 0 (.fresh 0 0 led) }).get? s.heap.objs.size=some { cls:=.type "set",dict:=none,data:=.set #[] 0 (.fresh 0 0 led) }:=Heap.get?_push_size _ rfl
   have tS:Shared.TypeIs { s with heap:=s.heap.push { cls:=.type "set",dict:=none,data:=.set #[] 0 (.fresh 0 0 led) } } (.ref s.heap.objs.size) "set":=⟨_,gS,rfl⟩
   have i1:=F.called_set.init.lookup
   have i2:=F.called_set.init.bind (.ref s.heap.objs.size)
   walk_at "sd_on"
   refine codeAny_mono (codeAny_call_builtin (R:=wants (fun r s2=>r = .none/\∃ h' tk,s2={ s with heap:=h',toks:=tk }/\IP P w h' s.heap.objs.size ks items.length/\∀ b o,s.heap.get? b=some o->h'.get? b=some o) E) F.called_set.init.plain F.entry_set_init (check_set_init_1 tS ?_)) fun r2 s2 hr2=>?_
   ·obtain ⟨⟨c1,d1,t1,sl1⟩,ho,hc1,n1,hd1⟩:=id hl
    simp only at hc1 hd1
    subst hc1 hd1
    have ho':=Heap.get?_push_of_some { cls:=.type "set",dict:=none,data:=.set #[] 0 (.fresh 0 0 led) } ho
    have j1:=F.sub_list_set
    have j2:=F.sub_list_frozenset
    have j3:(Value.type "list" == Value.type "dict")=false:=by decide
    have hl':(s.heap.push { cls:=.type "set",dict:=none,data:=.set #[] 0 (.fresh 0 0 led) }).IsList l items.toArray:=⟨_,ho',rfl,n1,rfl⟩
    unfold Builtin.«set.__init__» Builtin.Frozenset.updateFrom noKeywords;generalize hPI:pyIter=PI
    wp_walk
    subst hPI
    refine wpAny_pyIter_list hl' (wpAny_bind (wpAny_runValue ?_))
    have lt:=Heap.lt_size ho
    have z1:(s.heap.push { cls:=.type "set",dict:=none,data:=.set #[] 0 (.fresh 0 0 led) }).objs.size=s.heap.objs.size + 1:=Heap.size_push _ _
    refine FS (P:=P) (w:=w) (items:=items) (ks:=ks) (l:=l) (by simp [hh]) kk nd hb (by rw [z1];exact Nat.ne_of_lt (Nat.lt_succ_self _)) (by rw [z1];exact Nat.ne_of_lt (Nat.lt_succ_of_lt lt)) (Nat.ne_of_lt lt) items.length 0 _ (Nat.zero_add _) ⟨_,Heap.get?_push_size _ rfl,rfl,rfl⟩ (hl'.push _) ?_ fun h' tk hS' kp=>?_
    ·have g2:=Heap.get?_push_of_some { cls:=.type "list_iterator",data:=.fields #[.ref l,.int 0 0] } gS
     refine ⟨_,#[],0,.fresh 0 0 led,g2,⟨rfl,rfl,rfl⟩,rfl,(fun e he=>absurd he (by simp)),fun k=>?_,(by show 0 < scanBound;omega),(by cases led <;> decide),rfl⟩
     simp
    ·refine wpAny_pure (wpAny_pure ⟨rfl,h',tk,rfl,hS',fun b o e=>kp b o (Nat.ne_of_lt (Heap.lt_size e)) (by rw [z1];exact Nat.ne_of_lt (Nat.lt_succ_of_lt (Heap.lt_size e))) (Heap.get?_push_of_some _ (Heap.get?_push_of_some _ e))⟩)
   ·cases r2 with
    | error e=>exact hr2
    | ok f2 =>
     cases f2 with
     | next=>exact hr2.elim
     | brk=>exact hr2.elim
     | cont=>exact hr2.elim
     | ret r =>
      obtain ⟨rfl,h',tk,rfl,hS',hk'⟩:=hr2
      walk_at "sd_on"
      exact h _ _ hS' hk'
end
noncomputable abbrev zA (P:Program)(w:World)(a:Addr)(n:Nat):HO:=.ext fun h=>∃ ks,IP P w h a ks n
theorem JE {P:Program}{w:World}{H:Hp}{h:Heap}{a:Addr}{n:Nat}{ks:List fZ}(x:IP P w h a ks n):cE P w H h a (zA P w a n):=by
 refine ⟨⟨ks,x⟩,?_,fun h1 h2 ⟨ks',y⟩ k=>⟨ks',y.at fun o e=>k o e⟩⟩
 obtain ⟨o,_,_,_,e,_⟩:=x
 exact ⟨o,e⟩
theorem AX:∀ {ss:aQ} {us:bP},aU (ss.map V.str) us->xB us (ss.map Sum.inr):=by
 intro ss us h
 refine ⟨by rw [List.length_map,← h.length,List.length_map],fun i k v hk hv=>?_⟩
 rw [List.getElem?_map] at hk
 cases hs:ss[i]? with
 | none=>rw [hs] at hk;cases hk
 | some x =>
  rw [hs] at hk
  cases hk
  obtain ⟨u,hu,ru⟩:=h.get (i:=i) (x:=.str x) (by rw [List.getElem?_map,hs];rfl)
  rw [hv] at hu
  cases hu
  obtain ⟨t,rfl⟩:=ru
  exact ⟨uE x t,rfl⟩
section
variable {X:Cx}
noncomputable def rSetT (P:Program)(w:World):List V->Hp->VK->Prop:=fun xs H Q=>∃ (l:Addr) (ss:aQ),xs=[.ref l]/\H l=some (.lst (ss.map V.str))/\ss.Nodup/\ss.length<=100/\∀ p,H p=none->Q (.ref p) (upd H p (zA P w p ss.length))
theorem uQ (hc:X.calm=true):cR X (.type "set") (rSetT X.prog X.w):=by
 intro pins s σ H xs us Q I rv h
 obtain ⟨l,ss,rfl,hl,nd,le,q⟩:=h
 obtain ⟨u,rfl,ru⟩:=aU.one rv
 cases ru
 obtain ⟨its,r,pl,hz⟩:=I.list (eA.of hl)
 have len:its.length=ss.length:=by rw [← r.length,List.length_map]
 refine ER (P:=X.prog) (w:=X.w) (I.ok.hd hc) pl.isList (AX r) ((List.pairwise_map.mpr (nd.imp fun h e=>h (Sum.inr.inj e)))) (by rw [len];exact Nat.lt_of_le_of_lt (Nat.succ_le_succ le) (by decide)) fun h' tk hS kp=>?_
 have n0:H s.heap.objs.size=none:=I.hok.fresh (Nat.le_refl _)
 rw [len] at hS
 exact ⟨.ref s.heap.objs.size,_,I.laid (t':=tk) (o:=zA X.prog X.w s.heap.objs.size ss.length) kp (Nat.le_refl _) (JE hS),rfl,q _ n0⟩
noncomputable def rLenS (P:Program)(w:World):List V->Hp->VK->Prop:=fun xs H Q=>∃ (a:Addr) (n:Nat),xs=[.ref a]/\H a=some (zA P w a n)/\Q (.int n) H
theorem uS:cR X (.builtin "len") (rLenS X.prog X.w):=by
 intro pins s σ H xs us Q I rv h
 obtain ⟨a,n,rfl,ha,q⟩:=h
 obtain ⟨u,rfl,ru⟩:=aU.one rv
 cases ru
 obtain ⟨⟨ks,o,es,ep,t,ho,hex,hd,_,_,hb,hf,hn⟩,_⟩:=I.hok a _ ha
 have b1:es.size < 4096:=hb
 refine call_len_set ho hex hd hf (by omega) ?_
 rw [hn]
 exact ⟨.int n,H,I.tok _,⟨_,rfl⟩,q⟩
end
end L2
namespace Lw
open PySem L2
section
variable {P:Program}{w:World}{K:PySem.W.Frag}{mg:gA}{base:Heap}
theorem D6 {c:Nat}(h:97<=c/\c<=122):inTx "abcdefghijklmnopqrstuvwxyz" c=true:=by
 have a:∀ j:Fin 26,inTx "abcdefghijklmnopqrstuvwxyz" (97 + j.1)=true:=by decide +kernel
 have:=a ⟨c - 97,by omega⟩
 rw [show 97 + (c - 97)=c by omega] at this
 exact this
noncomputable def zP:Sp:=fun vs H Q _=>∃ x:Str,vs=[.str x]/\hV x/\∀ H',aG H H'->Q (.bl true) H'
theorem KH {f:Addr}{fd:FuncData}(F:gY K "is_name" "is_name" fJ f fd)(T:iH mg):bR P w K mg base bC 1 f fd pK zP:=by
 refine F.ok zY (fun vs H Q E h=>?_) (fun cdv A outer s H vs Q E hr h=>?_)
 ·obtain ⟨x,rfl,_⟩:=h
  rfl
 ·obtain ⟨x,rfl,hx,q⟩:=h
  have hu:=hr.units
  refine ⟨_,(aE (bK (PW.pt (iL (cL (aR K rfl (aK aL rfl T.n_isinstance rfl (aA (pv 0) (aA (bH (v:=V.ty "str") rfl T.n_str rfl rfl) aB))) (fun _=>rfl))) (gF (cL (jN kM kM aJ (aK bD rfl T.n_len rfl (aA (pv 0) aB)) (eP T.c_LONGEST_NAME rfl)))))) (aH (aP mB)) aW)
   (aH (aP (aK (lT rfl) rfl T.n_all rfl (aA (fA rfl (bG.by (N:=pM) (names:=(aF fJ).names) (N':=["sign"]) (src:=[none]) (by decide +kernel) rfl rfl) (AA (pv 0)) (fun _ _ _ _=>(bJ (i:=0) (show List.Nodup (["sign"]:aQ) by decide +kernel) rfl (Or.inl rfl))) (fun _ _ _ _=>eT) (fun _ _ _ _=>(dH lM (pv 0) (eP T.c_LETTERS rfl) (by with_unfolding_all rfl)))) aB))))),?_⟩
  simp only [pM]
  clear hr F T hu
  have keep:=aI q hx
  clear q hx
  walk_at "rd"
  obtain ⟨q,h1,h2,h3⟩:=keep
  have hz:x.length<=sizeLine:=Nat.le_trans (m:=6) (by rw [Array.length_toList] at h2;exact h2) (by decide)
  have el:x.cps.toList.length=x.length:=by rw [Array.length_toList];rfl
  refine ⟨true,rfl,?_⟩
  rw [if_neg (by decide)]
  refine ⟨.int x.length,by rw [yI hz];rfl,_,rfl,?_⟩
  rw [if_pos (by omega)]
  refine ⟨_,rfl,?_⟩
  rw [if_neg (by omega)]
  refine ⟨_,rfl,x,rfl,?_,?_⟩
  ·rw [Array.all_eq_true_iff_forall_mem]
   intro c hc
   have:=h3 c (by simpa using hc)
   simp only [decide_eq_true_eq]
   omega
  ·refine uN (fun i acc σ H'=>H'=H/\acc=(List.replicate i true).map V.bl/\i<=6/\∃ o:Option V,σ=[o]) ⟨rfl,rfl,by decide,none,rfl⟩ ?_ ?_
   ·rintro i c acc σ H' hc ⟨rfl,rfl,hi,o,rfl⟩
    have hm:c ∈ x.cps.toList:=by
     have:x.cps.toList[i]?=some c:=by rw [Array.getElem?_toList];exact hc
     exact List.mem_of_getElem? this
    have hi':i < x.cps.size:=(Array.getElem?_eq_some_iff.mp hc).1
    refine ⟨_,rfl,_,rfl,_,rfl,?_⟩
    have e:=D6 (h3 c hm)
    unfold inTx at e
    dsimp only
    refine ⟨Nat.lt_of_le_of_lt (m:=100) (by simp;omega) (by decide),rfl,?_,by rw [Array.length_toList] at h2;omega,_,rfl⟩
    rw [e,List.replicate_succ',List.map_append]
    rfl
   ·rintro acc σ H' ⟨rfl,rfl,hi,o,rfl⟩ p hp
    refine ⟨p,rfl,List.replicate _ true,upd_same,?_⟩
    have:(List.replicate x.cps.size true).all id=true:=by simp
    rw [this]
    exact q _ (aG.upd hp)
noncomputable def vE:Sp:=fun vs H Q _=>∃ i:Int,vs=[.int i]/\Q (.bl true) H
theorem GO {f:Addr}{fd:FuncData}(F:gY K "is_whole" "is_whole" fB f fd)(T:iH mg):bR P w K mg base bC 1 f fd mS vE:=by
 refine F.ok xO (fun vs H Q E h=>?_) (fun cdv A outer s H vs Q E hr h=>?_)
 ·obtain ⟨x,rfl,_⟩:=h
  rfl
 ·obtain ⟨i,rfl,q⟩:=h
  refine ⟨_,(aH (aP (AF (aK aL rfl T.n_isinstance rfl (aA (pv 0) (aA (bH (v:=V.ty "int") rfl T.n_int rfl rfl) aB))) (vW (MR (aK aL rfl T.n_isinstance rfl (aA (pv 0) (aA (bH (v:=V.ty "bool") rfl T.n_bool rfl rfl) aB)))))))),?_⟩
  simp only [sK]
  clear hr F T
  walk_at "rd"
noncomputable def lV (H:Hp)(ws:List V):Prop:=∀ v ∈ ws,∃ t x y,v = .ref t/\H t=some (.tup [x,y])
theorem lV.same {H H':Hp}{ws:List V}(h:lV H ws)(s:aG H H'):lV H' ws:=fun v hv=>by
 obtain ⟨t,x,y,e,h⟩:=h v hv
 exact ⟨t,x,y,e,s _ _ h⟩
noncomputable def vI:Sp:=fun vs H Q _=>∃ (a:Addr) (lo hi:Int) (ws:List V),vs=[.ref a,.int lo,.int hi]/\H a=some (.lst ws)/\lV H ws/\lo<=ws.length/\(ws.length:Int)<=hi/\ws.length<=100/\∀ l H',aG H H'->H l=none->H' l=some (.lst ws)->Q (.ref l) H'
noncomputable def P2 (a:Addr)(lo hi:Int)(H:Hp)(i:Nat)(σ:St)(H2:Hp):Prop:=∃ o:Option V,σ=[some (.ref a),some (.int lo),some (.int hi),o]/\aG H H2
noncomputable def P3 (ws:List V)(H:Hp)(i:Nat)(acc:List V)(σ:St)(H2:Hp):Prop:=∃ o:Option V,σ=[o]/\aG H H2/\acc=ws.take i
theorem GS {f:Addr}{fd:FuncData}(F:gY K "checked_pairs" "checked_pairs" cA f fd)(T:iH mg):bR P w K mg base bC 1 f fd g9 vI:=by
 refine F.ok jM (fun vs H Q E h=>?_) (fun cdv A outer s H vs Q E hr h=>?_)
 ·obtain ⟨a,lo,hi,ws,rfl,_⟩:=h
  rfl
 ·obtain ⟨a,lo,hi,ws,rfl,ha,pr,h1,h2,h3,q⟩:=h
  have hu:=hr.units
  refine ⟨_,(aE (bK (PW.pt (iL (cL (aR K rfl (aK aL rfl T.n_isinstance rfl (aA (pv 0) (aA (fW (aA (bH (v:=V.ty "list") rfl T.n_list rfl rfl) (aA (bH (v:=V.ty "tuple") rfl T.n_tuple rfl rfl) aB))) aB))) (fun _=>rfl))) (gF (cL (jN kM kM (pv 1) (aK bD rfl T.n_len rfl (aA (pv 0) aB)) (pv 2)))))) (aH fV) aW)
   (aE (eY PassesOwn.never rfl (cX K rfl (pv 0)) (bJ (i:=3) jM.nd rfl (Or.inl rfl)) (aH (bK (PW.pt (iL (cL (aR K rfl (aK aL rfl T.n_isinstance rfl (aA (pv 3) (aA (fW (aA (bH (v:=V.ty "list") rfl T.n_list rfl rfl) (aA (bH (v:=V.ty "tuple") rfl T.n_tuple rfl rfl) aB))) aB))) (fun _=>rfl))) (gF (a0 (fG hu) (aK bD rfl T.n_len rfl (aA (pv 3) aB)) aJ (nomark _))))) (aH fV) aW)))
   (aH (aP (fA rfl (bG.by (N:=hW) (names:=(aF cA).names) (N':=["pair"]) (src:=[none]) (by decide +kernel) rfl rfl) (cX K rfl (pv 0)) (fun _ _ _ _=>(bJ (i:=0) (show List.Nodup (["pair"]:aQ) by decide +kernel) rfl (Or.inl rfl))) (fun _ _ _ _=>eT) (fun _ _ _ _=>(bZ fM rfl T.n_tuple rfl (aA (pv 0) aB)))))))),?_⟩
  simp only [hW]
  clear hr F T hu
  have keep:=aI q (aI ha (aI pr (aI h1 (aI h2 h3))))
  clear q ha pr h1 h2 h3
  walk_at "rd"
  obtain ⟨q,ha,pr,h1,h2,h3⟩:=keep
  refine ⟨by decide,fun p hp=>?_⟩
  have s1:aG H (upd H p (.tup [.ty "list",.ty "tuple"])):=aG.upd hp
  have hp1:upd H p (.tup [.ty "list",.ty "tuple"]) p=some (.tup [.ty "list",.ty "tuple"]):=upd_same
  generalize upd H p (.tup [.ty "list",.ty "tuple"])=H1 at s1 hp1 ⊢
  have ha1:=s1 _ _ ha
  refine ⟨true,HE ha1 hp1,?_⟩
  rw [if_neg (by decide)]
  refine ⟨.int ws.length,by rw [lenV_l ha1];rfl,_,rfl,?_⟩
  rw [if_pos h1]
  refine ⟨_,rfl,?_⟩
  rw [if_neg (by omega)]
  refine ⟨ws,.inl ha1,fun J hJ=>?_⟩
  refine iY hJ (P2 a lo hi H1) ⟨none,rfl,aG.refl _⟩ (by rintro i σ H' _ ⟨_,_,s2⟩;rw [ha1,s2 _ _ ha1]) ?_ ?_
  ·rintro i x σ H2 hx ⟨o,rfl,s2⟩
   obtain ⟨t,y,z,rfl,ht⟩:=pr x (List.mem_of_getElem? hx)
   have ht2:=s2 _ _ (s1 _ _ ht)
   have keep:=aI q (aI ha (aI pr (aI s2 (aI ht2 s1))))
   clear q ha pr s2 ht2 ht ha1 hp1 h1 h2 h3 hJ hx s1 hp
   walk_at "rd"
   obtain ⟨q,ha,pr,s2,ht2,s1⟩:=keep
   refine ⟨by decide,fun p3 hp3=>?_⟩
   have s3:aG H2 (upd H2 p3 (.tup [.ty "list",.ty "tuple"])):=aG.upd hp3
   have hp33:upd H2 p3 (.tup [.ty "list",.ty "tuple"]) p3=some (.tup [.ty "list",.ty "tuple"]):=upd_same
   generalize upd H2 p3 (.tup [.ty "list",.ty "tuple"])=H3 at s3 hp33 ⊢
   have ht3:=s3 _ _ ht2
   refine ⟨true,HD ht3 hp33,?_⟩
   rw [if_neg (by decide)]
   refine ⟨.int 2,by rw [lenV_t ht3];rfl,?_⟩
   rw [rNeD_ii]
   refine ⟨_,rfl,?_⟩
   rw [if_neg (by decide)]
   exact ⟨_,rfl,s2.trans s3⟩
  ·rintro σ H2 ⟨o,rfl,s2⟩
   have ha2:=s2 _ _ ha1
   refine ⟨_,rfl,a,ws,rfl,.inl ha2,fun J2 hJ2=>?_⟩
   refine dC hJ2 (P3 ws H2) ⟨none,rfl,aG.refl _,rfl⟩ (by rintro i acc σ H' _ ⟨_,_,s3,_⟩;rw [ha2,s3 _ _ ha2]) ?_ ?_
   ·rintro i x acc σ H3 hx ⟨o',rfl,s3,rfl⟩
    obtain ⟨t,y,z,rfl,ht⟩:=pr x (List.mem_of_getElem? hx)
    have ht3:=s3 _ _ (s2 _ _ (s1 _ _ ht))
    have hi':=(List.getElem?_eq_some_iff.mp hx).1
    refine ⟨_,rfl,t,[y,z],rfl,.inr ht3,fun l H4 hc=>?_⟩
    rcases hc with ⟨hc,rfl,rfl⟩ | ⟨hc,_⟩
    ·exact ⟨Nat.lt_of_le_of_lt (m:=100) (by rw [List.length_take];omega) (by decide),_,rfl,s3,by rw [aV hx]⟩
    ·rw [ht3] at hc;cases hc
   ·rintro acc σ H3 ⟨o',rfl,s3,rfl⟩ l hl
    rw [List.take_length]
    have s4:=(s1.trans s2).trans s3
    exact q l _ (s4.trans (aG.upd hl)) (s4.free hl) upd_same
noncomputable def iP (H:Hp):aQ->List V->Prop
 | [],vs=>vs=[]
 | n :: ns,vs=>∃ t y us,vs = .ref t :: us/\H t=some (.tup [.str n,y])/\iP H ns us
theorem iP.same {H H':Hp}(s:aG H H'):∀ {ns:aQ} {vs:List V},iP H ns vs->iP H' ns vs
 | [],_,h=>h
 | _ :: _,_,⟨t,y,us,e,h,q⟩=>⟨t,y,us,e,s _ _ h,iP.same s q⟩
theorem iP.len {H:Hp}:∀ {ns:aQ} {vs:List V},iP H ns vs->vs.length=ns.length
 | [],_,h=>by cases h;rfl
 | _ :: _,_,⟨t,y,us,e,h,q⟩=>by subst e;simp [iP.len q]
theorem iP.get {H:Hp}:∀ {ns:aQ} {vs:List V} {i:Nat} {v:V},iP H ns vs->vs[i]?=some v->∃ n t y,ns[i]?=some n/\v = .ref t/\H t=some (.tup [.str n,y])
 | [],_,_,_,h,k=>by cases h;simp at k
 | _ :: _,_,0,_,⟨t,y,us,e,h,q⟩,k=>by subst e;simp at k;exact ⟨_,t,y,rfl,k.symm,h⟩
 | _ :: _,_,i + 1,_,⟨t,y,us,e,h,q⟩,k=>by subst e;simp at k;obtain ⟨r,t,y,h1,h2,h3⟩:=iP.get q k;exact ⟨r,t,y,by simpa using h1,h2,h3⟩
theorem iP.app {H:Hp}:∀ {ns ms:aQ} {vs us:List V},iP H ns vs->iP H ms us->iP H (ns ++ ms) (vs ++ us)
 | [],_,_,_,h,k=>by cases h;exact k
 | _ :: _,_,_,_,⟨t,y,us,e,h,q⟩,k=>by subst e;exact ⟨t,y,_,rfl,h,iP.app q k⟩
theorem dN.n {H:Hp}:∀ {l:cQ} {vs:List V},dN H l vs->iP H (l.map (·.1)) vs
 | [],_,h=>h
 | _ :: _,_,⟨t,us,e,h,q⟩=>⟨t,_,us,e,h,dN.n q⟩
theorem fH.n {H:Hp}:∀ {l:bY} {vs:List V},fH H l vs->iP H (l.map (·.1)) vs
 | [],_,h=>h
 | _ :: _,_,⟨t,us,e,h,q⟩=>⟨t,_,us,e,h,fH.n q⟩
noncomputable def qV:Sp:=fun vs H Q _=>∃ (a:Addr) (ns:aQ) (ws:List V),vs=[.ref a]/\H a=some (.lst ws)/\iP H ns ws/\(∀ x ∈ ns,hV x)/\ns.Nodup/\ns.length<=50/\∀ H',aG H H'->Q .non H'
noncomputable def P5 (ns:aQ)(H:Hp)(i:Nat)(acc:List V)(σ:St)(H2:Hp):Prop:=∃ o o':Option V,σ=[o,o']/\aG H H2/\acc=(ns.take i).map V.str
noncomputable def P4 (H:Hp)(i:Nat)(acc:List V)(σ:St)(H2:Hp):Prop:=∃ o:Option V,σ=[o]/\aG H H2/\acc=(List.replicate i true).map V.bl
theorem DX {f:Addr}{fd:FuncData}(F:gY K "check_names" "check_names" cF f fd)(T:iH mg)(O_is_name:cH P w K mg base bC 1 "is_name" zP):bR P w K mg base bC 2 f fd jF qV:=by
 refine F.ok kL (fun vs H Q E h=>?_) (fun cdv A outer s H vs Q E hr h=>?_)
 ·obtain ⟨a,ns,ws,rfl,_⟩:=h
  rfl
 ·obtain ⟨a,ns,ws,rfl,ha,rn,ok,nd,l50,q⟩:=h
  have hu:=hr.units
  refine ⟨_,(aE (iV (i:=1) kL.nd rfl rfl rfl rfl (bG.by (N:=gN) (names:=(aF cF).names) (N':=["name","told"]) (src:=[none,none]) (by decide +kernel) rfl rfl) (cX K rfl (pv 0)) (fun _ _ _ _=>(dR K rfl (i:=0) (j:=1) rfl (show List.Nodup (["name","told"]:aQ) by decide +kernel) rfl rfl rfl rfl)) (fun _ _ _ _=>eT) (fun _ _ _ _=>(pv 0)))
   (aE (bK (cL (aR K rfl (aK (lT rfl) rfl T.n_all rfl (aA (fA rfl (bG.by (N:=gN) (names:=(aF cF).names) (N':=["name"]) (src:=[none]) (by decide +kernel) rfl rfl) (cX K rfl (pv 1)) (fun _ _ _ _=>(bJ (i:=0) (show List.Nodup (["name"]:aQ) by decide +kernel) rfl (Or.inl rfl))) (fun _ _ _ _=>eT) (fun _ _ _ _=>(aM O_is_name (hr.mono (by decide)) pass0 rfl (aA (pv 0) aB)))) aB)) (fun _=>rfl))) (aH fV) aW)
   (aH (bK (a0 (i5 hu) (aK uS rfl T.n_len rfl (aA (bZ (uQ rfl) rfl T.n_set rfl (aA (pv 1) aB)) aB)) (aK bD rfl T.n_len rfl (aA (pv 1) aB)) (nomark _)) (aH fV) aW)))),?_⟩
  simp only [gN]
  clear hr F T hu O_is_name
  have keep:=aI q (aI ha (aI rn (aI ok (aI nd l50))))
  clear q ha rn ok nd l50
  walk_at "rd"
  obtain ⟨q,ha,rn,ok,nd,l50⟩:=keep
  have lw:=rn.len
  refine ⟨ws,.inl ha,fun J hJ=>?_⟩
  refine dC hJ (P5 ns H) ⟨none,none,rfl,aG.refl _,rfl⟩ (by rintro i acc σ H' _ ⟨_,_,_,s2,_⟩;rw [ha,s2 _ _ ha]) ?_ ?_
  ·rintro i x acc σ H2 hx ⟨o,o',rfl,s2,rfl⟩
   obtain ⟨n,t,y,hn,rfl,ht⟩:=rn.get hx
   have hi:=(List.getElem?_eq_some_iff.mp hn).1
   refine ⟨t,_,rfl,h8.of (s2 _ _ ht),rfl,_,_,rfl,_,_,rfl,rfl,_,rfl,Nat.lt_of_le_of_lt (m:=100) (by simp;omega) (by decide),_,_,rfl,s2,?_⟩
   rw [aV hn,List.map_append]
   rfl
  ·rintro acc σ H2 ⟨o,o',rfl,s2,rfl⟩ l hl
   rw [lw,List.take_length]
   have hl2:upd H2 l (.lst (ns.map V.str)) l=some (.lst (ns.map V.str)):=upd_same
   have s3:=s2.trans (aG.upd (o:=.lst (ns.map V.str)) hl)
   generalize upd H2 l (.lst (ns.map V.str))=H3 at hl2 s3 ⊢
   refine ⟨l,rfl,_,.inl hl2,fun J2 hJ2=>?_⟩
   refine dC hJ2 (P4 H3) ⟨none,rfl,aG.refl _,rfl⟩ (by rintro i acc σ H' _ ⟨_,_,s4,_⟩;rw [hl2,s4 _ _ hl2]) ?_ ?_
   ·rintro i x acc σ H4 hx ⟨o,rfl,s4,rfl⟩
    rw [List.getElem?_map] at hx
    obtain ⟨n,hn,rfl⟩:=Option.map_eq_some_iff.mp hx
    have hi:=(List.getElem?_eq_some_iff.mp hn).1
    refine ⟨_,rfl,n,rfl,ok n (List.mem_of_getElem? hn),fun H5 s5=>⟨Nat.lt_of_le_of_lt (m:=100) (by simp;omega) (by decide),_,rfl,s4.trans s5,?_⟩⟩
    rw [List.replicate_succ',List.map_append]
    rfl
   ·rintro acc σ H4 ⟨o,rfl,s4,rfl⟩ l2 hl5
    refine ⟨l2,rfl,_,upd_same,?_⟩
    rw [if_neg (by simp)]
    have s5:=s4.trans (aG.upd (o:=.lst ((List.replicate (ns.map V.str).length true).map V.bl)) hl5)
    generalize upd H4 l2 (.lst ((List.replicate (ns.map V.str).length true).map V.bl))=H5 at s5 ⊢
    refine ⟨l,ns,rfl,s5 _ _ hl2,nd,by omega,fun p hp=>⟨p,ns.length,rfl,upd_same,.int ns.length,?_,.inl (.inl ⟨_,rfl,_,rfl,?_⟩)⟩⟩
    ·have:=(aG.upd (o:=zA P w p ns.length) hp) _ _ (s5 _ _ hl2)
     show Option.map _ ((lenV (upd H5 p (zA P w p ns.length)) (.ref l)).bind _)=_
     rw [lenV_l this,List.length_map]
     rfl
    ·rw [if_neg (by omega)]
     exact q _ ((s3.trans s5).trans (aG.upd hp))
noncomputable def vH:Sp:=fun vs H Q _=>∃ (a:Addr) (fx:cQ) (fv:List V),vs=[.ref a]/\H a=some (.lst fv)/\dN H fx fv/\(∀ r ∈ fx,0<=r.2/\r.2<=3)/\(∃ r ∈ fx,r.2=0)/\fx.length<=50/\∀ H',aG H H'->Q .non H'
noncomputable def PL (a:Addr)(H:Hp)(i:Nat)(σ:St)(H2:Hp):Prop:=∃ o o':Option V,σ=[some (.ref a),o,o']/\H2=H
noncomputable def PM (fx:cQ)(H:Hp)(i:Nat)(acc:List V)(σ:St)(H2:Hp):Prop:=∃ o o':Option V,σ=[o,o']/\H2=H/\acc=((fx.take i).map fun r=>decide (r.2=0)).map V.bl
theorem GR {f:Addr}{fd:FuncData}(F:gY K "check_parts" "check_parts" cZ f fd)(T:iH mg)(O_is_whole:cH P w K mg base bC 1 "is_whole" vE):bR P w K mg base bC 2 f fd jE vH:=by
 refine F.ok kK (fun vs H Q E h=>?_) (fun cdv A outer s H vs Q E hr h=>?_)
 ·obtain ⟨a,fx,fv,rfl,_⟩:=h
  rfl
 ·obtain ⟨a,fx,fv,rfl,ha,rn,ok,bare,l50,q⟩:=h
  have hu:=hr.units
  refine ⟨_,(aE (eY PassesOwn.never rfl (cX K rfl (pv 0)) (dR K rfl (i:=1) (j:=2) rfl kK.nd rfl rfl rfl rfl) (aH (bK (PW.pt (iL (cL (aR K rfl (aM O_is_whole (hr.mono (by decide)) pass0 rfl (aA (pv 2) aB)) (fun _=>rfl))) (gF (cL (jN kM kM aJ (pv 2) (eP T.c_MOST_PARTS rfl)))))) (aH fV) aW)))
   (aH (bK (cL (aR K rfl (aK (EY rfl) rfl T.n_any rfl (aA (fA rfl (bG.by (N:=jI) (names:=(aF cZ).names) (N':=["name","many"]) (src:=[none,none]) (by decide +kernel) rfl rfl) (cX K rfl (pv 0)) (fun _ _ _ _=>(dR K rfl (i:=0) (j:=1) rfl (show List.Nodup (["name","many"]:aQ) by decide +kernel) rfl rfl rfl rfl)) (fun _ _ _ _=>eT) (fun _ _ _ _=>(dH (eF hu) (pv 1) aJ (nomark _)))) aB)) (fun _=>rfl))) (aH fV) aW))),?_⟩
  simp only [jI]
  clear hr F T hu O_is_whole
  have keep:=aI q (aI ha (aI rn (aI ok (aI bare l50))))
  clear q ha rn ok bare l50
  walk_at "rd"
  obtain ⟨q,ha,rn,ok,bare,l50⟩:=keep
  have lw:=rn.len
  refine ⟨fv,.inl ha,fun J hJ=>?_⟩
  refine iY hJ (PL a H) ⟨none,none,rfl,rfl⟩ (by rintro i σ H' _ ⟨_,_,_,rfl⟩;rfl) ?_ ?_
  ·rintro i x σ H2 hx ⟨o,o',rfl,rfl⟩
   obtain ⟨r,t,hn,rfl,ht⟩:=rn.get hx
   obtain ⟨k0,k3⟩:=ok r (List.mem_of_getElem? hn)
   refine ⟨t,_,rfl,h8.of ht,rfl,_,_,rfl,_,_,rfl,rfl,?_⟩
   have keep:=aI q (aI k0 k3)
   clear q ha rn ok bare l50 lw hJ hx hn ht
   walk_at "rd"
   obtain ⟨q,k0,k3⟩:=keep
   refine ⟨r.2,rfl,true,rfl,?_⟩
   rw [if_neg (by decide)]
   exact ⟨_,_,rfl,rfl⟩
  ·rintro σ H2 ⟨o,o',rfl,rfl⟩
   have keep:=aI q (aI ha (aI rn (aI ok (aI bare (aI l50 lw)))))
   clear q ha rn ok bare l50 lw hJ
   walk_at "rd"
   obtain ⟨q,ha,rn,ok,bare,l50,lw⟩:=keep
   refine ⟨fv,.inl ha,fun J2 hJ2=>?_⟩
   refine dC hJ2 (PM fx H2) ⟨none,none,rfl,rfl,rfl⟩ (by rintro i acc σ H' _ ⟨_,_,_,rfl,_⟩;rfl) ?_ ?_
   ·rintro i x acc σ H3 hx ⟨o,o',rfl,rfl,rfl⟩
    obtain ⟨r,t,hn,rfl,ht⟩:=rn.get hx
    have hi:=(List.getElem?_eq_some_iff.mp hn).1
    refine ⟨t,_,rfl,h8.of ht,rfl,_,_,rfl,_,_,rfl,rfl,_,rfl,?_⟩
    dsimp only [tC]
    rw [rEqD_ii]
    refine ⟨Nat.lt_of_le_of_lt (m:=100) (by simp;omega) (by decide),_,_,rfl,rfl,?_⟩
    rw [aV hn,List.map_append,List.map_append]
    rfl
   ·rintro acc σ H3 ⟨o,o',rfl,rfl,rfl⟩ l2 hl5
    rw [lw,List.take_length]
    refine ⟨l2,rfl,_,upd_same,?_⟩
    have any0:((fx.map fun r=>decide (r.2=0)).any id)=true:=by
     obtain ⟨r,hr,e⟩:=bare
     rw [List.any_eq_true]
     exact ⟨true,List.mem_map.mpr ⟨r,hr,decide_eq_true e⟩,rfl⟩
    rw [any0,if_neg (by decide)]
    exact q _ (aG.upd hl5)
noncomputable def nots (sm:bY):aQ:=(sm.map (·.2)).filter fun (x:Str)=>decide (x≠("" : Str))
noncomputable def mJ:Sp:=fun vs H Q _=>∃ (a b:Addr) (sm:bY) (sv:List V) (zs:aQ),vs=[.ref a,.ref b]/\H a=some (.lst sv)/\fH H sm sv/\H b=some (.lst (zs.map V.str))/\(∀ r ∈ sm,r.2≠("" : Str)->r.2 ∈ zs)/\(nots sm).Nodup/\sm.length<=50/\∀ H',aG H H'->Q .non H'
noncomputable def PN (a b:Addr)(H:Hp)(i:Nat)(σ:St)(H2:Hp):Prop:=∃ o o' o'':Option V,σ=[some (.ref a),some (.ref b),o,o',o'']/\H2=H
noncomputable def PP (sm:bY)(H:Hp)(i:Nat)(acc:List V)(σ:St)(H2:Hp):Prop:=∃ o o':Option V,σ=[o,o']/\H2=H/\acc=(nots (sm.take i)).map V.str
theorem DZ (sm:bY)(r:Str×Str):nots (sm ++ [r])=nots sm ++ (if r.2=("" : Str) then [] else [r.2]):=by
 unfold nots
 rw [List.map_append,List.filter_append]
 congr 1
 by_cases z:r.2=("" : Str) <;> simp [z]
theorem x8 (sm:bY):(nots sm).length<=sm.length:=by
 unfold nots
 exact Nat.le_trans (List.length_filter_le _ _) (by rw [List.length_map];exact Nat.le_refl _)
theorem x6 {f:Addr}{fd:FuncData}(F:gY K "check_noughts" "check_noughts" cB f fd)(T:iH mg):bR P w K mg base bC 1 f fd hG mJ:=by
 refine F.ok gE (fun vs H Q E h=>?_) (fun cdv A outer s H vs Q E hr h=>?_)
 ·obtain ⟨a,b,sm,sv,zs,rfl,_⟩:=h
  rfl
 ·obtain ⟨a,b,sm,sv,zs,rfl,ha,rn,hb,ok,nd,l50,q⟩:=h
  have hu:=hr.units
  refine ⟨_,(aE (eY PassesOwn.never rfl (cX K rfl (pv 0)) (dR K rfl (i:=2) (j:=3) rfl gE.nd rfl rfl rfl rfl) (aH (bK (PW.pt (iL (cL (aR K rfl (aK aL rfl T.n_isinstance rfl (aA (pv 3) (aA (bH (v:=V.ty "str") rfl T.n_str rfl rfl) aB))) (fun _=>rfl))) (gF (PW.pt (oV (a0 (fG hu) (pv 3) gH (nomark _)) (lK (a0 (tR hu) (pv 3) (pv 1) (by with_unfolding_all rfl)))))))) (aH fV) aW)))
   (aE (iV (i:=4) gE.nd rfl rfl rfl rfl (bG.by (N:=hX) (names:=(aF cB).names) (N':=["name","nought"]) (src:=[none,none]) (by decide +kernel) rfl rfl) (cX K rfl (pv 0)) (fun _ _ _ _=>(dR K rfl (i:=0) (j:=1) rfl (show List.Nodup (["name","nought"]:aQ) by decide +kernel) rfl rfl rfl rfl)) (fun _ _ _ _=>(iU (a0 (fG hu) (pv 1) gH (nomark _)))) (fun _ _ _ _=>(pv 1)))
   (aH (bK (a0 (i5 hu) (aK uS rfl T.n_len rfl (aA (bZ (uQ rfl) rfl T.n_set rfl (aA (pv 4) aB)) aB)) (aK bD rfl T.n_len rfl (aA (pv 4) aB)) (nomark _)) (aH fV) aW)))),?_⟩
  simp only [hX]
  clear hr F T hu
  have keep:=aI q (aI ha (aI rn (aI hb (aI ok (aI nd l50)))))
  clear q ha rn hb ok nd l50
  walk_at "rd"
  obtain ⟨q,ha,rn,hb,ok,nd,l50⟩:=keep
  have lw:=rn.len
  refine ⟨sv,.inl ha,fun J hJ=>?_⟩
  refine iY hJ (PN a b H) ⟨none,none,none,rfl,rfl⟩ (by rintro i σ H' _ ⟨_,_,_,_,rfl⟩;rfl) ?_ ?_
  ·rintro i x σ H2 hx ⟨o,o',o'',rfl,rfl⟩
   obtain ⟨r,t,hn,rfl,ht⟩:=rn.get hx
   have okr:=ok r (List.mem_of_getElem? hn)
   refine ⟨t,_,rfl,h8.of ht,rfl,_,_,rfl,_,_,rfl,rfl,?_⟩
   have keep:=aI q (aI okr hb)
   clear q ha rn hb ok nd l50 lw hJ hx hn ht okr
   walk_at "rd"
   obtain ⟨q,okr,hb⟩:=keep
   refine ⟨true,rfl,?_⟩
   rw [if_neg (by decide)]
   refine ⟨!decide (r.2=("" : Str)),by simp,?_⟩
   by_cases z:r.2=("" : Str)
   ·rw [if_neg (by simp [z])]
    exact ⟨_,_,_,rfl,rfl⟩
   ·rw [if_pos (by simp [z])]
    refine ⟨.str r.2,zs.map D.str,rfl,.inl ⟨b,_,rfl,hb,fK zs⟩,by rw [dep_strs];decide,_,rfl,?_⟩
    rw [if_neg]
    ·exact ⟨_,_,_,rfl,rfl⟩
    ·rw [nU,decide_eq_true (okr z)]
     decide
  ·rintro σ H2 ⟨o,o',o'',rfl,rfl⟩
   have keep:=aI q (aI ha (aI rn (aI nd (aI l50 lw))))
   clear q ha rn ok hb nd l50 lw hJ
   walk_at "rd"
   obtain ⟨q,ha,rn,nd,l50,lw⟩:=keep
   refine ⟨sv,.inl ha,fun J2 hJ2=>?_⟩
   refine dC hJ2 (PP sm H2) ⟨none,none,rfl,rfl,rfl⟩ (by rintro i acc σ H' _ ⟨_,_,_,rfl,_⟩;rfl) ?_ ?_
   ·rintro i x acc σ H3 hx ⟨o,o',rfl,rfl,rfl⟩
    obtain ⟨r,t,hn,rfl,ht⟩:=rn.get hx
    have hi:=(List.getElem?_eq_some_iff.mp hn).1
    have hk:=x8 (sm.take i)
    rw [List.length_take] at hk
    have e1:=DZ (sm.take i) r
    rw [← aV hn] at e1
    refine ⟨t,_,rfl,h8.of ht,rfl,_,_,rfl,_,_,rfl,rfl,_,rfl,?_⟩
    dsimp only [tC]
    rw [rNeD_ss]
    refine ⟨_,rfl,?_⟩
    by_cases z:r.2=("" : Str)
    ·rw [if_neg (by simp [z])]
     rw [if_pos z,List.append_nil] at e1
     exact ⟨_,_,rfl,rfl,by rw [e1]⟩
    ·rw [if_pos (by simp [z])]
     rw [if_neg z] at e1
     exact ⟨_,rfl,Nat.lt_of_le_of_lt (m:=100) (by rw [List.length_map];omega) (by decide),_,_,rfl,rfl,by rw [e1,List.map_append];rfl⟩
   ·rintro acc σ H3 ⟨o,o',rfl,rfl,rfl⟩ l hl
    rw [lw,List.take_length]
    have hl2:upd H3 l (.lst ((nots sm).map V.str)) l=some (.lst ((nots sm).map V.str)):=upd_same
    have s3:aG H3 (upd H3 l (.lst ((nots sm).map V.str))):=aG.upd hl
    generalize upd H3 l (.lst ((nots sm).map V.str))=H4 at hl2 s3 ⊢
    have hk:=x8 sm
    refine ⟨l,nots sm,rfl,hl2,nd,by omega,fun p hp=>⟨p,(nots sm).length,rfl,upd_same,.int (nots sm).length,?_,.inl (.inl ⟨_,rfl,_,rfl,?_⟩)⟩⟩
    ·have:=(aG.upd (o:=zA P w p (nots sm).length) hp) _ _ hl2
     show Option.map _ ((lenV (upd H4 p (zA P w p (nots sm).length)) (.ref l)).bind _)=_
     rw [lenV_l this,List.length_map]
     rfl
    ·rw [if_neg (by omega)]
     exact q _ (s3.trans (aG.upd hp))
end
section
variable {P:Program}{w:World}{K:PySem.W.Frag}{mg:gA}{base:Heap}
structure L6 (K:PySem.W.Frag)(C:Addr):Prop where
 cls:E5 K C
 n1:hU K C "fixed_rows"
 n2:hU K C "sum_rows"
 n3:hU K C "many_by_name"
 n4:hU K C "nought_by_name"
theorem dN.pairs {H:Hp}{fx:cQ}{fv:List V}(h:dN H fx fv):lV H fv:=fun v hv=>by
 obtain ⟨i,hi⟩:=List.getElem?_of_mem hv
 obtain ⟨r,t,_,e,ht⟩:=h.get hi
 exact ⟨t,_,_,e,ht⟩
theorem fH.pairs {H:Hp}{sm:bY}{sv:List V}(h:fH H sm sv):lV H sv:=fun v hv=>by
 obtain ⟨i,hi⟩:=List.getElem?_of_mem hv
 obtain ⟨r,t,_,e,ht⟩:=h.get hi
 exact ⟨t,_,_,e,ht⟩
theorem dN.prs {H:Hp}:∀ {fx:cQ} {fv:List V},dN H fx fv->fv.map (prV H)=(fx.map fun r=>((.inr r.1,V.int r.2):fZ×V)).map (fun kv=>some (kV kv.1,kv.2))
 | [],_,e=>by cases e;rfl
 | r :: l,_,⟨t,us,e,h,q⟩=>by
  subst e
  rw [List.map_cons,dN.prs q]
  unfold prV
  simp only [h]
  rfl
theorem G1 {fx:cQ}(nd:(fx.map (·.1)).Nodup):i8 [] (fx.map fun r=>((.inr r.1,V.int r.2):fZ×V))=fx.map fun r=>(.inr r.1,V.int r.2):=by
 rw [mM]
 ·rfl
 ·rw [List.nil_append,List.map_map]
  exact List.pairwise_map.mpr ((List.pairwise_map.mp nd).imp fun h e=>h (Sum.inr.inj e))
noncomputable def zS (K:PySem.W.Frag)(C:Addr):Sp:=fun vs H Q _=>∃ (x dx a b:Addr) (fx:cQ) (sm:bY) (fv sv:List V),vs=[.ref x,.ref a,.ref b]/\H x=some (.ins C dx [])/\H a=some (.lst fv)/\H b=some (.lst sv)/\dN H fx fv/\fH H sm sv/\dJ fx sm /\
 ∀ H',dM x H H'->iO K C fx sm H' x->Q .non H'
noncomputable def PF (fx:cQ)(H:Hp)(i:Nat)(acc:List V)(σ:St)(H2:Hp):Prop:=∃ o o':Option V,σ=[o,o']/\H2=H/\acc=(zeros (fx.take i)).map V.str
theorem zG (fx:cQ):(zeros fx).length<=fx.length:=by
 unfold zeros
 rw [List.length_map]
 exact List.length_filter_le _ _
theorem KL {f C:Addr}{fd:FuncData}(F:gY K "__init__" "Signs.__init__" bT f fd)(T:iH mg)(co:L6 K C)(O_checked_pairs:cH P w K mg base bC 1 "checked_pairs" vI)(O_check_names:cH P w K mg base bC 2 "check_names" qV)(O_check_parts:cH P w K mg base bC 2 "check_parts" vH)(O_check_noughts:cH P w K mg base bC 1 "check_noughts" mJ):bR P w K mg base bC 3 f fd gJ (zS K C):=by
 refine F.ok fU (fun vs H Q E h=>?_) (fun cdv A outer s H vs Q E hr h=>?_)
 ·obtain ⟨x,dx,a,b,fx,sm,fv,sv,rfl,_⟩:=h
  rfl
 ·obtain ⟨x,dx,a,b,fx,sm,fv,sv,rfl,hx,ha,hb,rf,rs,so,q⟩:=h
  have hu:=hr.units
  refine ⟨_,(aE (aZ (i:=3) fU.nd rfl (Or.inl rfl) (aM O_checked_pairs (hr.mono (by decide)) pass0 rfl (aA (pv 1) (aA aJ (aA (eP T.c_MOST_FIXED rfl) aB)))))
   (aE (aZ (i:=4) fU.nd rfl (Or.inl rfl) (aM O_checked_pairs (hr.mono (by decide)) pass0 rfl (aA (pv 2) (aA aJ (aA (eP T.c_MOST_SUMS rfl) aB)))))
   (aE (cW (aM O_check_names (hr.mono (by decide)) pass0 rfl (aA (bO bV (pv 3) (pv 4)) aB)))
   (aE (cW (aM O_check_parts (hr.mono (by decide)) pass0 rfl (aA (pv 3) aB)))
   (aE (cW (aM O_check_noughts (hr.mono (by decide)) pass0 rfl (aA (pv 4) (aA (fA rfl (bG.by (N:=gK) (names:=(aF bT).names) (N':=["name","many"]) (src:=[none,none]) (by decide +kernel) rfl rfl) (cX K rfl (pv 3)) (fun _ _ _ _=>(dR K rfl (i:=0) (j:=1) rfl (show List.Nodup (["name","many"]:aQ) by decide +kernel) rfl rfl rfl rfl)) (fun _ _ _ _=>(iU (a0 (eF hu) (pv 1) aJ (nomark _)))) (fun _ _ _ _=>(pv 0))) aB))))
   (aE (vR (pv 0) (pv 3) rfl)
   (aE (vR (pv 0) (pv 4) rfl)
   (aE (vR (pv 0) (bZ (mQ rfl) rfl T.n_dict rfl (aA (pv 3) aB)) rfl)
   (aH (vR (pv 0) (bZ (mQ rfl) rfl T.n_dict rfl (aA (pv 4) aB)) rfl)))))))))),?_⟩
  simp only [gK]
  clear hr F T hu O_checked_pairs O_check_names O_check_parts O_check_noughts
  have keep:=aI q (aI hx (aI ha (aI hb (aI rf (aI rs (aI so co))))))
  clear q hx ha hb rf rs so co
  walk_at "rd"
  obtain ⟨q,hx,ha,hb,rf,rs,so,co⟩:=keep
  have lf:=rf.len
  have ls:=rs.len
  have f1:=so.f1
  have f2:=so.f2
  have s2':=so.s2
  have ndf:=(List.nodup_append.mp so.nd).1
  have nds':=(List.nodup_append.mp so.nd).2.1
  refine ⟨a,1,12,fv,rfl,ha,rf.pairs,by omega,by omega,by omega,fun l1 H1 s1 hl1 h1=>?_⟩
  refine ⟨b,0,3,sv,rfl,s1 _ _ hb,rs.pairs.same s1,by omega,by omega,by omega,fun l2 H2 s2 hl2 h2=>?_⟩
  have nxl1:x≠l1:=aD hx hl1
  have nxl2:x≠l2:=aD (s1 _ _ hx) hl2
  refine .inr ⟨.lst (fv ++ sv),n5 (s2 _ _ h1) h2 (Nat.le_trans (m:=100) (by omega) (by decide)),fun l3 hl3=>?_⟩
  have s3:=(s1.trans s2).trans (aG.upd (o:=.lst (fv ++ sv)) hl3)
  have h13:=(aG.upd (o:=.lst (fv ++ sv)) hl3) _ _ (s2 _ _ h1)
  have h23:=(aG.upd (o:=.lst (fv ++ sv)) hl3) _ _ h2
  have h33:upd H2 l3 (.lst (fv ++ sv)) l3=some (.lst (fv ++ sv)):=upd_same
  generalize upd H2 l3 (.lst (fv ++ sv))=H3 at s3 h13 h23 h33 ⊢
  refine ⟨l3,fx.map (·.1) ++ sm.map (·.1),fv ++ sv,rfl,h33,iP.app (iP.same s3 rf.n) (iP.same s3 rs.n),so.nm,so.nd,by simp;omega,fun H4 s4=>?_⟩
  refine ⟨l1,fx,fv,rfl,s4 _ _ h13,rf.same (bF.of (s3.trans s4)),so.parts,so.bare,by omega,fun H5 s5=>?_⟩
  have h15:=s5 _ _ (s4 _ _ h13)
  have h25:=s5 _ _ (s4 _ _ h23)
  have sH5:=(s3.trans s4).trans s5
  have rf5:=rf.same (bF.of sH5)
  have rs5:=rs.same (bF.of sH5)
  refine ⟨l1,rfl,fv,.inl h15,fun J hJ=>?_⟩
  refine dC hJ (PF fx H5) ⟨none,none,rfl,rfl,rfl⟩ (by rintro i acc σ H' _ ⟨_,_,_,rfl,_⟩;rfl) ?_ ?_
  ·rintro i y acc σ H6 hy ⟨o,o',rfl,rfl,rfl⟩
   obtain ⟨r,t,hn,rfl,ht⟩:=rf5.get hy
   have hi:=(List.getElem?_eq_some_iff.mp hn).1
   have hk:=zG (fx.take i)
   rw [List.length_take] at hk
   have e1:=iI (fx.take i) r
   rw [← aV hn] at e1
   refine ⟨t,_,rfl,h8.of ht,rfl,_,_,rfl,_,_,rfl,rfl,_,rfl,?_⟩
   dsimp only [tC]
   rw [rEqD_ii]
   refine ⟨_,rfl,?_⟩
   by_cases z:r.2=0
   ·rw [if_pos (decide_eq_true z)]
    rw [if_pos z] at e1
    exact ⟨_,rfl,Nat.lt_of_le_of_lt (m:=100) (by rw [List.length_map];omega) (by decide),_,_,rfl,rfl,by rw [e1,List.map_append];rfl⟩
   ·rw [if_neg (by simpa using z)]
    rw [if_neg z,List.append_nil] at e1
    exact ⟨_,_,rfl,rfl,by rw [e1]⟩
  ·rintro acc σ H6 ⟨o,o',rfl,rfl,rfl⟩ l6 hl6
   rw [lf,List.take_length]
   have s6:aG H6 (upd H6 l6 (.lst ((zeros fx).map V.str))):=aG.upd hl6
   have h66:upd H6 l6 (.lst ((zeros fx).map V.str)) l6=some (.lst ((zeros fx).map V.str)):=upd_same
   generalize upd H6 l6 (.lst ((zeros fx).map V.str))=H7 at s6 h66 ⊢
   refine ⟨l2,l6,sm,sv,zeros fx,rfl,s6 _ _ h25,rs5.same (bF.of s6),h66,so.nought,so.once,by omega,fun H8 s8=>?_⟩
   have sH8:=(sH5.trans s6).trans s8
   have h18:=s8 _ _ (s6 _ _ h15)
   have h28:=s8 _ _ (s6 _ _ h25)
   have hx8:=sH8 _ _ hx
   have rf8:=rf.same (bF.of sH8)
   have rs8:=rs.same (bF.of sH8)
   refine ⟨_,rfl,_,rfl,x,C,dx,[],rfl,hx8,co.cls,co.n1,by decide,?_⟩
   refine ⟨_,rfl,_,rfl,x,C,dx,_,rfl,upd_same,co.cls,co.n2,?_,?_⟩
   ·have:=fL ("fixed_rows" : Str) (.ref l1) []
    simp only [List.length_nil] at this
    omega
   rw [upd_upd]
   have e9:∀ (fs:List (Str×V)),aG (del H8 x) (upd H8 x (.ins C dx fs)):=fun fs b o e=>by
    obtain ⟨z1,z2⟩:=gM e
    rw [aC z2]
    exact z1
   have l2f:(putF ("sum_rows" : Str) (.ref l2) (putF ("fixed_rows" : Str) (.ref l1) [])).length<=2:=by
    have:=fL ("sum_rows" : Str) (.ref l2) (putF ("fixed_rows" : Str) (.ref l1) [])
    have:=fL ("fixed_rows" : Str) (.ref l1) []
    simp only [List.length_nil] at this
    omega
   have k1:(putF ("sum_rows" : Str) (.ref l2) (putF ("fixed_rows" : Str) (.ref l1) [])).lookup ("many" : Str)=none:=by rw [bU,if_neg (by decide),bU,if_neg (by decide)];rfl
   have k2:(putF ("sum_rows" : Str) (.ref l2) (putF ("fixed_rows" : Str) (.ref l1) [])).lookup ("nought" : Str)=none:=by rw [bU,if_neg (by decide),bU,if_neg (by decide)];rfl
   generalize putF ("sum_rows" : Str) (.ref l2) (putF ("fixed_rows" : Str) (.ref l1) [])=fs2 at l2f k1 k2 ⊢
   have t9:bF H8 (upd H8 x (.ins C dx fs2)):=fun c xs e=>by rw [aC (fun z=>by rw [z,hx8] at e;cases e)];exact e
   have h9x:upd H8 x (.ins C dx fs2) x=some (.ins C dx fs2):=upd_same
   have b9:dM x H (upd H8 x (.ins C dx fs2)):=fun c o nc e=>by rw [aC nc];exact sH8 _ _ e
   have h19:upd H8 x (.ins C dx fs2) l1=some (.lst fv):=by rw [aC nxl1.symm];exact h18
   have h29:upd H8 x (.ins C dx fs2) l2=some (.lst sv):=by rw [aC nxl2.symm];exact h28
   have rf9:=rf8.same t9
   have rs9:=rs8.same t9
   generalize upd H8 x (.ins C dx fs2)=H9 at t9 h9x b9 h19 h29 rf9 rs9 ⊢
   refine ⟨_,rfl,l1,fv,_,rfl,h19,rf9.prs,fun d3 hd3=>?_⟩
   rw [G1 ndf]
   have nx3:x≠d3:=aD h9x hd3
   refine ⟨_,rfl,x,C,dx,fs2,rfl,by rw [aC nx3];exact h9x,co.cls,co.n3,by omega,?_⟩
   have l3f:=fL ("many_by_name" : Str) (.ref d3) fs2
   have k3:(putF ("many_by_name" : Str) (.ref d3) fs2).lookup ("many" : Str)=none:=by rw [bU,if_neg (by decide)];exact k1
   have k4:(putF ("many_by_name" : Str) (.ref d3) fs2).lookup ("nought" : Str)=none:=by rw [bU,if_neg (by decide)];exact k2
   have k5:(putF ("many_by_name" : Str) (.ref d3) fs2).lookup ("many_by_name" : Str)=some (.ref d3):=by rw [bU,if_pos rfl]
   generalize putF ("many_by_name" : Str) (.ref d3) fs2=fs3 at l3f k3 k4 k5 ⊢
   have s10:aG H9 (upd H9 d3 (.dK (fx.map fun r=>(.inr r.1,.int r.2)))):=aG.upd hd3
   have h11x:upd (upd H9 d3 (.dK (fx.map fun r=>(.inr r.1,.int r.2)))) x (.ins C dx fs3) x=some (.ins C dx fs3):=upd_same
   have h11d:upd (upd H9 d3 (.dK (fx.map fun r=>(.inr r.1,.int r.2)))) x (.ins C dx fs3) d3=some (.dK (fx.map fun r=>(.inr r.1,.int r.2))):=by rw [aC nx3.symm];exact upd_same
   have b11:dM x H9 (upd (upd H9 d3 (.dK (fx.map fun r=>(.inr r.1,.int r.2)))) x (.ins C dx fs3)):=fun c o nc e=>by rw [aC nc];exact s10 _ _ e
   generalize upd (upd H9 d3 (.dK (fx.map fun r=>(.inr r.1,.int r.2)))) x (.ins C dx fs3)=H11 at h11x h11d b11 ⊢
   have t11:bF H9 H11:=fun c xs e=>b11 c _ (fun z=>by rw [z,h9x] at e;cases e) e
   refine ⟨_,rfl,l2,sv,_,rfl,b11 _ _ nxl2.symm h29,(rs9.same t11).prs,fun d4 hd4=>?_⟩
   rw [yD nds']
   have nx4:x≠d4:=aD h11x hd4
   have n34:d3≠d4:=aD h11d hd4
   refine ⟨_,rfl,x,C,dx,fs3,rfl,by rw [aC nx4];exact h11x,co.cls,co.n4,by omega,?_⟩
   refine q _ (fun c o nc e=>?_) ⟨co.cls,co.n3,co.n4,dx,_,d3,d4,upd_same,by rw [bU,if_neg (by decide)];exact k3,by rw [bU,if_neg (by decide)];exact k4,by rw [bU,if_neg (by decide)];exact k5,by rw [bU,if_pos rfl],by rw [aC nx3.symm,aC n34];exact h11d,by rw [aC nx4.symm];exact upd_same⟩
   rw [aC nc]
   exact (aG.upd hd4) _ _ (b11 c o nc (b9 c o nc e))
end
theorem lO {fx:cQ}{sm:bY}{os:aQ}:∀ {ds:List D},IsTms fx sm os ds->∀ d ∈ ds,bM fx sm os d
 | _ :: _,⟨a,b⟩,d,h=>by
  obtain rfl | h:=List.mem_cons.mp h
  ·exact a
  ·exact lO b d h
theorem yP {fx:cQ}{sm:bY}{os:aQ}:∀ {ds:List D},(∀ d ∈ ds,bM fx sm os d)->IsTms fx sm os ds
 | [],_=>trivial
 | d :: ds,h=>⟨h d List.mem_cons_self,yP fun e k=>h e (List.mem_cons_of_mem _ k)⟩
theorem J0 {fx:cQ}{sm:bY}{os:aQ}{n z:Str}{d:D}(h:bM fx sm os d):∀ e ∈ opn1 n z d,bM fx sm os e:=by
 intro e he
 unfold opn1 at he
 split at he
 ·rename_i m es
  split at he
  ·unfold bM at h;exact lO h.2 e he
  ·cases List.mem_singleton.mp he;exact h
 ·split at he
  ·cases he
  ·cases List.mem_singleton.mp he;exact h
theorem N9 {sm:bY}{n z:Str}(h:zr sm n=some z):∃ r ∈ sm,r.1=n/\r.2=z:=by
 unfold zr at h
 obtain ⟨r,h1,h2⟩:=Option.map_eq_some_iff.mp h
 have h3:=List.find?_some h1
 exact ⟨r,List.mem_of_find?_eq_some h1,of_decide_eq_true h3,h2⟩
theorem CB {fx:cQ}{sm:bY}{os:aQ}{n:Str}{ps:List D}(so:dJ fx sm)(f:Fls ps)(b:Nbs ps)(h:IsTms fx sm os ps)(hd:E4 fx sm n ps.length):bM fx sm os (knot sm n ps):=by
 unfold knot
 cases hz:zr sm n with
 | none=>dsimp only;unfold bM;exact ⟨hd,h⟩
 | some z =>
  dsimp only
  obtain ⟨r,hr,rn,rz⟩:=N9 hz
  have pm:=cD (opn n z ps)
  have al:∀ e ∈ cN (opn n z ps),bM fx sm os e:=fun e he=>by
   obtain ⟨d,h1,h2⟩:=List.mem_flatMap.mp (pm.mem_iff.mp he)
   exact J0 (lO h d h1) e h2
  have ne:z=("" : Str)->cN (opn n z ps)≠[]:=fun e q=>by
   subst e
   have h1:=GL (n:=n) f b (fun e=>by rw [e] at hd;have:=pD hd;simp at this)
   rw [q] at pm
   exact h1 (List.Perm.eq_nil pm.symm)
  generalize cN (opn n z ps)=l at al ne
  match l,al,ne with
  | [],_,ne =>
   show bM fx sm os (.str z)
   unfold bM
   refine .inr ?_
   rw [← rz]
   exact so.nought r hr fun e=>ne (by rw [← rz];exact e) rfl
  | [d],al,_=>exact al d (List.mem_singleton.mpr rfl)
  | d :: e :: l,al,_ =>
   show bM fx sm os (.tup (.str n :: d :: e :: l))
   unfold bM
   exact ⟨.inr ⟨by simp,by rw [← rn];exact List.mem_map.mpr ⟨r,hr,rfl⟩⟩,yP al⟩
mutual
theorem HP {fx:cQ}{sm:bY}{os:aQ}(so:dJ fx sm)(ho:∀ x ∈ os,eQ x):∀ {d:D},bM fx sm os d->bM fx sm os (flt sm d)
 | .str x,h=>by
  have:flt sm (.str x) = .str x:=by unfold flt;rfl
  rw [this];exact h
 | .tup (.str n :: ds),h=>by
  unfold bM at h
  have t:=(qR so ho h.2).1
  have g:=jZ (jY so) t
  rw [flt]
  exact CB so g.1 g.2 (wS so ho h.2) (by rw [cI,List.length_map];exact h.1)
 | .lst (.str n :: ds),h=>by
  unfold bM at h
  have t:=(qR so ho h.2).1
  have g:=jZ (jY so) t
  rw [flt]
  exact CB so g.1 g.2 (wS so ho h.2) (by rw [cI,List.length_map];exact h.1)
 | .non,h | .bl _,h | .int _,h | .tup [],h | .lst [],h | .tup (.non :: _),h | .tup (.bl _ :: _),h | .tup (.int _ :: _),h | .tup (.tup _ :: _),h | .tup (.lst _ :: _),h | .lst (.non :: _),h | .lst (.bl _ :: _),h | .lst (.int _ :: _),h | .lst (.tup _ :: _),h | .lst (.lst _ :: _),h=>by unfold bM at h;exact absurd h id
theorem wS {fx:cQ}{sm:bY}{os:aQ}(so:dJ fx sm)(ho:∀ x ∈ os,eQ x):∀ {ds:List D},IsTms fx sm os ds->IsTms fx sm os (flts sm ds)
 | [],_=>trivial
 | d :: ds,⟨a,b⟩=>by rw [flts];exact ⟨HP so ho a,wS so ho b⟩
end
end Lw
namespace L2
open PySem PySem.Spec PyProof.Rows
noncomputable def byTx (w:World):Bool:=w.params.followText "set-order"
theorem KW (t:SetTable)(es:Array (Int×Value))(h:Int)(x:Value):(layNew t es h x).2.1.led=t.led:=by
 unfold layNew
 cases t.freeSlot h with
 | none=>rfl
 | some p =>
  show ((t.put p.1).1.orStandIn _).led=t.led
  unfold SetTable.orStandIn
  split <;> rfl
theorem D7 (t:SetTable)(es:Array (Int×Value))(n:Nat):(relayAll t es n).2.1.led=t.led/\(t.plain=false->(relayAll t es n).2.1.plain=false):=by
 unfold relayAll
 cases e:t.relaid (es.map (·.1)) n with
 | none=>exact ⟨rfl,fun _=>rfl⟩
 | some p =>
  have q:p.1.led=t.led/\p.1.plain=t.plain:=by
   unfold SetTable.relaid SetTable.laid at e
   cases e2:SetTable.layClean (SetTable.sizeAbove n - 1) (es.map (·.1)) with
   | none=>rw [e2] at e;cases e
   | some o=>rw [e2] at e;cases e;exact ⟨rfl,rfl⟩
  obtain ⟨t1,od⟩:=p
  dsimp only at q ⊢
  split
  ·exact ⟨q.1,fun z=>q.2.trans z⟩
  ·exact ⟨rfl,fun _=>rfl⟩
noncomputable def kW (P:Program)(w:World)(h:Heap)(a:Addr)(ss:aQ):Prop :=
 ∃ o es ep t,h.get? a=some o/\o.ExactSet/\o.data = .set es ep t/\ElemsOf (PySem.strKind P w) es.toList/\(es.toList.map fun e=>strOf e.2).Perm ss/\es.size < scanBound/\t.fits es.size=true/\t.led = !byTx w/\(es.size=0∨t.plain=false)
section
variable {P:Program}{w:World}{A:Around}{E:bX}{s:Shared}{a:Addr}{ss:aQ}
theorem kW.at {h h':Heap}(x:kW P w h a ss)(k:∀ o,h.get? a=some o->h'.get? a=some o):kW P w h' a ss:=by
 obtain ⟨o,es,ep,t,e,r⟩:=x
 exact ⟨o,es,ep,t,k _ e,r⟩
theorem oK {x:Str}{v:Value}:(PySem.strKind P w).is x v=true ↔ ∃ t,v = .str x t:=by
 constructor
 ·intro h
  obtain ⟨t,e⟩:=Value.isStrOf_shape h
  exact ⟨t,e⟩
 ·rintro ⟨t,rfl⟩
  show Value.isStrOf x (.str x t)=true
  simp [Value.isStrOf]
theorem EJ {es:List (Int×Value)}(el:ElemsOf (PySem.strKind P w) es)(x:Str):x ∈ es.map (fun e=>strOf e.2) ↔ ∃ e ∈ es,(PySem.strKind P w).is x e.2=true:=by
 rw [List.mem_map]
 constructor
 ·rintro ⟨e,he,rfl⟩
  obtain ⟨⟨k,hk,_⟩,_⟩:=el e he
  obtain ⟨t,z⟩:=oK.mp hk
  exact ⟨e,he,oK.mpr ⟨t,by rw [z];rfl⟩⟩
 ·rintro ⟨e,he,h⟩
  obtain ⟨t,z⟩:=oK.mp h
  exact ⟨e,he,by rw [z];rfl⟩
theorem xK {h:Heap}{o:Obj}{es es':Array (Int×Value)}{ep:Nat}{t t':SetTable}{ss':aQ}(g:h.get? a=some o)(ex:o.ExactSet)(d:o.data = .set es ep t)(el:ElemsOf (PySem.strKind P w) es'.toList)(pm:(es'.toList.map fun e=>strOf e.2).Perm ss')(sm:es'.size < scanBound)(ft:t'.fits es'.size=true)(led:t'.led = !byTx w)(pl:t'.plain=false) :
  (h.update a (Obj.putSet es' t')).get? a=some { o with data:=.set es' (ep + 1) t' }/\kW P w (h.update a (Obj.putSet es' t')) a ss':=by
 obtain ⟨z,_⟩:=SetOf_store (knd:=PySem.strKind P w) (S':=fun k=>es'.toList.any fun e=>(PySem.strKind P w).is k e.2) g ex d el (fun k=>by rw [List.any_eq_true]) sm ft
 exact ⟨z,_,es',ep + 1,t',z,ex,rfl,el,pm,sm,ft,led,.inr pl⟩
theorem IJ {x:Str}{tk:Tok}{Q:Bool->Shared->Prop}(T:kW P w s.heap a ss)(room:ss.length + 1 < scanBound)
  (k:∀ h' b,Heap.SameBut a s.heap h'->kW P w h' a (if x ∈ ss then ss else ss ++ [x])->Q b { s with heap:=h' }):wpAny (model P w) A (setAddHashed a (.str x tk) ((PySem.strKind P w).hash x)) Q E s:=by
 obtain ⟨o,es,ep,t,g,ex,d,el,pm,sm,ft,led,pl⟩:=id T
 have len:es.size=ss.length:=by rw [← pm.length_eq];simp
 have is:(PySem.strKind P w).is x (.str x tk)=true:=oK.mpr ⟨tk,rfl⟩
 have scan:=byScan_of (x:=.str x tk) rfl sm el
 have mem:x ∈ ss ↔ ∃ e ∈ es.toList,(PySem.strKind P w).is x e.2=true:=pm.mem_iff.symm.trans (EJ el x)
 have gave:∀ (b:Bool) {s1:Shared} {Q1:Unit->Shared->Prop},Q1 () s1->wpAny (model P w) A (match b with | true=>rule "set.scan.the-table-gave-way" | false=>pure ()) Q1 E s1:=fun b s1 Q1 q=>by
  cases b
  ·exact wpAny_pure q
  ·exact wpAny_rule q
 unfold setAddHashed setAddHashedIn setAddByScan
 apply wpAny_holding
 refine wpAny_bind (wpAny_setState_of g d ft ?_)
 dsimp only
 rw [if_pos scan]
 refine wpAny_bind (wpAny_bind (wpAny_rule (wpAny_bind (wpAny_setScan_of (knd:=PySem.strKind P w) is g d ft el ?_))))
 cases fd:es.toList.findIdx? fun e=>(PySem.strKind P w).is x e.2 with
 | some j =>
  obtain ⟨lt,yes,_⟩:=List.findIdx?_eq_some_iff_getElem.mp fd
  have z:x ∈ ss:=mem.mpr ⟨_,List.getElem_mem lt,yes⟩
  have q:=k s.heap false (.refl a s.heap)
  rw [if_pos z] at q
  exact wpAny_pure (wpAny_pure (q T))
 | none =>
  have z:x ∉ ss:=fun h=>by
   obtain ⟨e,he,y⟩:=mem.mp h
   have n:=List.findIdx?_eq_none_iff.mp fd e he
   rw [y] at n
   cases n
  rw [if_neg z] at k
  dsimp only
  have p1:=layNew_perm t es ((PySem.strKind P w).hash x) (.str x tk)
  have p2:=layNew_fits t es ((PySem.strKind P w).hash x) (.str x tk)
  have p3:=KW t es ((PySem.strKind P w).hash x) (.str x tk)
  generalize layNew t es ((PySem.strKind P w).hash x) (.str x tk)=L at p1 p2 p3 ⊢
  obtain ⟨e1,t1,wd,gv⟩:=L
  dsimp only at p1 p2 p3 ⊢
  rw [Array.toList_push] at p1
  have el1:ElemsOf (PySem.strKind P w) e1.toList:=(el.push is rfl).perm p1
  have sz1:e1.size=es.size + 1:=by rw [← Array.length_toList,p1.length_eq];simp
  have sm1:e1.size < scanBound:=by rw [sz1,len];exact room
  have pm1:(e1.toList.map fun e=>strOf e.2).Perm (ss ++ [x]):=by
   refine (p1.map _).trans ?_
   rw [List.map_append]
   exact pm.append_right _
  refine wpAny_bind (gave _ ?_)
  have tail:∀ t2:SetTable,t2.fits e1.size=true->t2.led = !byTx w->t2.plain=false ->
    wpAny (model P w) A (do
     storeSet a e1 t2
     if (!wd && t2.tooFull)=true then do
       (match (relayAll t2 e1 (SetTable.grown e1.size)).2.2 with | true=>rule "set.scan.the-table-gave-way" | false=>pure ():Sem Unit)
       storeSet a (relayAll t2 e1 (SetTable.grown e1.size)).1 (relayAll t2 e1 (SetTable.grown e1.size)).2.1
       pure (some true)
      else pure (some true)) (fun r s'=>wpAny (model P w) A (match r with | some b=>pure b | none=>setAddHashedIn a (.str x tk) ((PySem.strKind P w).hash x) 99999) Q E s') E s:=by
   intro t2 f2 l2 n2
   obtain ⟨g1,T1⟩:=xK (P:=P) (w:=w) g ex d el1 pm1 sm1 f2 l2 n2
   refine wpAny_bind (wpAny_storeSet_of g d ?_ (fits_of_scanBound sm1))
   have b1:=Heap.SameBut.update s.heap a (Obj.putSet e1 t2)
   split
   ·have r1:=relayAll_perm t2 e1 (SetTable.grown e1.size)
    have r2:=relayAll_fits t2 e1 (SetTable.grown e1.size)
    have r3:=D7 t2 e1 (SetTable.grown e1.size)
    generalize relayAll t2 e1 (SetTable.grown e1.size)=R at r1 r2 r3 ⊢
    obtain ⟨e2,t3,gv2⟩:=R
    dsimp only at r1 r2 r3 ⊢
    have sm2:e2.size < scanBound:=by rw [← Array.length_toList,r1.length_eq,Array.length_toList];exact sm1
    obtain ⟨g2,T2⟩:=xK (P:=P) (w:=w) (ss':=ss ++ [x]) g1 ex rfl (el1.perm r1) ((r1.map _).trans pm1) sm2 r2 (r3.1.trans l2) (r3.2 n2)
    refine wpAny_bind (gave _ (wpAny_bind (wpAny_storeSet_of g1 rfl ?_ (fits_of_scanBound sm2))))
    exact wpAny_pure (wpAny_pure (k _ _ (b1.trans (Heap.SameBut.update _ a _)) T2))
   ·exact wpAny_pure (wpAny_pure (k _ _ b1 T1))
  have pk:plainKind (.str x tk)=false:=rfl
  by_cases h1:t1.plain=true
  ·rw [if_pos h1,hashByValue_scannable 8 rfl,pk]
   refine wpAny_bind (wpAny_pure ?_)
   exact tail { t1 with plain:=false } (SetTable.fits_plain_off p2) (p3.trans led) rfl
  ·rw [if_neg h1]
   refine wpAny_bind (wpAny_pure ?_)
   exact tail t1 p2 (p3.trans led) (by simpa using h1)
end
theorem bA:Slot "set_iterator" "__next__" "set_iterator.__next__" :=
 .of (owner:="set_iterator") (n:="__next__") (by rw [typeLookup_type,builtinLookup_eq_fast];kernel_rfl) (by decide +kernel) (by decide +kernel) (by decide +kernel) (by first | exact .inl (by decide +kernel) | exact .inr (by decide +kernel)) (by rw [isSubtype_type];kernel_rfl)
theorem iS:Slot "set_iterator" "__iter__" "set_iterator.__iter__" :=
 .of (owner:="set_iterator") (n:="__iter__") (by rw [typeLookup_type,builtinLookup_eq_fast];kernel_rfl) (by decide +kernel) (by decide +kernel) (by decide +kernel) (by first | exact .inl (by decide +kernel) | exact .inr (by decide +kernel)) (by rw [isSubtype_type];kernel_rfl)
theorem d9:entryFor table "set_iterator.__next__" = some Builtin.«set_iterator.__next__»:=entryFor_of_fast (by kernel_rfl)
theorem mO:entryFor table "set_iterator.__iter__" = some Builtin.«dict_keyiterator.__iter__»:=entryFor_alias (id':="dict_keyiterator.__iter__") (by kernel_rfl) rfl (by decide +kernel) (by kernel_rfl)
theorem eH (a:Value):argsOk "set_iterator.__next__" ⟨[a],[]⟩:=by unfold argsOk;kernel_rfl
theorem n6 (a:Value):argsOk "set_iterator.__iter__" ⟨[a],[]⟩:=by unfold argsOk;kernel_rfl
theorem rS:entryFor table "set.__iter__" = some Builtin.«frozenset.__iter__»:=entryFor_alias (id':="frozenset.__iter__") (by kernel_rfl) rfl (by decide +kernel) (by kernel_rfl)
noncomputable def eZ (h:Heap)(it a:Addr)(first:Value)(i n ep:Nat):Prop:=∃ o,h.get? it=some o/\o.cls = .type "set_iterator"/\o.data = .fields #[first,.int i 0,.ref a,.int n 0,.int ep 0]
structure kX (h:Heap)(a:Addr)(es:Array (Int×Value))(ep:Nat)(t:SetTable):Prop where
 ex:∃ o,h.get? a=some o/\o.ExactSet/\o.data = .set es ep t
 fit:t.fits es.size=true
section
variable {P:Program}{w:World}{A:Around}{E:bX}{s:Shared}{it a:Addr}{first:Value}{i n ep:Nat}{es:Array (Int×Value)}{t:SetTable}
theorem eZ.ty (h:eZ s.heap it a first i n ep):s.TypeIs (.ref it) "set_iterator":=by
 obtain ⟨o,h1,h2,_⟩:=h
 exact ⟨o,h1,h2⟩
theorem eZ.set {h:Heap}{o:Obj}{vs:iA}(k:Nat)(x:Value)(g:h.get? it=some o)(d:o.data = .fields vs):(h.update it (Obj.mapFields (·.setIfInBounds k x))).get? it=some (o.mapFields (·.setIfInBounds k x))/\(o.mapFields (·.setIfInBounds k x)).data = .fields (vs.setIfInBounds k x)/\(o.mapFields (·.setIfInBounds k x)).cls=o.cls:=by
 refine ⟨Heap.get?_update_self _ g (Obj.isFreed_of_fields (Obj.data_mapFields d _)),Obj.data_mapFields d _,Obj.cls_mapFields ..⟩
theorem xN {k nx:Nat}{x:Value}{Q:Option Value->Shared->Prop}(hit:eZ s.heap it a (.int k 0) i n ep)(S:kX s.heap a es ep t)(hn:es.size=n)
  (sn:∀ (A:Around) (E:bX) (Q:Option (Value×Nat)->Shared->Prop),Q (some (x,nx)) s->wpAny (model P w) A (setNext a k i ep) Q E s)
  (q:∀ h',eZ h' it a (.int nx 0) (i + 1) n ep->Heap.SameBut it s.heap h'->Q (some x) { s with heap:=h' }):wpAny (model P w) A (pyNext (.ref it)) Q E s:=by
 have ty:=hit.ty
 obtain ⟨o,g,c,d⟩:=hit
 obtain ⟨⟨oa,ga,xa,da⟩,fa⟩:=S
 unfold pyNext
 refine wpAny_bind (wpAny_attempt (wpAny_callSpecial?_slot (name:=Str.ofString "__next__") ty bA (wpAny_call_entry bA ty d9 ?_ (eH _))))
 show wpAny _ _ (fieldsOf (.ref it) >>= _) _ _ s
 refine wpAny_bind (wpAny_fieldsOf g d ?_)
 show wpAny _ _ (setEntries a >>= _) _ _ s
 refine wpAny_bind (wpAny_setEntries_of ga da fa ?_)
 rw [hn,if_neg (by simp)]
 show wpAny _ _ (setNext a (k:Int).toNat (i:Int).toNat (ep:Int).toNat >>= _) _ _ s
 rw [Int.toNat_natCast,Int.toNat_natCast,Int.toNat_natCast]
 refine wpAny_bind (sn _ _ _ ?_)
 obtain ⟨g1,d1,c1⟩:=eZ.set 0 (.int nx 0) g d
 obtain ⟨g2,d2,c2⟩:=eZ.set 1 (.int ((i:Int) + 1) 0) g1 d1
 refine wpAny_bind (wpAny_setField g d (by simp) (wpAny_bind (wpAny_setField g1 d1 (by simp) (wpAny_pure ⟨x,rfl,wpAny_pure (q _ ⟨_,g2,c2.trans (c1.trans c),?_⟩ ((Heap.SameBut.update ..).trans (Heap.SameBut.update ..)))⟩))))
 rw [d2]
 simp
theorem BZ {k:Nat}{Q:Option Value->Shared->Prop}(hh:A.handled=none)(hit:eZ s.heap it a (.int k 0) i n ep)(S:kX s.heap a es ep t)(hn:es.size=n)
  (sn:∀ (A:Around) (E:bX) (Q:Option (Value×Nat)->Shared->Prop),Q none s->wpAny (model P w) A (setNext a k i ep) Q E s)
  (q:∀ h',Heap.ExtBut it s.heap h'->Q none { s with heap:=h' }):wpAny (model P w) A (pyNext (.ref it)) Q E s:=by
 have ty:=hit.ty
 obtain ⟨o,g,c,d⟩:=hit
 obtain ⟨⟨oa,ga,xa,da⟩,fa⟩:=S
 unfold pyNext
 refine wpAny_bind (wpAny_attempt (wpAny_callSpecial?_slot (name:=Str.ofString "__next__") ty bA (wpAny_call_entry bA ty d9 ?_ (eH _))))
 show wpAny _ _ (fieldsOf (.ref it) >>= _) _ _ s
 refine wpAny_bind (wpAny_fieldsOf g d ?_)
 show wpAny _ _ (setEntries a >>= _) _ _ s
 refine wpAny_bind (wpAny_setEntries_of ga da fa ?_)
 rw [hn,if_neg (by simp)]
 show wpAny _ _ (setNext a (k:Int).toNat (i:Int).toNat (ep:Int).toNat >>= _) _ _ s
 rw [Int.toNat_natCast,Int.toNat_natCast,Int.toNat_natCast]
 refine wpAny_bind (sn _ _ _ (wpAny_bind (wpAny_setField g d (by simp) ?_)))
 wp_walk
 refine wpAny_raiseNew_none hh (wpAny_bind (wpAny_isInstance (b:=true) ⟨_,Heap.get?_push_size _ rfl,rfl⟩ isSubtype_stop (wpAny_pure (q _ ?_))))
 exact ((Heap.SameBut.update ..).extBut.push _).push _
end
section
variable {P:Program}{w:World}{A:Around}{E:bX}{s:Shared}{it a tp:Addr}{first:Value}{i n ep:Nat}{es:Array (Int×Value)}{t:SetTable}{od:List Nat}
noncomputable def j0 (od:List Nat):iA:=(od.map fun (i:Nat)=>rawInt i).toArray
theorem A5 {Q:Option Value->Shared->Prop}{p:Nat}{e:Int×Value}(hit:eZ s.heap it a (.ref tp) i n ep)(T:∃ o k,s.heap.get? tp=some o/\o.data = .seq (j0 od) k)(S:kX s.heap a es ep t)(hn:es.size=n)(hp:od[i]?=some p)(he:es[p]?=some e)
  (q:∀ h',eZ h' it a (.ref tp) (i + 1) n ep->Heap.SameBut it s.heap h'->Q (some e.2) { s with heap:=h' }):wpAny (model P w) A (pyNext (.ref it)) Q E s:=by
 have ty:=hit.ty
 obtain ⟨o,g,c,d⟩:=hit
 obtain ⟨⟨oa,ga,xa,da⟩,fa⟩:=S
 obtain ⟨ot,kt,gt,dt⟩:=T
 unfold pyNext
 refine wpAny_bind (wpAny_attempt (wpAny_callSpecial?_slot (name:=Str.ofString "__next__") ty bA (wpAny_call_entry bA ty d9 ?_ (eH _))))
 show wpAny _ _ (fieldsOf (.ref it) >>= _) _ _ s
 refine wpAny_bind (wpAny_fieldsOf g d ?_)
 show wpAny _ _ (setEntries a >>= _) _ _ s
 refine wpAny_bind (wpAny_setEntries_of ga da fa ?_)
 rw [hn,if_neg (by simp)]
 show wpAny _ _ (seqItems? (.ref tp) >>= _) _ _ s
 refine wpAny_bind (wpAny_seqItems gt dt ?_)
 have at_:(j0 od)[i]?=some (.int p 0):=by simp [j0,hp,rawInt]
 dsimp only
 rw [Int.toNat_natCast,at_]
 dsimp only
 rw [Int.toNat_natCast,Int.toNat_natCast]
 unfold setNextDrawn
 refine wpAny_bind (wpAny_bind (wpAny_setState_of ga da fa ?_))
 dsimp only
 rw [if_neg (by simp),he]
 refine wpAny_pure ?_
 obtain ⟨g1,d1,c1⟩:=eZ.set 1 (.int ((i:Int) + 1) 0) g d
 refine wpAny_bind (wpAny_setField g d (by simp) (wpAny_pure ⟨e.2,rfl,wpAny_pure (q _ ⟨_,g1,c1.trans c,?_⟩ (Heap.SameBut.update ..))⟩))
 rw [d1]
 simp
theorem EK {Q:Option Value->Shared->Prop}(hh:A.handled=none)(hit:eZ s.heap it a (.ref tp) i n ep)(T:∃ o k,s.heap.get? tp=some o/\o.data = .seq (j0 od) k)(S:kX s.heap a es ep t)(hn:es.size=n)(hp:od[i]?=none)
  (q:∀ h',Heap.ExtBut it s.heap h'->Q none { s with heap:=h' }):wpAny (model P w) A (pyNext (.ref it)) Q E s:=by
 have ty:=hit.ty
 obtain ⟨o,g,c,d⟩:=hit
 obtain ⟨⟨oa,ga,xa,da⟩,fa⟩:=S
 obtain ⟨ot,kt,gt,dt⟩:=T
 unfold pyNext
 refine wpAny_bind (wpAny_attempt (wpAny_callSpecial?_slot (name:=Str.ofString "__next__") ty bA (wpAny_call_entry bA ty d9 ?_ (eH _))))
 show wpAny _ _ (fieldsOf (.ref it) >>= _) _ _ s
 refine wpAny_bind (wpAny_fieldsOf g d ?_)
 show wpAny _ _ (setEntries a >>= _) _ _ s
 refine wpAny_bind (wpAny_setEntries_of ga da fa ?_)
 rw [hn,if_neg (by simp)]
 show wpAny _ _ (seqItems? (.ref tp) >>= _) _ _ s
 refine wpAny_bind (wpAny_seqItems gt dt ?_)
 have at_:(j0 od)[i]?=none:=by simp [j0] at hp ⊢;exact hp
 dsimp only
 rw [Int.toNat_natCast,at_]
 dsimp only
 obtain ⟨g1,d1,c1⟩:=eZ.set 0 (.int 0 0) g d
 refine wpAny_bind (wpAny_setField g d (by simp) (wpAny_bind (wpAny_setField g1 d1 (by simp) ?_)))
 wp_walk
 refine wpAny_raiseNew_none hh (wpAny_bind (wpAny_isInstance (b:=true) ⟨_,Heap.get?_push_size _ rfl,rfl⟩ isSubtype_stop (wpAny_pure (q _ ?_))))
 exact (((Heap.SameBut.update ..).trans (Heap.SameBut.update ..)).extBut.push _).push _
theorem BE {src:Source}{n:Nat}{Q:Nat->Shared->Prop}(h:n≠0)(q:∀ d dr,d < n->Q d { s with drawn:=dr }):wpAny (model P w) A (choose src n) Q E s:=fun Γ p _=>by
 unfold choose
 rw [PySem.Sem.wp_choose]
 exact ⟨h,q _ _ (Nat.mod_lt _ (Nat.pos_of_ne_zero h))⟩
theorem mL {α:Type}:∀ (l:List α) (i:Nat) (h:i < l.length),(l[i] :: l.eraseIdx i).Perm l
 | x :: l,0,_=>.rfl
 | x :: l,i + 1,h=>(List.Perm.swap ..).trans ((mL l i (Nat.lt_of_succ_lt_succ h)).cons x)
theorem A6 {α:Type}:∀ (n:Nat) (xs:List α) (s:Shared) {Q:List α->Shared->Prop},xs.length=n->(∀ ys dr,ys.Perm xs->Q ys { s with drawn:=dr })->wpAny (model P w) A (drawOrder n xs) Q E s:=by
 intro n
 induction n with
 | zero =>
  intro xs s Q h q
  rw [List.length_eq_zero_iff.mp h] at q ⊢
  exact wpAny_pure (q [] s.drawn .rfl)
 | succ n ih =>
  intro xs s Q h q
  cases xs with
  | nil=>cases h
  | cons x0 rest =>
   unfold drawOrder
   refine wpAny_bind (BE (by simp) fun d dr hd=>?_)
   rw [List.getElem?_eq_getElem hd]
   have pe:=mL (x0 :: rest) d hd
   refine wpAny_bind (ih _ _ (by have:=pe.length_eq;simp only [List.length_cons] at this h ⊢;omega) fun ys dr2 py=>wpAny_pure (q _ _ ((py.cons _).trans pe)))
theorem lX (bt:byTx w=true)(S:kX s.heap a es ep t){k:Nat}{Q:Option (Value×Nat)->Shared->Prop}(q:Q (((pickOrder (w.params.setOrder a ep) es)[i]?).map fun e=>(e.2,k)) s):wpAny (model P w) A (setNext a k i ep) Q E s:=by
 obtain ⟨⟨oa,ga,xa,da⟩,fa⟩:=S
 unfold setNext setWalk setsByText
 refine wpAny_bind (wpAny_setState_of ga da fa (wpAny_bind (wpAny_bind (wpAny_askSetting (wpAny_pure ?_)))))
 have b2:({ program:=(model P w).prog,params:=(model P w).w.params }:Setting).params.followText "set-order" = true:=bt
 rw [if_pos b2]
 dsimp only
 rw [if_neg (by simp)]
 refine wpAny_bind (wpAny_bind (wpAny_setState_of ga da fa (wpAny_bind (wpAny_bind (wpAny_askSetting (wpAny_pure ?_))))))
 rw [if_pos b2]
 exact wpAny_bind (wpAny_askSetting (wpAny_pure (wpAny_pure q)))
end
theorem JR {α:Type}(f:Nat->Nat):∀ (n k:Nat) (left:List α) (out:Array α),left.length=n->(pickOrder.go f n k left out).toList.Perm (out.toList ++ left):=by
 intro n
 induction n with
 | zero=>intro k left out h;rw [List.length_eq_zero_iff.mp h,List.append_nil];exact .rfl
 | succ n ih =>
  intro k left out h
  have lt:f k % left.length < left.length:=Nat.mod_lt _ (by omega)
  have pe:=mL left _ lt
  unfold pickOrder.go
  rw [List.getElem?_eq_getElem lt]
  refine (ih _ _ _ (by have:=pe.length_eq;simp only [List.length_cons] at this;omega)).trans ?_
  rw [Array.toList_push,List.append_assoc]
  exact pe.append_left _
theorem oW {α:Type}(f:Nat->Nat)(xs:Array α):(pickOrder f xs).toList.Perm xs.toList:=by
 have:=JR f xs.size 0 xs.toList #[] (by simp)
 simpa [pickOrder] using this
theorem uX (j:Nat):SetTable.below #[j] 0=0/\SetTable.below #[j] (j + 1)=1:=by
 constructor <;> simp [SetTable.below,SetTable.below.go]
section
variable {P:Program}{w:World}{A:Around}{E:bX}{s:Shared}{it a tp:Addr}{first:Value}{i n ep:Nat}{es:Array (Int×Value)}{t:SetTable}{od:List Nat}
noncomputable def nQ (es:Array (Int×Value))(t:SetTable)(k:Nat):Option (Value×Nat):=match es[SetTable.below t.place k]?,t.place[SetTable.below t.place k]? with | some (_,x),some j=>some (x,j + 1) | _,_=>none
theorem nH (bf:byTx w=false)(sm:es.size<=1)(led:t.led=true)(S:kX s.heap a es ep t){k:Nat}{Q:Option (Value×Nat)->Shared->Prop}(q:Q (nQ es t k) s):wpAny (model P w) A (setNext a k i ep) Q E s:=by
 obtain ⟨⟨oa,ga,xa,da⟩,fa⟩:=S
 have b2:({ program:=(model P w).prog,params:=(model P w).w.params }:Setting).params.followText "set-order" = false:=bf
 unfold setNext setsByText
 refine wpAny_bind (wpAny_setState_of ga da fa (wpAny_bind (wpAny_bind (wpAny_askSetting (wpAny_pure ?_)))))
 rw [b2,if_neg Bool.false_ne_true]
 dsimp only
 split
 ·rename_i h
  have h:(!t.plain && decide (es.size > 1))=true:=h
  simp only [Bool.and_eq_true,decide_eq_true_eq] at h
  omega
 ·refine wpAny_bind (show wpAny _ _ (if (!t.led && !es.isEmpty)=true then unsupported "set:maker-not-led" else pure ()) _ _ _ from ?_)
  rw [led,if_neg (by simp)]
  exact wpAny_pure (wpAny_pure q)
noncomputable def L0 (w:World)(it a tp:Addr)(es:Array (Int×Value))(ep:Nat)(t:SetTable)(vs:bP)(i:Nat)(h:Heap):Prop :=
 kX h a es ep t/\((byTx w=true/\eZ h it a (.int (0:Nat) 0) i es.size ep/\vs=(pickOrder (w.params.setOrder a ep) es).toList.map (·.2)) ∨
  (byTx w=false/\es.size<=1/\t.led=true/\(∃ k:Nat,eZ h it a (.int k 0) i es.size ep/\((i=0/\k=0)∨(i=1/\∃ j,t.place = #[j]/\k=j + 1)))/\vs=es.toList.map (·.2)) ∨
  ∃ od:List Nat,eZ h it a (.ref tp) i es.size ep/\(∃ o k,h.get? tp=some o/\o.data = .seq (j0 od) k)/\od.Perm (List.range es.size)/\vs=od.map fun p=>(es.getD p (0,.none)).2)
theorem eZ.at {h h':Heap}(x:eZ h it a first i n ep)(k:∀ o,h.get? it=some o->h'.get? it=some o):eZ h' it a first i n ep:=by
 obtain ⟨o,e,r⟩:=x
 exact ⟨o,k _ e,r⟩
theorem kX.at {h h':Heap}(x:kX h a es ep t)(k:∀ o,h.get? a=some o->h'.get? a=some o):kX h' a es ep t:=by
 obtain ⟨⟨o,e,r⟩,f⟩:=x
 exact ⟨⟨o,k _ e,r⟩,f⟩
theorem qX {Q:bX}(hit:eZ s.heap it a first i n ep)(q:Q (.ref it) s):wpAny (model P w) A (pyIter (.ref it)) Q E s:=by
 have ty:=hit.ty
 refine wpAny_pyIter_slot ty iS (wpAny_call_entry iS ty mO ?_ (n6 _))
 exact wpAny_pure ⟨_,rfl,"set_iterator",_,ty,bA.lookup,q⟩
theorem tN (hh:A.handled=none)(na:a≠it)(nt:tp≠it){vs:bP}:Walks P w A it [it,a,tp] [it] es.size (fun i v=>vs[i]?=some v) (L0 w it a tp es ep t vs) where
 sub:=fun b hb=>by simp only [List.mem_singleton] at hb;simp [hb]
 frame:=by
  rintro i h h' ⟨S,m⟩ k
  have k1:=k it (by simp)
  have k2:=k a (by simp)
  have k3:=k tp (by simp)
  refine ⟨S.at k2,?_⟩
  rcases m with ⟨m1,m2,m3⟩ | ⟨m1,m2,m3,⟨k,m4,m5⟩,m6⟩ | ⟨od,m1,⟨o,c,m2,m3⟩,m4⟩
  ·exact .inl ⟨m1,m2.at k1,m3⟩
  ·exact .inr (.inl ⟨m1,m2,m3,⟨k,m4.at k1,m5⟩,m6⟩)
  ·exact .inr (.inr ⟨od,m1.at k1,⟨o,c,k3 _ m2,m3⟩,m4⟩)
 item:=by
  rintro i s Q E lt ⟨S,m⟩ q
  have keep:∀ h',Heap.SameBut it s.heap h'->∀ b o,b ∉ [it]->s.heap.get? b=some o->h'.get? b=some o:=fun h' sb b o nb e=>sb.extBut b o (by simpa using nb) e
  rcases m with ⟨m1,m2,m3⟩ | ⟨m1,m2,m3,⟨k,m4,m5⟩,m6⟩ | ⟨od,m1,⟨o,c,m2,m3⟩,m4,m5⟩
  ·have pp:=oW (w.params.setOrder a ep) es
   have l1:(pickOrder (w.params.setOrder a ep) es).size=es.size:=by rw [← Array.length_toList,pp.length_eq,Array.length_toList]
   have g:(pickOrder (w.params.setOrder a ep) es)[i]?=some ((pickOrder (w.params.setOrder a ep) es)[i]'(by omega)):=Array.getElem?_eq_getElem _
   refine xN m2 S rfl (fun A E Q z=>lX m1 S (by rw [g];exact z)) fun h' i1 sb=>q _ h' s.toks ?_ ⟨S.at fun o e=>sb.extBut _ _ na e,.inl ⟨m1,i1,m3⟩⟩ (keep h' sb)
   rw [m3,List.getElem?_map,Array.getElem?_toList,g]
   rfl
  ·have e1:es.size=1:=by omega
   have i0:i=0:=by omega
   subst i0
   have k0:k=0:=by rcases m5 with z | z;exact z.2;exact absurd z.1 (by omega)
   subst k0
   obtain ⟨e,he⟩:∃ e,es = #[e]:=by
    obtain ⟨l⟩:=es
    match l,e1 with
    | [e],_=>exact ⟨e,rfl⟩
   obtain ⟨j,hj⟩:∃ j,t.place = #[j]:=by
    have f:=S.fit
    simp only [SetTable.fits,Bool.and_eq_true,beq_iff_eq] at f
    obtain ⟨⟨p⟩,pl⟩:∃ p,t.place=p:=⟨_,rfl⟩
    rw [pl,e1] at f
    match p,f.1 with
    | [j],_=>exact ⟨j,pl⟩
   have on:nQ es t 0=some (e.2,j + 1):=by
    unfold nQ
    rw [hj,(uX j).1,he]
    rfl
   refine xN m4 S rfl (fun A E Q z=>nH m1 m2 m3 S (by rw [on];exact z)) fun h' i1 sb=>q _ h' s.toks ?_ ⟨S.at fun o e=>sb.extBut _ _ na e,.inr (.inl ⟨m1,m2,m3,⟨j + 1,i1,.inr ⟨rfl,j,hj,rfl⟩⟩,m6⟩)⟩ (keep h' sb)
   rw [m6,he]
   rfl
  ·have lo:od.length=es.size:=by rw [m4.length_eq,List.length_range]
   have g:od[i]?=some (od[i]'(by omega)):=List.getElem?_eq_getElem _
   have lp:od[i]'(by omega) < es.size:=List.mem_range.mp (m4.mem_iff.mp (List.getElem_mem _))
   refine A5 m1 ⟨o,c,m2,m3⟩ S rfl g (Array.getElem?_eq_getElem lp) fun h' i1 sb=>q _ h' s.toks ?_ ⟨S.at fun o e=>sb.extBut _ _ na e,.inr (.inr ⟨od,i1,⟨o,c,sb.extBut _ _ nt m2,m3⟩,m4,m5⟩)⟩ (keep h' sb)
   rw [m5,List.getElem?_map,g]
   simp [lp]
 done:=by
  rintro s Q E ⟨S,m⟩ q
  have keep:∀ h',Heap.ExtBut it s.heap h'->Q none { s with heap:=h',toks:=s.toks }:=fun h' sb=>q h' s.toks fun b o nb e=>sb b o (by simpa using nb) e
  rcases m with ⟨m1,m2,m3⟩ | ⟨m1,m2,m3,⟨k,m4,m5⟩,m6⟩ | ⟨od,m1,⟨o,c,m2,m3⟩,m4,m5⟩
  ·have pp:=oW (w.params.setOrder a ep) es
   have l1:(pickOrder (w.params.setOrder a ep) es).size=es.size:=by rw [← Array.length_toList,pp.length_eq,Array.length_toList]
   have g:(pickOrder (w.params.setOrder a ep) es)[es.size]?=none:=Array.getElem?_eq_none (by omega)
   exact BZ hh m2 S rfl (fun A E Q z=>lX m1 S (by rw [g];exact z)) keep
  ·have on:nQ es t k=none:=by
    unfold nQ
    rcases m5 with ⟨z1,z2⟩ | ⟨z1,j,hj,z2⟩
    ·have:es[SetTable.below t.place k]?=none:=Array.getElem?_eq_none (by omega)
     rw [this]
    ·have:es[SetTable.below t.place k]?=none:=by rw [hj,z2,(uX j).2];exact Array.getElem?_eq_none (by omega)
     rw [this]
   exact BZ hh m4 S rfl (fun A E Q z=>nH m1 m2 m3 S (by rw [on];exact z)) keep
  ·exact EK hh m1 ⟨o,c,m2,m3⟩ S rfl (List.getElem?_eq_none (by rw [m4.length_eq,List.length_range];exact Nat.le_refl _)) keep
 self:=by
  rintro i s Q E ⟨S,m⟩ q
  rcases m with ⟨m1,m2,m3⟩ | ⟨m1,m2,m3,⟨k,m4,m5⟩,m6⟩ | ⟨od,m1,_⟩
  ·exact qX m2 q
  ·exact qX m4 q
  ·exact qX m1 q
end
theorem zW:typeLookup (.type "set") "__len__" = pure (some (.builtin "set.__len__")):=by
 rw [typeLookup_type,builtinLookup_eq_fast];kernel_rfl
theorem JB:isSubtype (.type "set") (.type "set")=pure true:=by
 rw [isSubtype_type];kernel_rfl
section
variable {P:Program}{w:World}{A:Around}{E:bX}{s:Shared}{it a tp:Addr}{ss:aQ}
structure OK (w:World)(h h':Heap)(a:Addr)(ss:aQ)(it tp:Addr)(es:Array (Int×Value))(ep:Nat)(t:SetTable)(vs:bP):Prop where
 st:L0 w it a tp es ep t vs 0 h'
 na:a≠it
 nt:tp≠it
 it0:h.objs.size<=it
 tp0:tp=a∨h.objs.size<=tp
 keep:∀ b o,h.get? b=some o->h'.get? b=some o
 len:vs.length=es.size
 perm:(vs.map strOf).Perm ss
 txt:∀ v ∈ vs,∃ x k,v = .str x k
theorem IZ {es:List (Int×Value)}(el:ElemsOf (PySem.strKind P w) es):∀ e ∈ es,∃ x k,e.2 = .str x k:=fun e he=>by
 obtain ⟨⟨k,hk,_⟩,_⟩:=el e he
 obtain ⟨t,z⟩:=oK.mp hk
 exact ⟨k,t,z⟩
theorem HB {Q:bX}(X:kW P w s.heap a ss)(q:∀ it tp es ep t vs h' dr,OK w s.heap h' a ss it tp es ep t vs->Q (.ref it) { s with heap:=h',drawn:=dr }):wpAny (model P w) A (pyIter (.ref a)) Q E s:=by
 obtain ⟨o,es,ep,t,g,ex,d,el,pm,sm,ft,led,pl⟩:=id X
 have ty:s.TypeIs (.ref a) "set":=⟨o,g,ex.1⟩
 have lt:=Heap.lt_size g
 have al:=IZ el
 have pv:((es.toList.map (·.2)).map strOf).Perm ss:=by rw [List.map_map];exact pm
 refine wpAny_pyIter_slot ty F.slot_set_iter (wpAny_call_entry F.slot_set_iter ty rS ?_ (F.args_set_iter_1 _))
 show wpAny _ _ (Builtin.Frozenset.sizeOf a >>= _) _ _ s
 unfold Builtin.Frozenset.sizeOf
 refine wpAny_bind (wpAny_bind (wpAny_setEntries_of g d ft (wpAny_pure ?_)))
 unfold setDrawn setsByText
 refine wpAny_bind (wpAny_bind (wpAny_setState_of g d ft (wpAny_bind (wpAny_bind (wpAny_askSetting (wpAny_pure ?_))))))
 have bx:({ program:=(model P w).prog,params:=(model P w).w.params }:Setting).params.followText "set-order" = byTx w:=rfl
 rw [bx]
 dsimp only
 refine wpAny_pure ?_
 split
 ·rename_i hd
  have hd:(!byTx w && (!t.plain && decide (es.size > 1)))=true:=hd
  simp only [Bool.and_eq_true] at hd
  have bf:byTx w=false:=by simpa using hd.1
  refine wpAny_bind (A6 es.size (List.range es.size) s (by simp) fun od dr po=>?_)
  have lo:od.length=es.size:=by rw [po.length_eq,List.length_range]
  have big:(od.map fun (i:Nat)=>rawInt i).length<=sizeLine:=by rw [List.length_map,lo];exact fits_of_scanBound sm
  refine wpAny_bind (wpAny_newTuple ?_ big)
  refine wpAny_bind (wpAny_setEpoch_of (o:=o) (Heap.get?_push_of_some _ g) d ft ?_)
  refine wpAny_bind (wpAny_newObj_type (wpAny_pure ⟨_,rfl,"set_iterator",_,⟨_,Heap.get?_push_size _ rfl,rfl⟩,bA.lookup,?_⟩))
  have z1:(s.heap.push { cls:=.type "tuple",data:=.seq (od.map fun (i:Nat)=>rawInt i).toArray }).objs.size=s.heap.objs.size + 1:=Heap.size_push _ _
  refine q _ s.heap.objs.size es ep t (od.map fun p=>(es.getD p (0,.none)).2) _ dr ⟨⟨⟨⟨o,Heap.get?_push_of_some _ (Heap.get?_push_of_some _ g),ex,d⟩,ft⟩,.inr (.inr ⟨od,⟨_,Heap.get?_push_size _ rfl,rfl,rfl⟩,⟨_,0,Heap.get?_push_of_some _ (Heap.get?_push_size _ rfl),rfl⟩,po,rfl⟩)⟩,?_,?_,?_,.inr (Nat.le_refl _),fun b o e=>Heap.get?_push_of_some _ (Heap.get?_push_of_some _ e),by rw [List.length_map,lo],?_,?_⟩
  ·show a≠(s.heap.push _).objs.size
   rw [z1];exact Nat.ne_of_lt (Nat.lt_succ_of_lt lt)
  ·show s.heap.objs.size≠(s.heap.push _).objs.size
   rw [z1];omega
  ·show s.heap.objs.size<=(s.heap.push _).objs.size
   rw [z1];omega
  ·have e:(List.range es.size).map (fun p=>(es.getD p (0,.none)).2)=es.toList.map (·.2):=by
    apply List.ext_getElem
    ·simp
    ·intro i h1 h2
     simp at h1
     simp [h1]
   refine ((po.map _).map strOf).trans ?_
   rw [e]
   exact pv
  ·intro v hv
   obtain ⟨p,hp,rfl⟩:=List.mem_map.mp hv
   have lp:p < es.size:=List.mem_range.mp (po.mem_iff.mp hp)
   have:es.getD p (0,.none)=es[p]:=by simp [lp]
   rw [this]
   exact al _ (by simp)
 ·rename_i hd
  have hd:¬ (!byTx w && (!t.plain && decide (es.size > 1)))=true:=hd
  refine wpAny_bind (wpAny_pure (wpAny_bind (wpAny_setEpoch_of g d ft (wpAny_bind (wpAny_newObj_type (wpAny_pure ⟨_,rfl,"set_iterator",_,⟨_,Heap.get?_push_size _ rfl,rfl⟩,bA.lookup,?_⟩))))))
  have it0:eZ (s.heap.push { cls:=.type "set_iterator",data:=.fields #[.int (0:Nat) 0,.int (0:Nat) 0,.ref a,.int es.size 0,.int ep 0] }) s.heap.objs.size a (.int (0:Nat) 0) 0 es.size ep:=⟨_,Heap.get?_push_size _ rfl,rfl,rfl⟩
  have S:kX (s.heap.push { cls:=.type "set_iterator",data:=.fields #[.int (0:Nat) 0,.int (0:Nat) 0,.ref a,.int es.size 0,.int ep 0] }) a es ep t:=⟨⟨o,Heap.get?_push_of_some _ g,ex,d⟩,ft⟩
  cases bt:byTx w with
  | true =>
   have pp:=oW (w.params.setOrder a ep) es
   exact q _ a es ep t ((pickOrder (w.params.setOrder a ep) es).toList.map (·.2)) _ s.drawn ⟨⟨S,.inl ⟨bt,it0,rfl⟩⟩,Nat.ne_of_lt lt,Nat.ne_of_lt lt,Nat.le_refl _,.inl rfl,fun b o e=>Heap.get?_push_of_some _ e,by rw [List.length_map,pp.length_eq,Array.length_toList],((pp.map _).map strOf).trans pv,fun v hv=>by
    obtain ⟨e,he,rfl⟩:=List.mem_map.mp hv
    exact al e (pp.mem_iff.mp he)⟩
  | false =>
   have sm1:es.size<=1:=by
    rw [bt] at hd
    rcases pl with z | z
    ·omega
    ·rw [z] at hd
     simp at hd
     exact hd
   exact q _ a es ep t (es.toList.map (·.2)) _ s.drawn ⟨⟨S,.inr (.inl ⟨bt,sm1,by rw [led,bt];rfl,⟨0,it0,.inl ⟨rfl,rfl⟩⟩,rfl⟩)⟩,Nat.ne_of_lt lt,Nat.ne_of_lt lt,Nat.le_refl _,.inl rfl,fun b o e=>Heap.get?_push_of_some _ e,by simp,pv,fun v hv=>by
    obtain ⟨e,he,rfl⟩:=List.mem_map.mp hv
    exact al e he⟩
theorem FX {Q:Bool->Shared->Prop}(ty:s.TypeIs (.ref a) "set")(h:Q false s):wpAny (model P w) A (Builtin.List.listLengthHint (.ref a)) Q E s:=by
 have sp:splitId "set.__len__" = some ("set","__len__"):=by decide +kernel
 delta Builtin.List.listLengthHint
 refine wpAny_bind (wpAny_specialOf ty zW ?_)
 dsimp only
 rw [sp]
 dsimp only
 refine wpAny_bind (wpAny_isInstance (b:=true) ty JB ?_)
 rw [if_neg (by decide),if_pos (by decide +kernel)]
 refine wpAny_bind (wpAny_typeOf ty ?_)
 exact wpAny_pure h
theorem y0 {Q:bP->Shared->Prop}(hh:A.handled=none)(X:kW P w s.heap a ss)(hz:ss.length<=sizeLine)
  (q:∀ (vs:bP) (s':Shared),(vs.map strOf).Perm ss->(∀ v ∈ vs,∃ x k,v = .str x k)->(∀ b o,s.heap.get? b=some o->s'.heap.get? b=some o)->s'.gens=s.gens->s'.os=s.os->Q vs s'):wpAny (model P w) A (collect (.ref a)) Q E s:=by
 have ga:a < s.heap.objs.size:=by obtain ⟨o,_,_,_,e,_⟩:=id X;exact Heap.lt_size e
 unfold collect
 refine wpAny_bind (wpAny_runValue (codeAny_builtin PySem.F.entry_proto_collect ((Around.under_plainId PySem.F.plain_proto_collect _).symm ▸ ?_)))
 show wpAny (model P w) A.in1 (newList [] >>= fun v=>again (.builtin "list.__iadd__" ⟨[v,.ref a],[]⟩)) _ _ s
 refine wpAny_bind (wpAny_newObj_type (wpAny_pure ⟨plainId_quiet PySem.F.plain_list_iadd _,?_⟩))
 have X1:kW P w (s.heap.push { cls:=.type "list",data:=.seq #[] }) a ss:=X.at fun o e=>Heap.get?_push_of_some _ e
 have ty1:Shared.TypeIs { s with heap:=s.heap.push { cls:=.type "list",data:=.seq #[] } } (.ref a) "set":=by
  obtain ⟨o,_,_,_,e,ex,_⟩:=X1
  exact ⟨o,e,ex.1⟩
 have other:Builtin.List.listSameRef (.ref s.heap.objs.size) (.ref a)=false:=by simp [Builtin.List.listSameRef,Nat.ne_of_gt ga]
 refine codeAny_builtin PySem.F.entry_list_iadd ((Around.under_plainId PySem.F.plain_list_iadd _).symm ▸ ?_)
 show wpAny (model P w) A.in1 (Builtin.List.listExtendWith (.ref s.heap.objs.size) (.ref a) (.ref s.heap.objs.size)) _ _ _
 delta Builtin.List.listExtendWith
 refine wpAny_bind (wpAny_typeOf ty1 ?_)
 rw [if_neg (by rw [other];decide)]
 refine wpAny_bind (HB X1 fun it tp es ep t vs h' dr W=>?_)
 refine wpAny_bind (wpAny_holding (FX (by obtain ⟨o,e,c⟩:=ty1;exact ⟨o,W.keep _ _ e,c⟩) ?_))
 rw [if_pos (by decide +kernel)]
 have at0:h'.get? s.heap.objs.size=some (seqObj "list" #[] 0):=W.keep _ _ (Heap.get?_push_size _ rfl)
 have l0:s.heap.objs.size≠a:=Nat.ne_of_gt ga
 have l2:(s.heap.push { cls:=.type "list",data:=.seq #[] }).objs.size=s.heap.objs.size + 1:=Heap.size_push _ _
 have l1:s.heap.objs.size≠it:=fun z=>by have:=W.it0;rw [l2] at this;exact Nat.lt_irrefl _ (z ▸ this)
 have l3:s.heap.objs.size≠tp:=fun z=>by
  rcases W.tp0 with y | y
  ·exact l0 (z.trans y)
  ·rw [l2] at y;exact Nat.lt_irrefl _ (z ▸ y)
 refine wpAny_bind (wpAny_rule (wpAny_bind ?_))
 unfold Builtin.List.listTouch
 have at1:=get?_update_seq at0 (·.push Value.none)
 have at2:=get?_update_seq at1 (·.pop)
 refine wpAny_bind (listUpdate_at at0 rfl ?_)
 refine listUpdate_at at1 rfl ?_
 have st:=(tN (P:=P) (A:=A.in1) hh W.na W.nt (vs:=vs)).frame 0 h' ((h'.update s.heap.objs.size (Obj.mapSeq (·.push Value.none))).update s.heap.objs.size (Obj.mapSeq (·.pop))) W.st fun b hb o e=>by
  have nb:b≠s.heap.objs.size:=fun z=>by
   rw [List.mem_cons,List.mem_cons,List.mem_singleton] at hb
   rcases hb with y | y | y
   ·exact l1 (z.symm.trans y)
   ·exact l0 (z.symm.trans y)
   ·exact l3 (z.symm.trans y)
  exact ((Heap.SameBut.update ..).trans (Heap.SameBut.update ..)).extBut _ _ nb e
 have Ws:=(tN (P:=P) (w:=w) (A:=A.in1) (es:=es) (ep:=ep) (t:=t) hh W.na W.nt (vs:=vs)).toS
 refine wpAny_pure ⟨plainId_quiet PySem.F.plain_extend_loop _,codeAny_extend_loopS Ws (by rw [← W.len,← List.length_map (f:=strOf),W.perm.length_eq];exact hz) s.heap.objs.size (by simp [l0,l1,l3]) _ es.size 0 _ #[] _ rfl (Nat.zero_le _) st at2 (ItemsOf.nil _) fun s' acc c mv aS al=>?_⟩
 obtain ⟨e1,e2⟩:=al
 have same:acc.toList=vs:=by
  refine List.ext_getElem? fun k=>?_
  by_cases hk:k < acc.size
  ·have h1:acc[k]?=some acc[k]:=Array.getElem?_eq_getElem hk
   rw [Array.getElem?_toList,h1]
   exact (e2 k _ h1).symm
  ·rw [List.getElem?_eq_none (by simp;omega),List.getElem?_eq_none (by rw [W.len];omega)]
 refine wpAny_bind (wpAny_load aS (wpAny_pure ?_))
 rw [same]
 refine q vs s' W.perm W.txt (fun b o e=>mv.heap b o ?_ ?_) mv.gens mv.os
 ·have lb:=Heap.lt_size e
  intro hb
  rw [List.mem_cons,List.mem_singleton] at hb
  rcases hb with y | y
  ·exact Nat.ne_of_lt lb y
  ·exact absurd (Nat.lt_of_lt_of_le lb (Nat.le_trans (by rw [l2];exact Nat.le_succ _) W.it0)) (by rw [y];exact Nat.lt_irrefl _)
 ·exact ((Heap.SameBut.update ..).trans (Heap.SameBut.update ..)).extBut _ _ (Nat.ne_of_lt (Heap.lt_size e)) (W.keep _ _ (Heap.get?_push_of_some _ e))
end
theorem aO.like {X:Cx}{pins:dE}{σ:St}{H:Hp}{s s':Shared}(I:aO X pins σ H s)(h1:s'.heap=s.heap)(h2:s'.gens=s.gens)(h3:s'.os=s.os):aO X pins σ H s':=by
 obtain ⟨a1,a2,a3,a4,a5,a6,a7,a8,a9,a10,a11⟩:=I
 rw [← h1] at a4 a5 a6 a9 a10
 exact ⟨a1,h3.trans a2,h2 ▸ a3,a4,a5,a6,a7,a8,a9,a10,a11⟩
theorem aO.more {X:Cx}{pins:dE}{σ:St}{H:Hp}{s s':Shared}(I:aO X pins σ H s)(h1:∀ b o,s.heap.get? b=some o->s'.heap.get? b=some o)(h2:s'.gens=s.gens)(h3:s'.os=s.os):aO X pins σ H s' :=
 aO.like (I.kept (h':=s'.heap) (t':=s'.toks) h1) rfl h2 h3
section
variable {P:Program}{w:World}{A:Around}{E:bX}{s:Shared}{a:Addr}{ss:aQ}
theorem zU {Q:bX}(hh:A.handled=none)(X:kW P w s.heap a ss)(h64:ss.length < 64)
  (q:∀ (s1:Shared) (h':Heap) (out:iA) (ys:aQ) (e:Nat),(∀ b o,s.heap.get? b=some o->s1.heap.get? b=some o)->s1.gens=s.gens->s1.os=s.os->StrsAre out.toList ys->ys.Perm ss->sortedS ys=true ->
   h'.get? s1.heap.objs.size=some (seqObj "list" out e)->(∀ b o,s1.heap.get? b=some o->h'.get? b=some o)->Q (.ref s1.heap.objs.size) { s1 with heap:=h' }) :
  wpAny (model P w) A (call (.builtin "sorted") [.ref a]) Q E s:=by
 refine Calls.call_function_entry kind_sorted plain_sorted entry_sorted (args_sorted1 _) (show wpAny _ _ (Builtin.«sorted» _) _ _ _ from ?_)
 unfold Builtin.«sorted»
 have z64:(64:Nat)<=sizeLine:=by rw [sizeLine_eq];decide
 refine wpAny_bind (m:=checkCount "sorted" 1 1 _) (wpAny_pure (wpAny_bind (y0 (A:=A.in1) hh X (Nat.le_trans (Nat.le_of_lt h64) z64) fun vs s1 pm tx kp eg eo=>?_)))
 have hS:StrsAre vs (vs.map strOf):=strsAre_map vs tx
 have len:vs.length < 64:=by rw [← List.length_map (f:=strOf),pm.length_eq];exact h64
 refine wpAny_bind (wpAny_newList ?_ (Nat.le_trans (Nat.le_of_lt len) z64))
 have at1:(s1.heap.push (seqObj "list" vs.toArray 0)).get? s1.heap.objs.size=some (seqObj "list" vs.toArray 0):=Heap.get?_push_size _ rfl
 refine wpAny_bind (wpAny_holding (wpAny_call_entry slot_list_sort ⟨_,at1,rfl⟩ entry_list_sort (list_sort_treeK strKind_oneLt at1 hS.keysOf (fun v1 v2 rest z=>keyKind_strs (z ▸ hS)) len fun st hp hs=>⟨_,rfl,?_⟩) (args_list_sort _)))
 obtain ⟨ys,b1,b2,b3⟩:=sorted_out_str hS hp hs
 obtain ⟨e,he⟩:=sortedHeap_at (out:=(arrOf st).map (·.2)) at1
 refine wpAny_pure ⟨_,rfl,q s1 _ _ ys e kp eg eo b1 (b2.trans pm) b3 he fun b o z=>?_⟩
 have l1:=Heap.lt_size z
 rw [sortedHeap_old (Nat.ne_of_lt l1) (by rw [Heap.size_push];exact Nat.lt_succ_of_lt l1)]
 exact Heap.get?_push_of_some _ z
end
noncomputable abbrev pY (P:Program)(w:World)(a:Addr)(ss:aQ):HO:=.ext fun h=>kW P w h a ss
theorem FT {P:Program}{w:World}{H:Hp}{h:Heap}{a:Addr}{ss:aQ}(x:kW P w h a ss):cE P w H h a (pY P w a ss):=by
 refine ⟨x,?_,fun h1 h2 y k=>y.at fun o e=>k o e⟩
 obtain ⟨o,_,_,_,e,_⟩:=x
 exact ⟨o,e⟩
theorem tL:∀ {us:bP} {ys:aQ},StrsAre us ys->aU (ys.map V.str) us
 | _,_,.nil=>.nil
 | _,_,.cons x t h=>.cons ⟨t,rfl⟩ (tL h)
theorem tG:∀ {ys:aQ} {us:bP},aU (ys.map V.str) us->StrsAre us ys
 | [],us,h=>by cases h;exact .nil
 | y :: ys,us,h=>by
  obtain ⟨u,us',rfl,r,h2⟩:∃ u us',us=u :: us'/\aX (.str y) u/\aU (ys.map V.str) us':=by
   cases h with
   | cons r h=>exact ⟨_,_,rfl,r,h⟩
  obtain ⟨t,rfl⟩:=r
  exact .cons y t (tG h2)
section
variable {X:Cx}
noncomputable def JO (P:Program)(w:World):List V->Hp->VK->Prop:=fun xs H Q=>∃ (a:Addr) (ss:aQ),xs=[.ref a]/\(H a=some (pY P w a ss)∨H a=some (.lst (ss.map V.str)))/\ss.length < 64/\∀ ys,ys.Perm ss->sortedS ys=true->∀ p,H p=none->Q (.ref p) (upd H p (.lst (ys.map V.str)))
theorem pW (hc:X.calm=true):cR X (.builtin "sorted") (JO X.prog X.w):=by
 intro pins s σ H xs us Q I rv h
 obtain ⟨a,ss,rfl,ha,l64,q⟩:=h
 obtain ⟨u,rfl,ru⟩:=aU.one rv
 cases ru
 have z64:(64:Nat)<=sizeLine:=by rw [sizeLine_eq];decide
 have made:∀ {h:Heap} {H:Hp} {p:Addr} {out:iA} {ys:aQ} {e:Nat},StrsAre out.toList ys->ys.Perm ss->h.get? p=some (seqObj "list" out e)->cE X.prog X.w H h p (.lst (ys.map V.str)):=fun b1 b2 g =>
  ⟨by rw [List.length_map,b2.length_eq];exact Nat.le_trans (Nat.le_of_lt l64) z64,_,_,tL b1,by simpa [seqObj] using g⟩
 rcases ha with ha | ha
 ·obtain ⟨sx,_⟩:=I.hok a _ ha
  refine zU (I.ok.hd hc) sx l64 fun s1 h' out ys e kp eg eo b1 b2 b3 g kp2=>?_
  have I1:=I.more kp eg eo
  exact ⟨.ref s1.heap.objs.size,_,I1.laid (t':=s1.toks) (o:=.lst (ys.map V.str)) kp2 (Nat.le_refl _) (made b1 b2 g),rfl,q ys b2 b3 _ (I1.hok.fresh (Nat.le_refl _))⟩
 ·obtain ⟨its,r,pl,hz⟩:=I.list (eA.of ha)
  have sa:=tG r
  refine sorted_strs (vs:=its) pl.isList sa (by rw [← r.length,List.length_map];exact l64) fun out ys b1 b2 b3=>?_
  obtain ⟨e,g⟩:=sortedAll_at s.heap its out
  exact ⟨.ref (s.heap.objs.size + 1),_,I.laid (t':=s.toks) (o:=.lst (ys.map V.str)) (fun b o z=>sortedAll_old z) (Nat.le_succ _) (made b1 b2 g),rfl,q ys b2 b3 _ (I.hok.fresh (Nat.le_succ _))⟩
end
noncomputable abbrev leS (a b:Str):Prop:=a.cps.toList<=b.cps.toList
theorem pQ:∀ (p:Str) (l:aQ),risingS p l=true->(p :: l).Pairwise leS
 | p,[],_=>List.pairwise_singleton _ _
 | p,x :: r,h=>by
  have h:(!ltCps x.cps.toList p.cps.toList && risingS x r)=true:=h
  rw [Bool.and_eq_true,ltCps_eq] at h
  have ih:=pQ x r h.2
  have px:leS p x:=by
   have:=h.1
   simp only [Bool.not_eq_true',decide_eq_false_iff_not] at this
   exact List.not_lt.mp this
  refine List.pairwise_cons.mpr ⟨fun y hy=>?_,ih⟩
  rcases List.mem_cons.mp hy with z | z
  ·rw [z];exact px
  ·exact List.le_trans px ((List.pairwise_cons.mp ih).1 y z)
theorem iR:∀ {l:aQ},sortedS l=true->l.Pairwise leS
 | [],_=>.nil
 | x :: r,h=>pQ x r h
theorem G5 {a b:Str}(h1:leS a b)(h2:leS b a):a=b:=by
 have:=List.le_antisymm h1 h2
 cases a
 cases b
 simp only at this
 congr
 exact Array.toList_inj.mp this
theorem kH:∀ {l m:aQ},l.Perm m->l.Pairwise leS->m.Pairwise leS->l=m
 | [],m,h,_,_=>(List.nil_perm.mp h).symm
 | x :: l,m,h,h1,h2=>by
  cases m with
  | nil=>exact absurd (List.perm_nil.mp h) (List.cons_ne_nil _ _)
  | cons y m =>
   have e:x=y:=by
    rcases List.mem_cons.mp (h.mem_iff.mp List.mem_cons_self) with z | z
    ·exact z
    ·rcases List.mem_cons.mp (h.mem_iff.mpr List.mem_cons_self) with u | u
     ·exact u.symm
     ·exact G5 ((List.pairwise_cons.mp h1).1 y u) ((List.pairwise_cons.mp h2).1 x z)
   subst e
   rw [kH ((List.perm_cons x).mp h) (List.pairwise_cons.mp h1).2 (List.pairwise_cons.mp h2).2]
noncomputable def wJ (elt:Expr)(acc:Value)(env:Env):Sem Unit:=eval elt env >>= fun x=>standAt elt.pos >>= fun _=>call (.builtin "set.add") [acc,x] >>= fun _=>pure ()
theorem C7 (elt tg iter:Expr)(ifs:lW)(scope:Scope)(pos:Pos)(it acc:Value)(env:Env) :
  compTurn (.SetComp elt [⟨tg,iter,ifs,0⟩] scope pos) 0 it acc env=oM iter.pos it tg env (layOn ifs (wJ elt acc env) env (.compLoop (.SetComp elt [⟨tg,iter,ifs,0⟩] scope pos) 0 it acc env)):=rfl
section
variable {prog:Program}{w:World}{A:Around}{E:bX}{s:Shared}
theorem D3:C1 (kW prog w) [] prog w A (newSet (.type "set")):=by
 intro Q E s q
 unfold newSet setsByText
 refine wpAny_bind (wpAny_bind (wpAny_askSetting (wpAny_pure (show wpAny _ _ _ _ _ s from ?_))))
 simp only [newObj]
 refine wpAny_bind (wpAny_alloc (wpAny_pure (q _ rfl fun h g=>?_)))
 exact ⟨_,#[],0,_,g,⟨rfl,rfl,rfl⟩,rfl,fun e he=>by simp at he,by simp,by decide,by rfl,rfl,.inl rfl⟩
theorem JD {a:Addr}{ss:aQ}{x:Str}{tk:Tok}{Q:bX}(T:kW prog w s.heap a ss)(room:ss.length + 1 < scanBound)
  (q:∀ h',Heap.SameBut a s.heap h'->kW prog w h' a (if x ∈ ss then ss else ss ++ [x])->Q .none { s with heap:=h',toks:=s.toks + 1 }):wpAny (model prog w) A (call (.builtin "set.add") [.ref a,.str x tk]) Q E s:=by
 have ty:s.TypeIs (.ref a) "set":=by obtain ⟨o,_,_,_,e,ex,_⟩:=id T;exact ⟨o,e,ex.1⟩
 refine wpAny_call_entry F.slot_set_add ty F.entry_set_add (show wpAny _ _ (Builtin.«set.add» _) _ _ _ from ?_) (F.args_set_add_2 _ _)
 unfold Builtin.«set.add»
 show wpAny _ _ (setAdd a (.str x tk) >>= _) _ _ s
 unfold setAdd
 refine wpAny_bind (wpAny_holding (wpAny_bind ((PySem.strKind prog w).pyHash (k:=x) (oK.mpr ⟨tk,rfl⟩) ?_)))
 exact IJ (s:={ s with toks:=s.toks + 1 }) T room fun h' b sb T'=>wpAny_pure ⟨_,rfl,q h' sb T'⟩
end
noncomputable abbrev PD:=N5 (aQ)
theorem DF {P:Program}{w:World}:LP (kW P w):=by
 rintro h a ss ⟨o,es,ep,t,e,ex,d,r⟩
 exact ⟨o,e,fun v z=>(by rw [d] at z;cases z),fun h' e'=>⟨o,es,ep,t,e',ex,d,r⟩⟩
noncomputable def tlSet (te:TE)(acc:aQ):St->Hp->(aQ->Hp->Prop)->Prop:=fun σ H N=>te σ H fun y H4=>acc.length < 1000/\∃ x,y = .str x/\N (if x ∈ acc then acc else acc ++ [x]) H4
theorem G7 {Y:Cx}{D:Addr}{elt:Expr}{te:TE}{acc:aQ}(hx:∀ e s,¬ Y.xe e s)(he:PE Y elt te):LQ (kW Y.prog Y.w) Y D (wJ elt (.ref D) Y.env) (tlSet te acc) acc:=by
 intro E pl o σ H t N I hm hf q
 refine wpAny_bind (wpAny_mono (he _ t σ H _ I q) (fun y t2 ⟨yv,H2,I2,r2,hl,x,hy,w⟩=>?_) fun e t z=>(hx e t z).elim)
 subst hy
 obtain ⟨tk,rfl⟩:=r2
 refine wpAny_bind (wpAny_standAt (wpAny_bind (JD (hf _ (I2.pin (D,o) (List.mem_append_right _ hm)).1) (by show _ < 4096;omega) fun h3 s3 x3=>wpAny_pure ?_)))
 exact ⟨t2,h3,_,H2,_,rfl,I2,s3,x3,w⟩
noncomputable def FN (P:Program)(w:World)(src:List (Option Nat))(wi:TI)(g:TG)(tt:TT)(te:TE):TE:=fun σ H Q=>wi σ H fun J H1=>∃ W:PD,(∃ m,W 0 m [] (stC src σ) H1)/\BM J g tt (tlSet te) (fun acc H=>∀ p,H p=none->Q (.ref p) (upd H p (pY P w p acc))) W
theorem AC {X:Cx}{scope:Scope}{N':aQ}{src:List (Option Nat)}{tg elt iter:Expr}{ifs:lW}{pos:Pos}{g:TG}{tt:TT}{te:TE}{wi:TI}(hc:X.calm=true)(S:bG X scope N' src)(hi:PI X tg iter wi)(hg:∀ C s H fp,PG (blk X scope N' C s H fp) tg g)(ht:∀ C s H fp,NZ (blk X scope N' C s H fp) ifs tt)(he:∀ C s H fp,PE (blk X scope N' C s H fp) elt te)
  (hs:∀ x,foldedSetIterable iter X.env x=pure x:=by intro _;rfl):PE X (.SetComp elt [⟨tg,iter,ifs,0⟩] scope pos) (FN X.prog X.w src wi g tt te):=by
 intro pins s σ H Q I h
 change wpAny _ _ (comprehension (.SetComp elt [⟨tg,iter,ifs,0⟩] scope pos) scope X.env iter.pos (newSet (.type "set")) false (eval iter X.env)) _ _ s
 refine pF rfl S hi hs I h fun s₂ H₂ it fp tn J I2 T st f ⟨W,w0,turn⟩=>?_
 exact mP (lay:=wJ elt) (tl:=tlSet te) (obj:=pY X.prog X.w) DF D3 (.set ..) rfl (C7 elt tg iter ifs scope pos) (fun _ _ _ _=>FT) hc S I2 T st f (fun C=>hg C s₂ H₂ fp) (fun C=>ht C s₂ H₂ fp) (fun C D acc=>G7 (fun _ _ z=>z) (he C s₂ H₂ fp)) w0 turn fun D C s' H' acc a1 a2 a3 a4 a5 a6 fin=>yT I2 a1 a2 a3 a4 a5 (fin D a6)
noncomputable def BK (P:Program)(w:World)(J:It)(g:TG)(tt:TT)(te:TE)(Q:VK)(σ:St)(H1:Hp):Prop:=∃ W:PD,(∃ m,W 0 m [] σ H1)/\BM J g tt (tlSet te) (fun acc H=>∀ p,H p=none->Q (.ref p) (upd H p (pY P w p acc))) W
theorem DA {P:Program}{w:World}{src:List (Option Nat)}{wi:TI}{g:TG}{tt:TT}{te:TE}{σ:St}{H:Hp}{Q:VK}:FN P w src wi g tt te σ H Q=wi σ H fun J H1=>BK P w J g tt te Q (stC src σ) H1:=rfl
noncomputable def BN (g:TG)(tt:TT)(te:TE)(x:V)(acc:aQ)(σ:St)(H:Hp)(N:aQ->St->Hp->Prop):Prop :=
 g x σ H fun σ2 H2=>tt σ2 H2 fun b H3=>if b=true then te σ2 H3 fun y H4=>acc.length < 1000/\∃ x,y = .str x/\N (if x ∈ acc then acc else acc ++ [x]) σ2 H4 else N acc σ2 H3
section
variable {P:Program}{w:World}{K:PySem.W.Frag}{J:It}{g:TG}{tt:TT}{te:TE}{Q:VK}{σ:St}{H:Hp}{a:Addr}{xs:List V}
theorem yY {n:Nat}(Pv:Nat->aQ->St->Hp->Prop)(h0:Pv 0 [] σ H)
  (hs:∀ i acc σ H,i < n->Pv i acc σ H->J.go i H/\∀ x H',J.yld i H x H'->BN g tt te x acc σ H' (Pv (i + 1)))
  (hd:∀ acc σ H,Pv n acc σ H->J.stop n H/\∀ p,H p=none->Q (.ref p) (upd H p (pY P w p acc))):BK P w J g tt te Q σ H:=by
 refine ⟨fun i m acc σ H=>m=n - i/\i<=n/\Pv i acc σ H,⟨n,by simp,Nat.zero_le _,h0⟩,?_⟩
 rintro i m acc σ H ⟨rfl,hi,p⟩
 by_cases hlt:i < n
 ·obtain ⟨go,step⟩:=hs i acc σ H hlt p
  refine .inr ⟨go,fun x H' y=>?_⟩
  have e:∀ acc σ H,(∃ m',m' < n - i/\m'=n - (i + 1)/\i + 1<=n/\Pv (i + 1) acc σ H)=Pv (i + 1) acc σ H:=fun acc σ H=>propext ⟨fun ⟨_,_,_,_,q⟩=>q,fun q=>⟨n - (i + 1),by omega,rfl,hlt,q⟩⟩
  simp only [e]
  exact step x H' y
 ·have e:i=n:=by omega
  subst e
  obtain ⟨a,b⟩:=hd acc σ H p
  exact .inl ⟨a,b⟩
theorem IG (hJ:IO K a xs J H)(Pv:Nat->aQ->St->Hp->Prop)(h0:Pv 0 [] σ H)(hl:∀ i acc σ H',i<=xs.length->Pv i acc σ H'->H' a=H a)
  (hs:∀ i x acc σ H,xs[i]?=some x->Pv i acc σ H->BN g tt te x acc σ H (Pv (i + 1))) (hd:∀ acc σ H,Pv xs.length acc σ H->∀ p,H p=none->Q (.ref p) (upd H p (pY P w p acc))):BK P w J g tt te Q σ H:=by
 rcases hJ with ⟨rfl,e⟩ | ⟨rfl,e⟩
 ·have l:∀ i acc σ H',i<=xs.length->Pv i acc σ H'->eA K H' a xs:=fun i acc σ H' hi p=>eA.of ((hl i acc σ H' hi p).trans e)
  exact yY (n:=xs.length) Pv h0 (fun i acc σ H hi p=>⟨⟨xs,xs[i],l i acc σ H (Nat.le_of_lt hi) p,by simp [hi]⟩,fun x H' y=>by obtain ⟨rfl,y⟩:=y;exact hs i x acc σ _ (y xs (l i acc σ _ (Nat.le_of_lt hi) p)) p⟩)
   fun acc σ H p=>⟨⟨xs,l _ acc σ H (Nat.le_refl _) p,Nat.le_refl _⟩,hd acc σ H p⟩
 ·have l:∀ i acc σ H',i<=xs.length->Pv i acc σ H'->h8 K H' a xs:=fun i acc σ H' hi p=>h8.of ((hl i acc σ H' hi p).trans e)
  exact yY (n:=xs.length) Pv h0 (fun i acc σ H hi p=>⟨⟨xs,xs[i],l i acc σ H (Nat.le_of_lt hi) p,by simp [hi]⟩,fun x H' y=>by obtain ⟨rfl,y⟩:=y;exact hs i x acc σ _ (y xs (l i acc σ _ (Nat.le_of_lt hi) p)) p⟩)
   fun acc σ H p=>⟨⟨xs,l _ acc σ H (Nat.le_refl _) p,Nat.le_refl _⟩,hd acc σ H p⟩
end
end L2
namespace Lw
open PySem L2
section
variable {P:Program}{w:World}{K:PySem.W.Frag}{mg:gA}{base:Heap}
mutual
noncomputable def lfs:D->aQ
 | .str x=>[x]
 | .tup (.str _ :: ds)=>lfss ds
 | .lst (.str _ :: ds)=>lfss ds
 | _=>[]
noncomputable def lfss:List D->aQ
 | []=>[]
 | d :: ds=>lfs d ++ lfss ds
end
noncomputable def txD:D->Option Str
 | .str x=>some x
 | _=>none
mutual
theorem mX:∀ {d:D},Wk d->(wlk d).filterMap txD=lfs d
 | .str x,_=>by rw [wlk,lfs] <;> simp [txD]
 | .tup (.str n :: ds),h=>by
  unfold Wk at h
  rw [wlk,lfs,List.filterMap_cons]
  exact oI h
 | .lst (.str n :: ds),h=>by
  unfold Wk at h
  rw [wlk,lfs,List.filterMap_cons]
  exact oI h
 | .non,h | .bl _,h | .int _,h | .tup [],h | .lst [],h | .tup (.non :: _),h | .tup (.bl _ :: _),h | .tup (.int _ :: _),h | .tup (.tup _ :: _),h | .tup (.lst _ :: _),h | .lst (.non :: _),h | .lst (.bl _ :: _),h | .lst (.int _ :: _),h | .lst (.tup _ :: _),h | .lst (.lst _ :: _),h=>by unfold Wk at h;exact absurd h id
theorem oI:∀ {ds:List D},Wks ds->(wlks ds).filterMap txD=lfss ds
 | [],_=>by rw [wlks,lfss];rfl
 | d :: ds,⟨a,b⟩=>by rw [wlks,lfss,List.filterMap_append,mX a,oI b]
end
mutual
theorem iB:∀ {d:D},Wk d->(lfs d).length=lvs d
 | .str x,_=>by
  have:lvs (.str x)=1:=by rw [lvs] <;> simp
  rw [lfs,this]
  rfl
 | .tup (.str n :: ds),h=>by
  unfold Wk at h
  rw [lfs,lvs]
  exact nR h
 | .lst (.str n :: ds),h=>by
  unfold Wk at h
  rw [lfs,lvs]
  exact nR h
 | .non,h | .bl _,h | .int _,h | .tup [],h | .lst [],h | .tup (.non :: _),h | .tup (.bl _ :: _),h | .tup (.int _ :: _),h | .tup (.tup _ :: _),h | .tup (.lst _ :: _),h | .lst (.non :: _),h | .lst (.bl _ :: _),h | .lst (.int _ :: _),h | .lst (.tup _ :: _),h | .lst (.lst _ :: _),h=>by unfold Wk at h;exact absurd h id
theorem nR:∀ {ds:List D},Wks ds->(lfss ds).length=lvss ds
 | [],_=>by rw [lfss,lvss];rfl
 | d :: ds,⟨a,b⟩=>by rw [lfss,lvss,List.length_append,iB a,nR b]
end
mutual
theorem AW {fx:cQ}{sm:bY}{os:aQ}:∀ {d:D},bM fx sm os d->∀ x ∈ lfs d,bM fx sm os (.str x)
 | .str y,h=>fun x hx=>by
  rw [lfs,List.mem_singleton] at hx
  rw [hx]
  exact h
 | .tup (.str n :: ds),h=>fun x hx=>by
  unfold bM at h
  rw [lfs] at hx
  exact wI h.2 x hx
 | .lst (.str n :: ds),h=>fun x hx=>by
  unfold bM at h
  rw [lfs] at hx
  exact wI h.2 x hx
 | .non,h | .bl _,h | .int _,h | .tup [],h | .lst [],h | .tup (.non :: _),h | .tup (.bl _ :: _),h | .tup (.int _ :: _),h | .tup (.tup _ :: _),h | .tup (.lst _ :: _),h | .lst (.non :: _),h | .lst (.bl _ :: _),h | .lst (.int _ :: _),h | .lst (.tup _ :: _),h | .lst (.lst _ :: _),h=>by unfold bM at h;exact absurd h id
theorem wI {fx:cQ}{sm:bY}{os:aQ}:∀ {ds:List D},IsTms fx sm os ds->∀ x ∈ lfss ds,bM fx sm os (.str x)
 | [],_=>fun x hx=>by rw [lfss] at hx;cases hx
 | d :: ds,⟨a,b⟩=>fun x hx=>by
  rw [lfss,List.mem_append] at hx
  rcases hx with h | h
  ·exact AW a x h
  ·exact wI b x h
end
mutual
theorem E9:∀ {d:D},Wk d->∀ e ∈ wlk d,Wk e
 | .str x,h=>fun e he=>by
  have:wlk (.str x)=[.str x]:=by rw [wlk] <;> simp
  rw [this,List.mem_singleton] at he
  rw [he]
  exact h
 | .tup (.str n :: ds),h=>fun e he=>by
  rw [wlk,List.mem_cons] at he
  rcases he with z | z
  ·rw [z];exact h
  ·unfold Wk at h
   exact uZ h e z
 | .lst (.str n :: ds),h=>fun e he=>by
  rw [wlk,List.mem_cons] at he
  rcases he with z | z
  ·rw [z];exact h
  ·unfold Wk at h
   exact uZ h e z
 | .non,h | .bl _,h | .int _,h | .tup [],h | .lst [],h | .tup (.non :: _),h | .tup (.bl _ :: _),h | .tup (.int _ :: _),h | .tup (.tup _ :: _),h | .tup (.lst _ :: _),h | .lst (.non :: _),h | .lst (.bl _ :: _),h | .lst (.int _ :: _),h | .lst (.tup _ :: _),h | .lst (.lst _ :: _),h=>by unfold Wk at h;exact absurd h id
theorem uZ:∀ {ds:List D},Wks ds->∀ e ∈ wlks ds,Wk e
 | [],_=>fun e he=>by rw [wlks] at he;cases he
 | d :: ds,⟨a,b⟩=>fun e he=>by
  rw [wlks,List.mem_append] at he
  rcases he with z | z
  ·exact E9 a e z
  ·exact uZ b e z
end
theorem met {d e:D}{G H:Hp}{v:V}(wk:Wk d)(he:e ∈ wlk d)(re:bB G e v)(s:aG G H):(∃ y,e = .str y/\v = .str y)∨(txD e=none/\∃ a xs,v = .ref a/\eG H a xs/\isV H (.ref a) (.ty "str")=some false):=by
 rcases FA (E9 wk e he) with ⟨y,rfl⟩ | ⟨n,ds,rfl | rfl,_⟩
 ·exact .inl ⟨y,rfl,re⟩
 ·obtain ⟨a,vs,rfl,ha,_⟩:=re
  exact .inr ⟨rfl,a,vs,rfl,.inr (s _ _ ha),i9 (s _ _ ha)⟩
 ·obtain ⟨a,vs,rfl,ha,_⟩:=re
  exact .inr ⟨rfl,a,vs,rfl,.inl (s _ _ ha),kP (s _ _ ha)⟩
theorem BQ {ds:List D}{i:Nat}{e:D}(he:ds[i]?=some e)(h:txD e=none):(ds.take (i + 1)).filterMap txD=(ds.take i).filterMap txD:=by
 rw [aV he,List.filterMap_append,List.filterMap_cons,h,List.filterMap_nil,List.append_nil]
theorem u4 {ds:List D}{i:Nat}{y:Str}(he:ds[i]?=some (.str y)):(ds.take (i + 1)).filterMap txD=(ds.take i).filterMap txD ++ [y]:=by
 rw [aV he,List.filterMap_append]
 rfl
theorem MD (d:D)(i:Nat)(h:nds d<=1000):(((wlk d).take i).filterMap txD).length<=1000:=by
 have h1:=List.length_filterMap_le txD ((wlk d).take i)
 have h2:=List.length_take_le' i (wlk d)
 have h3:=mY d
 omega
noncomputable def isQ (x:Str):Bool:=x.cps.toList.head? == some 63
theorem zI {x:Str}(h:eQ x):isQ x=true:=by
 obtain ⟨l,rfl,_⟩:=h
 rfl
theorem AN {x:Str}(h:hV x):isQ x=false:=by
 unfold isQ
 cases e:x.cps.toList.head? with
 | none=>rfl
 | some c =>
  have m:c ∈ x.cps.toList:=List.mem_of_head? e
  have:=h.2.2 c (by simpa using m)
  have ne:c≠63:=by omega
  simp [ne]
noncomputable def dzs (acc:aQ)(x:Str):aQ:=if isQ x=true then (if x ∈ acc then acc else acc ++ [x]) else acc
noncomputable def dz (l:aQ):aQ:=l.foldl dzs []
theorem nZ (l:aQ)(x:Str):dz (l ++ [x])=dzs (dz l) x:=by simp [dz,List.foldl_append]
theorem B6 {x:Str}:∀ (l acc:aQ),x ∈ l.foldl dzs acc ↔ x ∈ acc∨(x ∈ l/\isQ x=true)
 | [],acc=>by simp
 | y :: l,acc=>by
  rw [List.foldl_cons,B6 l]
  unfold dzs
  by_cases hq:isQ y=true
  ·rw [if_pos hq]
   by_cases hm:y ∈ acc
   ·rw [if_pos hm,List.mem_cons]
    constructor
    ·rintro (h | ⟨h1,h2⟩)
     ·exact .inl h
     ·exact .inr ⟨.inr h1,h2⟩
    ·rintro (h | ⟨h1 | h1,h2⟩)
     ·exact .inl h
     ·exact .inl (h1 ▸ hm)
     ·exact .inr ⟨h1,h2⟩
   ·rw [if_neg hm,List.mem_append,List.mem_singleton,List.mem_cons]
    constructor
    ·rintro ((h | h) | ⟨h1,h2⟩)
     ·exact .inl h
     ·exact .inr ⟨.inl h,h ▸ hq⟩
     ·exact .inr ⟨.inr h1,h2⟩
    ·rintro (h | ⟨h1 | h1,h2⟩)
     ·exact .inl (.inl h)
     ·exact .inl (.inr h1)
     ·exact .inr ⟨h1,h2⟩
  ·rw [if_neg hq,List.mem_cons]
   constructor
   ·rintro (h | ⟨h1,h2⟩)
    ·exact .inl h
    ·exact .inr ⟨.inr h1,h2⟩
   ·rintro (h | ⟨h1 | h1,h2⟩)
    ·exact .inl h
    ·exact absurd (h1 ▸ h2) hq
    ·exact .inr ⟨h1,h2⟩
theorem G2 {x:Str}{l:aQ}:x ∈ dz l ↔ x ∈ l/\isQ x=true:=by
 unfold dz
 rw [B6]
 simp
theorem CS:∀ (l acc:aQ),(l.foldl dzs acc).length<=acc.length + l.length
 | [],acc=>by simp
 | y :: l,acc=>by
  rw [List.foldl_cons]
  have h1:=CS l (dzs acc y)
  have h2:(dzs acc y).length<=acc.length + 1:=by
   unfold dzs
   split
   ·split
    ·omega
    ·simp
   ·omega
  simp only [List.length_cons]
  omega
theorem wX (l:aQ):(dz l).length<=l.length:=by
 have:=CS l []
 simpa [dz] using this
theorem CA {fx:cQ}{sm:bY}{os:aQ}{x:Str}(so:dJ fx sm)(ho:∀ x ∈ os,eQ x)(h:bM fx sm os (.str x)):eQ x∨hV x:=by
 rcases u7 h with ⟨y,e,hx⟩ | ⟨n,ds,e | e,_⟩
 ·cases e
  rcases hx with hx | hx
  ·exact .inl (ho x hx)
  ·unfold zeros at hx
   obtain ⟨r,h1,rfl⟩:=List.mem_map.mp hx
   exact .inr (so.nm _ (List.mem_append_left _ (List.mem_map.mpr ⟨r,(List.mem_filter.mp h1).1,rfl⟩)))
 ·cases e
 ·cases e
theorem BX {H H':Hp}{a:Addr}(s:aG H H')(h:H' a=none):H a=none:=by
 cases e:H a with
 | none=>rfl
 | some o=>rw [s _ _ e] at h;cases h
noncomputable def nC (K:PySem.W.Frag)(C:Addr):Sp:=fun vs H Q _=>∃ (g:Addr) (fx:cQ) (sm:bY) (os:aQ) (d:D) (v:V),vs=[.ref g,v]/\iO K C fx sm H g/\bB H d v/\IR fx sm os d/\∀ H',aG H H'->Q (.int (lvs d)) H'
noncomputable def PQ (ds:List D)(H:Hp)(i:Nat)(acc:List V)(σ:St)(H1:Hp):Prop:=∃ o0:Option V,σ=[o0]/\aG H H1/\acc=((ds.take i).filterMap txD).map V.str
theorem DY {f C:Addr}{fd:FuncData}(F:gY K "leaves" "leaves" gQ f fd)(T:iH mg)(O_check_term:cH P w K mg base bC 3 "check_term" (nF K C))(O_walked:cH P w K mg base bC 1 "walked" jK):bR P w K mg base bC 4 f fd sF (nC K C):=by
 refine F.ok DM (fun vs H Q E h=>?_) (fun cdv A outer s H vs Q E hr h=>?_)
 ·obtain ⟨g,fx,sm,os,d,v,rfl,_⟩:=h
  rfl
 ·obtain ⟨g,fx,sm,os,d,v,rfl,sg,rep,tr,q⟩:=h
  have hu:=hr.units
  refine ⟨_,(aE (cW (aM O_check_term (hr.mono (by decide)) pass0 rfl (aA (pv 0) (aA (pv 1) aB))))
   (aH (aP (aK bD rfl T.n_len rfl (aA (fA rfl (bG.by (N:=sJ) (names:=(aF gQ).names) (N':=["at"]) (src:=[none]) (by decide +kernel) rfl rfl) (cX K rfl (aM O_walked (hr.mono (by decide)) pass0 rfl (aA (pv 1) aB))) (fun _ _ _ _=>(bJ (i:=0) (show List.Nodup (["at"]:aQ) by decide +kernel) rfl (Or.inl rfl))) (fun _ _ _ _=>(iU (aR K rfl (aK aL rfl T.n_isinstance rfl (aA (pv 0) (aA (bH (v:=V.ty "str") rfl T.n_str rfl rfl) aB))) (fun _=>rfl)))) (fun _ _ _ _=>(pv 0))) aB))))),?_⟩
  simp only [sJ]
  clear hr F T hu O_check_term O_walked
  have keep:=aI q (aI sg (aI rep tr))
  clear q sg rep tr
  walk_at "rd"
  obtain ⟨q,sg,rep,tr⟩:=keep
  have l1:=tr.lv
  have l2:=tr.nd
  have l3:=tr.dp
  have wk:=pO tr.tm
  refine ⟨g,fx,sm,os,d,v,rfl,sg,tr.so,tr.ho,rep,tr.tm,by omega,by omega,l2,fun H1 s1=>?_⟩
  refine ⟨d,v,H1,rfl,aG.refl _,bB.same s1 rep,wk,l2,fun l ws H2 s2 hl1 hl2 res=>?_⟩
  refine ⟨l,rfl,ws,.inl hl2,fun J hJ=>?_⟩
  have e0:=Reps.len res
  refine dC hJ (PQ (wlk d) H2) ⟨none,rfl,aG.refl _,rfl⟩ ?_ ?_ ?_
  ·rintro i acc σ H' _ ⟨_,_,s3,_⟩
   rw [hl2,s3 _ _ hl2]
  ·rintro i x acc σ H3 hx ⟨o0,rfl,s3,rfl⟩
   obtain ⟨e,he,re⟩:=Reps.get res hx
   have lim:((((wlk d).take i).filterMap txD).map V.str).length < sizeLine:=Nat.lt_of_le_of_lt (m:=1000) (by rw [List.length_map];exact MD d i l2) (by decide)
   rcases met wk (List.mem_of_getElem? he) re (s2.trans s3) with ⟨y,rfl,rfl⟩ | ⟨hn,a,xs,rfl,hs,hf⟩
   ·walk_at "rd"
    refine ⟨true,rfl,?_⟩
    rw [if_pos rfl]
    exact ⟨_,rfl,s3,by rw [u4 he,List.map_append];rfl⟩
   ·walk_at "rd"
    exact ⟨_,rfl,s3,by rw [BQ he hn]⟩
  ·rintro acc σ H3 ⟨o0,rfl,s3,rfl⟩ p hp
   rw [lenV_l upd_same,e0,List.take_length,mX wk,List.length_map,iB wk]
   exact ⟨_,rfl,q _ (((s1.trans s2).trans s3).trans (aG.upd hp))⟩
noncomputable def qT (K:PySem.W.Frag)(C:Addr):Sp:=fun vs H Q _=>∃ (g:Addr) (fx:cQ) (sm:bY) (os:aQ) (d:D) (v:V),vs=[.ref g,v]/\iO K C fx sm H g/\bB H d v/\IR fx sm os d /\
 ∀ (l:Addr) (ys:aQ) (H':Hp),aG H H'->H l=none->H' l=some (.lst (ys.map V.str))->ys.Perm (dz (lfs d))->PyProof.Rows.sortedS ys=true->Q (.ref l) H'
noncomputable def PH (ds:List D)(H:Hp)(i:Nat)(acc:aQ)(σ:St)(H1:Hp):Prop:=∃ o0:Option V,σ=[o0]/\aG H H1/\acc=dz ((ds.take i).filterMap txD)
theorem DT {f C:Addr}{fd:FuncData}(F:gY K "wishes" "wishes" gO f fd)(T:iH mg)(O_check_term:cH P w K mg base bC 3 "check_term" (nF K C))(O_walked:cH P w K mg base bC 1 "walked" jK)(O_is_wish:cH P w K mg base bC 1 "is_wish" vD):bR P w K mg base bC 4 f fd sB (qT K C):=by
 refine F.ok DH (fun vs H Q E h=>?_) (fun cdv A outer s H vs Q E hr h=>?_)
 ·obtain ⟨g,fx,sm,os,d,v,rfl,_⟩:=h
  rfl
 ·obtain ⟨g,fx,sm,os,d,v,rfl,sg,rep,tr,q⟩:=h
  have hu:=hr.units
  refine ⟨_,(aE (cW (aM O_check_term (hr.mono (by decide)) pass0 rfl (aA (pv 0) (aA (pv 1) aB))))
   (aH (aP (aK (pW rfl) rfl T.n_sorted rfl (aA (AC rfl (bG.by (N:=sI) (names:=(aF gO).names) (N':=["at"]) (src:=[none]) (by decide +kernel) rfl rfl) (cX K rfl (aM O_walked (hr.mono (by decide)) pass0 rfl (aA (pv 1) aB))) (fun _ _ _ _=>(bJ (i:=0) (show List.Nodup (["at"]:aQ) by decide +kernel) rfl (Or.inl rfl))) (fun _ _ _ _=>(iU (aR K rfl (aM O_is_wish (hr.mono (by decide)) pass0 rfl (aA (pv 0) aB)) (fun _=>rfl)))) (fun _ _ _ _=>(pv 0))) aB))))),?_⟩
  simp only [sI]
  clear hr F T hu O_check_term O_walked O_is_wish
  have keep:=aI q (aI sg (aI rep tr))
  clear q sg rep tr
  walk_at "rd"
  obtain ⟨q,sg,rep,tr⟩:=keep
  have l1:=tr.lv
  have l2:=tr.nd
  have l3:=tr.dp
  have wk:=pO tr.tm
  refine ⟨g,fx,sm,os,d,v,rfl,sg,tr.so,tr.ho,rep,tr.tm,by omega,by omega,l2,fun H1 s1=>?_⟩
  dsimp only
  rw [DA]
  walk_at "rd"
  refine ⟨d,v,H1,rfl,aG.refl _,bB.same s1 rep,wk,l2,fun l ws H2 s2 hl1 hl2 res=>?_⟩
  refine ⟨l,rfl,ws,.inl hl2,fun J hJ=>?_⟩
  have e0:=Reps.len res
  refine IG hJ (PH (wlk d) H2) ⟨none,rfl,aG.refl _,rfl⟩ ?_ ?_ ?_
  ·rintro i acc σ H' _ ⟨_,_,s3,_⟩
   rw [hl2,s3 _ _ hl2]
  ·rintro i x acc σ H3 hx ⟨o0,rfl,s3,rfl⟩
   obtain ⟨e,he,re⟩:=Reps.get res hx
   have lim:(dz (((wlk d).take i).filterMap txD)).length < 1000:=by
    have h1:=wX (((wlk d).take i).filterMap txD)
    have h2:(((wlk d).take i).filterMap txD).length<=(lfs d).length:=by
     rw [← mX wk]
     exact ((List.take_sublist i (wlk d)).filterMap txD).length_le
    have h3:=iB wk
    omega
   unfold BN
   rcases met wk (List.mem_of_getElem? he) re (s2.trans s3) with ⟨y,rfl,rfl⟩ | ⟨hn,a,xs,rfl,hs,hf⟩
   ·walk_at "rd"
    have my:y ∈ lfs d:=by
     rw [← mX wk]
     exact List.mem_filterMap.mpr ⟨_,List.mem_of_getElem? he,rfl⟩
    rcases CA tr.so tr.ho (AW tr.tm y my) with hw | hn
    ·refine .inl ⟨y,rfl,.inl hw,fun H' s'=>⟨fun _=>⟨true,rfl,?_⟩,fun hn=>?_⟩⟩
     ·rw [if_pos rfl]
      refine ⟨_,rfl,s3.trans s',?_⟩
      rw [u4 he,nZ]
      unfold dzs
      rw [if_pos (zI hw)]
     ·have:=zI hw
      rw [AN hn] at this
      cases this
    ·refine .inl ⟨y,rfl,.inr hn,fun H' s'=>⟨fun hw=>?_,fun _=>⟨false,rfl,?_⟩⟩⟩
     ·have:=zI hw
      rw [AN hn] at this
      cases this
     ·rw [if_neg (by decide)]
      refine ⟨_,rfl,s3.trans s',?_⟩
      rw [u4 he,nZ]
      unfold dzs
      rw [AN hn,if_neg (by decide)]
   ·walk_at "rd"
    refine .inr ⟨a,xs,rfl,hs,false,rfl,?_⟩
    rw [if_neg (by decide)]
    exact ⟨_,rfl,s3,by rw [BQ he hn]⟩
  ·rintro acc σ H3 ⟨o0,rfl,s3,rfl⟩ p hp
   rw [e0,List.take_length,mX wk]
   have s4:aG H H3:=(s1.trans s2).trans s3
   refine ⟨p,dz (lfs d),rfl,.inl upd_same,(by have h1:=wX (lfs d);have h2:=iB wk;omega),fun ys pm so p2 hp2=>?_⟩
   have s5:=s4.trans (aG.upd hp (o:=pY P w p (dz (lfs d))))
   exact q p2 ys _ (s5.trans (aG.upd hp2)) (BX s5 hp2) upd_same pm so
end
section
variable {P:Program}{w:World}{K:PySem.W.Frag}{mg:gA}{base:Heap}
theorem B4:∀ {ds:List D} {i:Nat} {d:D},ds[i]?=some d->nds d<=ndss ds
 | [],_,_,h=>by simp at h
 | e :: ds,0,d,h=>by
  simp at h
  subst h
  rw [ndss]
  omega
 | e :: ds,i + 1,d,h=>by
  have:=B4 (ds:=ds) (i:=i) (d:=d) (by simpa using h)
  rw [ndss]
  omega
theorem FK {fx:cQ}{sm:bY}{os:aQ}{d e:D}{n:Str}{ds:List D}(t:IR fx sm os d)(hd:d = .tup (.str n :: ds)∨d = .lst (.str n :: ds))(he:e ∈ ds):IR fx sm os e/\depD e < depD d:=by
 obtain ⟨i,hi⟩:=List.getElem?_of_mem he
 have h1:=gW hi
 have h2:=wF hi
 have h3:=B4 hi
 have hdp:depD d=depDs ds + 1:=by
  rcases hd with rfl | rfl
  ·rw [depD,depDs,show depD (.str n)=0 from rfl];omega
  ·rw [depD,depDs,show depD (.str n)=0 from rfl];omega
 have hlv:lvs d=lvss ds:=by rcases hd with rfl | rfl <;> rw [lvs]
 have hnd:nds d=1 + ndss ds:=by rcases hd with rfl | rfl <;> rw [nds]
 have tm:IsTms fx sm os ds:=by
  have:=t.tm
  rcases hd with rfl | rfl <;> (unfold bM at this;exact this.2)
 have a1:=t.lv
 have a2:=t.nd
 have a3:=t.dp
 exact ⟨⟨t.so,t.ho,lO tm e he,by omega,by omega,by omega⟩,by omega⟩
theorem uB:∀ (ds:List D) (d:D),lfss (ds ++ [d])=lfss ds ++ lfs d
 | [],d=>by rw [List.nil_append,lfss,lfss,lfss,List.append_nil,List.nil_append]
 | e :: ds,d=>by rw [List.cons_append,lfss,lfss,uB ds d,List.append_assoc]
theorem D5 {ds:List D}(i:Nat)(h:Wks ds):(lfss (ds.take i)).length<=lvss ds:=by
 have:∀ (ds:List D) (i:Nat),(lfss (ds.take i)).length<=(lfss ds).length:=by
  intro ds
  induction ds with
  | nil=>intro i;simp
  | cons d ds ih =>
   intro i
   cases i with
   | zero=>rw [List.take_zero,lfss];simp
   | succ i=>rw [List.take_succ_cons,lfss,lfss,List.length_append,List.length_append];have:=ih i;omega
 rw [← nR h]
 exact this ds i
noncomputable def gC (n:Nat):Sp:=fun vs H Q _=>∃ (fx:cQ) (sm:bY) (os:aQ) (d:D) (v:V),vs=[v]/\bB H d v/\IR fx sm os d/\depD d<=n/\∀ (l:Addr) (H':Hp),aG H H'->H l=none->H' l=some (.lst ((lfs d).map V.str))->Q (.ref l) H'
noncomputable def PR (v:V)(ds:List D)(H H0:Hp)(i:Nat)(σ:St)(H1:Hp):Prop:=∃ (f:Addr) (o2:Option V),σ=[some v,some (.ref f),o2]/\aG H0 H1/\H f=none/\H1 f=some (.lst ((lfss (ds.take i)).map V.str))
theorem AK {f:Addr}{fd:FuncData}(n:Nat)(F:gY K "_law_leaves" "_law_leaves" cG f fd)(T:iH mg)(O__law_leaves:cH P w K mg base bC (n + 1) "_law_leaves" (fun vs H Q E=>∃ m,m < n/\gC m vs H Q E)):bR P w K mg base bC (n + 2) f fd eE (gC n):=by
 refine F.ok fT (fun vs H Q E h=>?_) (fun cdv A outer s H vs Q E hr h=>?_)
 ·obtain ⟨fx,sm,os,d,v,rfl,_⟩:=h
  rfl
 ·obtain ⟨fx,sm,os,d,v,rfl,rep,tr,dn,q⟩:=h
  have hu:=hr.units
  refine ⟨_,(aE (bK (aR K rfl (aK aL rfl T.n_isinstance rfl (aA (pv 0) (aA (bH (v:=V.ty "str") rfl T.n_str rfl rfl) aB))) (fun _=>rfl)) (aH (aP (cM (aA (pv 0) aB)))) aW)
   (aE (aZ (i:=1) fT.nd rfl (Or.inl rfl) (cM aB))
   (aE (eY PassesOwn.never rfl (cX K rfl (eN jU (pv 0) (d8 aJ) eU)) (bJ (i:=2) fT.nd rfl (Or.inl rfl)) (aH (aZ (i:=1) fT.nd rfl (Or.inl rfl) (bO bV (pv 1) (aM O__law_leaves (hr.mono (by omega)) pass0 rfl (aA (pv 2) aB))))))
   (aH (aP (pv 1)))))),?_⟩
  simp only [mH]
  clear hr F T hu O__law_leaves
  have keep:=aI q (aI rep (aI tr dn))
  clear q rep tr dn
  walk_at "rd"
  obtain ⟨q,rep,tr,dn⟩:=keep
  rcases u7 tr.tm with ⟨x,rfl,hx⟩ | ⟨nm,ds,hd,hdo,tms⟩
  ·cases (show v = .str x from rep)
   refine ⟨true,rfl,?_⟩
   rw [if_pos rfl]
   exact ⟨by decide,fun p hp=>q p _ (aG.upd hp) hp (by rw [upd_same,lfs];rfl)⟩
  ·obtain ⟨va,vs',rfl,hbb,hseq,res⟩:∃ va vs',v = .ref va/\isV H (.ref va) (.ty "str")=some false/\eG H va (.str nm :: vs')/\Reps H ds vs':=by
    rcases hd with rfl | rfl
    ·obtain ⟨a,vs,rfl,ha,_,vs',rfl,e1,r⟩:=rep
     cases e1
     exact ⟨a,vs',rfl,i9 ha,.inr ha,r⟩
    ·obtain ⟨a,vs,rfl,ha,_,vs',rfl,e1,r⟩:=rep
     cases e1
     exact ⟨a,vs',rfl,kP ha,.inl ha,r⟩
   refine ⟨false,hbb,?_⟩
   rw [if_neg (by decide)]
   refine ⟨Nat.zero_le _,fun p hp=>?_⟩
   have sp:aG H (upd H p (.lst [])):=aG.upd hp
   have hq:eG (upd H p (.lst [])) va (.str nm :: vs'):=by rcases hseq with e | e;exact .inl (sp _ _ e);exact .inr (sp _ _ e)
   refine ⟨va,rfl,_,hq,fun _ h=>?_,fun p1 o1 hp1 ho1=>?_⟩
   ·have:=h.1
    simp [HT.sIx] at this
   ·rw [qM] at ho1
    have gp:upd H p (.lst []) p=some (.lst []):=upd_same
    generalize upd H p (.lst [])=Hp0 at sp hq hp1 ho1 gp ⊢
    have s0:aG Hp0 (upd Hp0 p1 o1):=aG.upd hp1
    have g1:upd Hp0 p1 o1 p1=some o1:=upd_same
    have h1:eG (upd Hp0 p1 o1) p1 vs':=by rcases ho1 with ⟨rfl,_⟩ | ⟨rfl,_⟩;exact .inl upd_same;exact .inr upd_same
    generalize upd Hp0 p1 o1=H0 at s0 g1 h1 ⊢
    have lim:lvss ds<=50:=by
     have h3:=tr.lv
     have h2:lvs d=lvss ds:=by rcases hd with rfl | rfl <;> rw [lvs]
     omega
    have wks:=qE tms
    refine ⟨vs',h1,fun J hJ=>?_⟩
    refine iY hJ (PR (.ref va) ds H H0) ⟨p,none,rfl,aG.refl _,hp,by rw [s0 _ _ gp,List.take_zero,lfss];rfl⟩ ?_ ?_ ?_
    ·rintro i σ H' _ ⟨_,_,_,s1,_⟩
     rw [g1,s1 _ _ g1]
    ·rintro i x σ H1 hx ⟨fo,o2,rfl,s1,f0,f1⟩
     obtain ⟨e,he,re⟩:=Reps.get res hx
     obtain ⟨t,hdp⟩:=FK tr hd (List.mem_of_getElem? he)
     have keep:=aI q (aI s1 (aI f0 f1))
     clear q s1 f0 f1
     walk_at "rd"
     obtain ⟨q,s1,f0,f1⟩:=keep
     refine ⟨depD e,by omega,fx,sm,os,e,x,rfl,bB.same ((sp.trans s0).trans s1) re,t,Nat.le_refl _,fun l2 H2 s2 l20 l21=>?_⟩
     refine ⟨_,n5 (s2 _ _ f1) l21 (Nat.le_trans (m:=100) ?_ (by decide)),fun p2 hp2=>?_⟩
     ·rw [List.length_map,List.length_map]
      have h2:=D5 i wks
      have h3:=iB (pO t.tm)
      have h4:=t.lv
      omega
     ·refine ⟨p2,_,rfl,(s1.trans s2).trans (aG.upd hp2),BX (((sp.trans s0).trans s1).trans s2) hp2,?_⟩
      rw [upd_same,aV he,uB,List.map_append]
    ·rintro σ H1 ⟨fo,o2,rfl,s1,f0,f1⟩
     walk_at "rd"
     have e0:=Reps.len res
     rw [e0,List.take_length] at f1
     have el:lfs d=lfss ds:=by rcases hd with rfl | rfl <;> rw [lfs]
     exact q _ _ ((sp.trans s0).trans s1) f0 (by rw [f1,el])
theorem A3 {f:Addr}{fd:FuncData}(F:gY K "_law_leaves" "_law_leaves" cG f fd)(T:iH mg)(hm:mg "_law_leaves" = some (.ref f))(hk:PySem.W.keepIn K (.ref f)=true)(hb:eX K fd eE []):∀ n,bR P w K mg base bC (n + 2) f fd eE (gC n):=by
 intro n
 induction n using Nat.strongRecOn with
 | ind n ih =>
  exact AK n F T ⟨f,fd,_,⟨fun vs H Q E ⟨m,h1,h⟩=>(ih m h1).len vs H Q E h,fun A outer s H args us vs Q E hr he hb hv ⟨m,h1,h⟩=>((ih m h1).mono (by omega)).run A outer s H args us vs Q E hr he hb hv h⟩,hm,hk,hb⟩
theorem xX {f:Addr}{fd:FuncData}(F:gY K "_law_leaves" "_law_leaves" cG f fd)(T:iH mg)(hm:mg "_law_leaves" = some (.ref f))(hk:PySem.W.keepIn K (.ref f)=true)(hb:eX K fd eE [])(n:Nat):cH P w K mg base bC (n + 2) "_law_leaves" (gC n):=⟨f,fd,_,A3 F T hm hk hb n,hm,hk,hb⟩
noncomputable def zO (K:PySem.W.Frag)(C:Addr):Sp:=fun vs H Q _=>∃ (g:Addr) (fx:cQ) (sm:bY) (os:aQ) (d:D) (v:V),vs=[.ref g,v]/\iO K C fx sm H g/\bB H d v/\IR fx sm os d/\depD d<=11/\∀ H',aG H H'->Q (.bl true) H'
theorem NA {y:Str}(h:eQ y∨hV y):∃ c r,y.cps.toList=c :: r/\y.length<=sizeLine/\isQ y=decide (c=63):=by
 have key:∀ {c r},y.cps.toList=c :: r->isQ y=decide (c=63):=fun {c r} e=>by
  unfold isQ
  rw [e,List.head?_cons]
  by_cases h:c=63 <;> simp [h]
 rcases h with h | h
 ·obtain ⟨l,rfl,_,h2,_⟩:=id h
  refine ⟨63,l,rfl,Nat.le_trans (m:=20) ?_ (by decide),key rfl⟩
  show (63 :: l).toArray.size<=20
  rw [List.size_toArray,List.length_cons];omega
 ·have h1:=h.1
  have h2:=h.2.1
  cases e:y.cps.toList with
  | nil=>rw [e] at h1;exact absurd h1 (by simp)
  | cons c r =>
   refine ⟨c,r,rfl,Nat.le_trans (m:=20) ?_ (by decide),key e⟩
   rw [Array.length_toList] at h2
   exact Nat.le_trans h2 (by decide)
theorem dep_strs:∀ (l:aQ),depDs (l.map D.str)=0
 | []=>by rw [List.map_nil,depDs]
 | x :: l=>by rw [List.map_cons,depDs,dep_strs l];rfl
theorem IF (xs:List V)(n:Nat):cutV xs none (some (n:Int))=xs.take n:=by
 unfold cutV
 rw [HT.sIx_nat,HT.sIx_none]
 rcases Nat.le_total n xs.length with h | h
 ·rw [Nat.min_eq_left h];simp
 ·rw [Nat.min_eq_right h];simp [List.take_of_length_le h]
noncomputable def P1 (ls:Addr)(l:aQ)(H:Hp)(i:Nat)(acc:List V)(σ:St)(H1:Hp):Prop:=∃ o0 o1:Option V,σ=[o0,o1,some (.ref ls)]/\aG H H1/\acc=(dz (l.take i)).map V.str
theorem A9 {g:TG}{tt:TT}{te:TE}{Q:VK}{σ:St}{H:Hp}{a:Addr}(xs:List V)(Pv:Nat->List V->St->Hp->Prop)(h0:Pv 0 [] σ H)(hl:∀ i acc σ H,i<=xs.length->Pv i acc σ H->H a=some (.lst xs))
  (hs:∀ i x T acc σ H,xs[i]?=some x->Pv i acc σ H->H T=none->CStep g tt te (.ref T) acc σ (upd H T (.tup [.int i,x])) (Pv (i + 1))) (hd:∀ acc σ H,Pv xs.length acc σ H->∀ p,H p=none->Q (.ref p) (upd H p (.lst acc))):oF (O6 K a) g tt te Q σ H :=
 kT (n:=xs.length) Pv h0 (fun i acc σ H hi p=>⟨⟨xs,xs[i],eA.of (hl i acc σ H (Nat.le_of_lt hi) p),by simp [hi]⟩,fun z H' y=>by
   obtain ⟨T,x,rfl,hT,rfl,q⟩:=y
   exact hs i x T acc σ H (q xs (eA.of (hl i acc σ H (Nat.le_of_lt hi) p))) p hT⟩)
  fun acc σ H p=>⟨⟨xs,eA.of (hl _ acc σ H (Nat.le_refl _) p),Nat.le_refl _⟩,hd acc σ H p⟩
theorem KC {f C:Addr}{fd:FuncData}(F:gY K "_law_are_told" "_law_are_told" cC f fd)(T:iH mg)(O__law_leaves:cH P w K mg base bC 13 "_law_leaves" (gC 11))(O_leaves:cH P w K mg base bC 4 "leaves" (nC K C))(O_wishes:cH P w K mg base bC 4 "wishes" (qT K C)):bR P w K mg base bC 14 f fd hO (zO K C):=by
 refine F.ok dQ (fun vs H Q E h=>?_) (fun cdv A outer s H vs Q E hr h=>?_)
 ·obtain ⟨g,fx,sm,os,d,v,rfl,_⟩:=h
  rfl
 ·obtain ⟨g,fx,sm,os,d,v,rfl,sg,rep,tr,dp,q⟩:=h
  have hu:=hr.units
  refine ⟨_,(aE (aZ (i:=2) dQ.nd rfl (Or.inr rfl) (aM O__law_leaves (hr.mono (by decide)) pass0 rfl (aA (pv 1) aB)))
   (aE (aZ (i:=3) dQ.nd rfl (Or.inl rfl) (aM O_leaves (hr.mono (by decide)) pass0 rfl (aA (pv 0) (aA (pv 1) aB))))
   (aE (aZ (i:=4) dQ.nd rfl (Or.inl rfl) (aK (pW rfl) rfl T.n_sorted rfl (aA (fA rfl (bG.by (N:=hZ) (names:=(aF cC).names) (N':=["_law_k","_law_one","_law_some"]) (src:=[none,none,some 2]) (by decide +kernel) rfl rfl) (sU K rfl rfl T.n_enumerate (aA (pv 2) aB)) (fun _ _ _ _=>(dR K rfl (i:=0) (j:=1) rfl (show List.Nodup (["_law_k","_law_one","_law_some"]:aQ) by decide +kernel) rfl rfl rfl rfl)) (fun _ _ _ _=>(iU (PW.pt (oV (a0 (eF hu) (bN dD (pv 1) aJ (fun _ _=>rfl)) gH (nomark _)) (lK (a0 (tR hu) (pv 1) (eN jU (pv 2) eU (d8 (pv 0))) (by with_unfolding_all rfl))))))) (fun _ _ _ _=>(pv 1))) aB)))
   (aE (aZ (i:=5) dQ.nd rfl (Or.inl rfl) (aM O_wishes (hr.mono (by decide)) pass0 rfl (aA (pv 0) (aA (pv 1) aB))))
   (aE (bK (PW.pt (iL (cL (aR K rfl (aK aL rfl T.n_isinstance rfl (aA (pv 3) (aA (bH (v:=V.ty "int") rfl T.n_int rfl rfl) aB))) (fun _=>rfl))) (iL (aR K rfl (aK aL rfl T.n_isinstance rfl (aA (pv 3) (aA (bH (v:=V.ty "bool") rfl T.n_bool rfl rfl) aB))) (fun _=>rfl)) (gF (a0 (fG hu) (pv 3) (aK bD rfl T.n_len rfl (aA (pv 2) aB)) (nomark _)))))) (aH (aP mB)) aW)
   (aE (bK (PW.pt (iL (cL (aR K rfl (aK aL rfl T.n_isinstance rfl (aA (pv 5) (aA (bH (v:=V.ty "list") rfl T.n_list rfl rfl) aB))) (fun _=>rfl))) (gF (a0 (fG hu) (pv 5) (pv 4) (nomark _))))) (aH (aP mB)) aW)
   (aE (cW (iW PySem.F.plainAttrs_list PySem.F.slot_list_append PySem.F.type_list_append eV (pv 5) (aA gH aB)))
   (aH (aP (dH (eF hu) (aM O_wishes (hr.mono (by decide)) pass0 rfl (aA (pv 0) (aA (pv 1) aB))) (pv 4) (nomark _))))))))))),?_⟩
  simp only [hZ]
  clear hr F T hu O__law_leaves O_leaves O_wishes
  have keep:=aI q (aI sg (aI rep (aI tr dp)))
  clear q sg rep tr dp
  walk_at "rd"
  obtain ⟨q,sg,rep,tr,dp⟩:=keep
  refine ⟨fx,sm,os,d,v,rfl,rep,tr,dp,fun ls H1 s1 hl0 hls=>?_⟩
  refine ⟨g,fx,sm,os,d,v,rfl,sg.same s1,bB.same s1 rep,tr,fun H2 s2=>?_⟩
  dsimp only
  refine ⟨ls,rfl,⟨_,eA.of (s2 _ _ hls)⟩,?_⟩
  refine A9 ((lfs d).map V.str) (P1 ls (lfs d) H2) ⟨_,_,rfl,aG.refl _,rfl⟩ ?_ ?_ ?_
  ·rintro i acc σ H3 _ ⟨_,_,_,s3,_⟩
   exact s3 _ _ (s2 _ _ hls)
  ·rintro i x T acc σ H3 hx ⟨o0,o1,rfl,s3,rfl⟩ hT
   have keep:=aI q (aI s3 (aI s2 hls))
   clear q s3 s2 hls
   walk_at "rd"
   obtain ⟨q,s3,s2,hls⟩:=keep
   have hls3:upd H3 T (.tup [.int i,x]) ls=some (.lst ((lfs d).map V.str)):=by
    have:=s3 _ _ (s2 _ _ hls)
    rw [aC (aD this hT)]
    exact this
   have s4:aG H2 (upd H3 T (.tup [.int i,x])):=s3.trans (aG.upd hT)
   obtain ⟨y,hy,rfl⟩:∃ y,(lfs d)[i]?=some y/\x = .str y:=by
    rw [List.getElem?_map] at hx
    cases e:(lfs d)[i]? with
    | none=>rw [e] at hx;cases hx
    | some y=>rw [e] at hx;cases hx;exact ⟨y,rfl,rfl⟩
   have ll:(lfs d).length<=50:=by rw [iB (pO tr.tm)];exact tr.lv
   have lf:=CA tr.so tr.ho (AW tr.tm y (List.mem_of_getElem? hy))
   obtain ⟨c,r,hc,hz,hq⟩:=NA lf
   refine ⟨_,h8.of upd_same,rfl,_,_,rfl,_,_,rfl,rfl,.str ⟨#[c]⟩,?_,?_⟩
   ·rw [qJ hz,hc,atI_zero]
    rfl
   ·rw [rEqD_ss]
    refine ⟨_,rfl,?_⟩
    have e63:decide ((⟨#[c]⟩:Str)=PySem.Str.ofString "?")=isQ y:=by rw [hq];exact decide_eq_decide.mpr ⟨fun h=>(by have h:(⟨#[c]⟩:Str)=⟨#[63]⟩:=h;injection h with h;simpa using h),fun h=>(by rw [h];rfl)⟩
    rw [e63]
    by_cases hqq:isQ y=true
    ·rw [if_pos hqq]
     refine ⟨i,rfl,_,.inl hls3,fun ⟨ys,z⟩=>(by rw [hls3] at z;cases z),fun p o hp ho=>?_⟩
     have lt:i < (lfs d).length:=by
      rcases Nat.lt_or_ge i (lfs d).length with h | h
      ·exact h
      ·rw [List.getElem?_eq_none h] at hy;cases hy
     have ho:o = .lst (((lfs d).take i).map V.str):=by
      rcases ho with ⟨z,_⟩ | ⟨_,z⟩
      ·rw [z,IF,List.map_take]
      ·rw [hls3] at z;cases z
     subst ho
     refine ⟨.str y,((lfs d).take i).map D.str,rfl,.inl ⟨p,_,rfl,upd_same,fK _⟩,?_,?_⟩
     ·rw [dep_strs]
      decide
     ·refine ⟨_,rfl,?_⟩
      have s5:=s4.trans (aG.upd hp (o:=.lst (((lfs d).take i).map V.str)))
      have tk:(lfs d).take (i + 1)=(lfs d).take i ++ [y]:=aV hy
      rw [if_pos rfl,nU]
      by_cases hm:y ∈ (lfs d).take i
      ·rw [decide_eq_true hm,if_neg (by decide)]
       refine ⟨_,_,rfl,s5,?_⟩
       rw [tk,nZ]
       unfold dzs
       rw [if_pos hqq,if_pos (G2.mpr ⟨hm,hqq⟩)]
      ·rw [decide_eq_false hm,if_pos (by decide)]
       refine ⟨?_,_,_,rfl,s5,?_⟩
       ·have h1:=wX ((lfs d).take i)
        rw [List.length_take] at h1
        rw [List.length_map]
        exact Nat.lt_of_le_of_lt (m:=50) (by omega) (by decide)
       ·rw [tk,nZ]
        unfold dzs
        rw [if_pos hqq,if_neg (fun z=>hm (G2.mp z).1),List.map_append]
        rfl
    ·rw [if_neg hqq]
     refine ⟨_,_,rfl,s4,?_⟩
     rw [aV hy,nZ]
     unfold dzs
     rw [if_neg hqq]
  ·rintro acc σ H3 ⟨o0,o1,rfl,s3,rfl⟩ p hp
   rw [List.length_map,List.take_length]
   have ll:(lfs d).length<=50:=by rw [iB (pO tr.tm)];exact tr.lv
   have ld:=wX (lfs d)
   have s3p:aG H3 (upd H3 p (.lst ((dz (lfs d)).map V.str))):=aG.upd hp
   have gp:upd H3 p (.lst ((dz (lfs d)).map V.str)) p=some (.lst ((dz (lfs d)).map V.str)):=upd_same
   generalize upd H3 p (.lst ((dz (lfs d)).map V.str))=H4 at s3p gp ⊢
   refine ⟨p,dz (lfs d),rfl,.inr gp,by omega,fun ys pm so dl hdl=>?_⟩
   have s5:aG H4 (upd H4 dl (.lst (ys.map V.str))):=aG.upd hdl
   have g5:upd H4 dl (.lst (ys.map V.str)) dl=some (.lst (ys.map V.str)):=upd_same
   generalize upd H4 dl (.lst (ys.map V.str))=H5 at s5 g5 ⊢
   have s05:aG H H5:=(((s1.trans s2).trans s3).trans s3p).trans s5
   have hls5:H5 ls=some (.lst ((lfs d).map V.str)):=s5 _ _ (s3p _ _ (s3 _ _ (s2 _ _ hls)))
   refine ⟨g,fx,sm,os,d,v,rfl,sg.same s05,bB.same s05 rep,tr,fun w1 zs H6 s6 w10 w11 pm2 so2=>?_⟩
   have ez:zs=ys:=kH (pm2.trans pm.symm) (iR so2) (iR so)
   subst ez
   have lz:zs.length<=50:=by rw [pm2.length_eq];omega
   refine ⟨true,rfl,?_⟩
   rw [if_neg (by decide)]
   refine ⟨false,rfl,?_⟩
   rw [if_neg (by decide),lenV_l (s6 _ _ hls5),List.length_map,iB (pO tr.tm)]
   refine ⟨_,rfl,?_⟩
   rw [rNeD_ii]
   refine ⟨_,rfl,?_⟩
   rw [decide_eq_true rfl,if_neg (by decide)]
   refine ⟨true,by unfold isV tyN;simp only [w11];rfl,?_⟩
   rw [if_neg (by decide)]
   refine ⟨.lst (zs.map D.str),.lst (zs.map D.str),⟨w1,_,rfl,w11,fK _⟩,⟨dl,_,rfl,s6 _ _ g5,fK _⟩,by rw [depD,dep_strs];decide,?_⟩
   refine ⟨_,rfl,?_⟩
   rw [iM,if_neg (by decide)]
   have nw:w1≠dl:=fun z=>by rw [z,g5] at w10;cases w10
   refine ⟨.inl ⟨rfl,_,eA.of w11⟩,w1,rfl,_,w11,(by rw [List.length_map];exact Nat.lt_of_le_of_lt lz (by decide)),?_⟩
   ·have b7:∀ b o,b≠w1->H6 b=some o->upd H6 w1 (.lst (zs.map V.str ++ [.str (PySem.Str.ofString "?")])) b=some o:=fun b o n e=>by rw [aC n];exact e
    generalize upd H6 w1 (.lst (zs.map V.str ++ [.str (PySem.Str.ofString "?")]))=H7 at b7 ⊢
    have s57:aG H5 H7:=fun b o e=>b7 b o (aD e w10) (s6 _ _ e)
    refine ⟨g,fx,sm,os,d,v,rfl,sg.same (s05.trans s57),bB.same (s05.trans s57) rep,tr,fun w2 us H8 s8 w20 w21 pm3 so3=>?_⟩
    have eu:us=zs:=kH (pm3.trans pm2.symm) (iR so3) (iR so2)
    subst eu
    refine ⟨.lst (us.map D.str),.lst (us.map D.str),⟨w2,_,rfl,w21,fK _⟩,⟨dl,_,rfl,s8 _ _ (s57 _ _ g5),fK _⟩,by rw [depD,dep_strs];decide,?_⟩
    rw [iM]
    exact q _ ((s05.trans s57).trans s8)
end
section
variable {P:Program}{w:World}{K:PySem.W.Frag}{mg:gA}{base:Heap}
structure Bs (K:PySem.W.Frag)(C g t o:Addr)(fx:cQ)(sm:bY)(os:aQ)(H:Hp):Prop where
 sg:iO K C fx sm H g
 ex:∃ a b fv sv,H t=some (.tup [.ref a,.ref b])/\H a=some (.lst fv)/\H b=some (.lst sv)/\dN H fx fv/\fH H sm sv
 so:dJ fx sm
 ol:H o=some (.lst (os.map V.str))
 o5:os.length=5
 ho:∀ x ∈ os,eQ x
theorem Bs.but {C g t o p:Addr}{fx:cQ}{sm:bY}{os:aQ}{H H':Hp}(h:Bs K C g t o fx sm os H)(b:dM p H H')(n1:∀ C dx fs,H p≠some (.ins C dx fs))(n2:∀ kvs,H p≠some (.dK kvs))(n3:∀ xs,H p≠some (.tup xs))(n4:∀ xs,H p≠some (.lst xs)):Bs K C g t o fx sm os H':=by
 obtain ⟨⟨a1,a2,a3,dx,fs,dm,dn,h1,h2,h3,h4,h5,h6,h7⟩,⟨a,b',fv,sv,e1,e2,e3,rf,rs⟩,so,ol,o5,ho⟩:=h
 have ts:bF H H':=fun c xs e=>b c _ (fun z=>n3 xs (z ▸ e)) e
 exact ⟨⟨a1,a2,a3,dx,fs,dm,dn,b _ _ (fun z=>n1 _ _ _ (z ▸ h1)) h1,h2,h3,h4,h5,b _ _ (fun z=>n2 _ (z ▸ h6)) h6,b _ _ (fun z=>n2 _ (z ▸ h7)) h7⟩,
  ⟨a,b',fv,sv,ts _ _ e1,b _ _ (fun z=>n4 _ (z ▸ e2)) e2,b _ _ (fun z=>n4 _ (z ▸ e3)) e3,rf.same ts,rs.same ts⟩,so,b _ _ (fun z=>n4 _ (z ▸ ol)) ol,o5,ho⟩
theorem Bs.same {C g t o:Addr}{fx:cQ}{sm:bY}{os:aQ}{H H':Hp}(h:Bs K C g t o fx sm os H)(s:aG H H'):Bs K C g t o fx sm os H':=by
 obtain ⟨sg,⟨a,b',fv,sv,e1,e2,e3,rf,rs⟩,so,ol,o5,ho⟩:=h
 exact ⟨sg.same s,⟨a,b',fv,sv,s _ _ e1,s _ _ e2,s _ _ e3,rf.same (bF.of s),rs.same (bF.of s)⟩,so,s _ _ ol,o5,ho⟩
theorem Bs.lt {C g t o Pt:Addr}{fx:cQ}{sm:bY}{os:aQ}{H H':Hp}(h:Bs K C g t o fx sm os H)(l:LT Pt H)(b:dM Pt H H'):Bs K C g t o fx sm os H':=by
 obtain ⟨ps,e⟩:=l.tbl
 exact h.but b (fun _ _ _ z=>by rw [e] at z;cases z) (fun _ z=>by rw [e] at z;cases z) (fun _ z=>by rw [e] at z;cases z) (fun _ z=>by rw [e] at z;cases z)
theorem I9 {H H':Hp}{a p:Addr}{xs:List V}(h:eA K H a xs)(b:dM p H H')(n:∀ o,H p≠some (.frz o (.lst xs)))(n2:H p≠some (.lst xs)):eA K H' a xs:=by
 rcases h with (h | ⟨o,h⟩) | h
 ·exact .inl (.inl (b _ _ (fun z=>n2 (z ▸ h)) h))
 ·exact .inl (.inr ⟨o,b _ _ (fun z=>n o (z ▸ h)) h⟩)
 ·exact .inr h
theorem KQ (x:Str):nds (.str x)=1:=by unfold nds;rfl
mutual
theorem FL {fx:cQ}{sm:bY}{os:aQ}:∀ {d:D},bM fx sm os d->nds d<=lvs d * (depD d + 1)
 | .str x,_=>by
  have:lvs (.str x)=1:=by rw [lvs] <;> simp
  rw [KQ,this]
  omega
 | .tup (.str n :: ds),h=>by
  have h1:=zM h
  unfold bM at h
  have h2:=u6 h.2
  rw [lvs] at h1
  rw [lvs,nds,depD,depDs]
  show 1 + ndss ds<=lvss ds * (max (depD (D.str n)) (depDs ds) + 2)
  have h3:depDs ds<=max (depD (D.str n)) (depDs ds):=Nat.le_max_right _ _
  have h4:=Nat.mul_le_mul_left (lvss ds) (Nat.add_le_add_right h3 2)
  have h5:lvss ds * (depDs ds + 2)=lvss ds * (depDs ds + 1) + lvss ds:=by rw [show depDs ds + 2=(depDs ds + 1) + 1 from rfl,Nat.mul_succ]
  omega
 | .lst (.str n :: ds),h=>by
  have h1:=zM h
  unfold bM at h
  have h2:=u6 h.2
  rw [lvs] at h1
  rw [lvs,nds,depD,depDs]
  show 1 + ndss ds<=lvss ds * (max (depD (D.str n)) (depDs ds) + 2)
  have h3:depDs ds<=max (depD (D.str n)) (depDs ds):=Nat.le_max_right _ _
  have h4:=Nat.mul_le_mul_left (lvss ds) (Nat.add_le_add_right h3 2)
  have h5:lvss ds * (depDs ds + 2)=lvss ds * (depDs ds + 1) + lvss ds:=by rw [show depDs ds + 2=(depDs ds + 1) + 1 from rfl,Nat.mul_succ]
  omega
theorem u6 {fx:cQ}{sm:bY}{os:aQ}:∀ {ds:List D},IsTms fx sm os ds->ndss ds<=lvss ds * (depDs ds + 1)
 | [],_=>by rw [ndss];omega
 | d :: ds,h=>by
  have h1:=FL h.1
  have h2:=u6 h.2
  rw [ndss,lvss,depDs,Nat.add_mul]
  have a1:=Nat.mul_le_mul_left (lvs d) (Nat.add_le_add_right (Nat.le_max_left (depD d) (depDs ds)) 1)
  have a2:=Nat.mul_le_mul_left (lvss ds) (Nat.add_le_add_right (Nat.le_max_right (depD d) (depDs ds)) 1)
  omega
end
theorem BR {fx:cQ}{sm:bY}{os:aQ}{d:D}(so:dJ fx sm)(ho:∀ x ∈ os,eQ x)(tm:bM fx sm os d)(l:lvs d<=40)(dp:depD d<=11):IR fx sm os d :=
 ⟨so,ho,tm,by omega,by
  have h:=FL tm
  have h1:=Nat.mul_le_mul l (Nat.add_le_add_right dp 1)
  omega,by omega⟩
noncomputable def spLaw (K:PySem.W.Frag)(Pt:Addr):Sp:=fun vs H Q _=>∃ (a:Addr) (ns:List Int),vs=[.ref a]/\eA K H a (ns.map V.int)/\(∀ xs,H a≠some (.lst xs))/\ns.length<=63/\LT Pt H/\∀ H',Q (.bl true) H'
noncomputable def O0 (a g t o Pt:Addr)(Hb:Hp)(_:Nat)(σ:St)(H:Hp):Prop:=∃ o1 o5 o6 o7:Option V,σ=[some (.ref a),o1,some (.ref t),some (.ref g),some (.ref o),o5,o6,o7]/\dM Pt Hb H/\LT Pt H
theorem M6 {f C Pt:Addr}{fd:FuncData}(F:gY K "law" "law" lZ f fd)(T:iH mg)(O__law_pot:cH P w K mg base bC 2 "_law_pot" (spPot K))(O__law_signs:cH P w K mg base bC 3 "_law_signs" vF)(MK_Signs:N0 P w K mg base bC 3 "Signs" C (zS K C))(O__law_drawn:cH P w K mg base bC 2 "_law_drawn" vL)
  (O__law_term:cH P w K mg base bC 15 "_law_term" (mI 11)) (O__law_flat:cH P w K mg base bC 14 "_law_flat" (oT 11)) (O_flat:cH P w K mg base bC 10 "flat" (vK K C Pt)) (O_leaves:cH P w K mg base bC 4 "leaves" (nC K C)) (O__law_leaves:cH P w K mg base bC 13 "_law_leaves" (gC 11)) (O__law_are_told:cH P w K mg base bC 14 "_law_are_told" (zO K C)):bR P w K mg base bC 17 f fd L1 (spLaw K Pt):=by
 refine F.ok kI (fun vs H Q E h=>?_) (fun cdv A outer s H vs Q E hr h=>?_)
 ·obtain ⟨a,ns,rfl,_⟩:=h
  rfl
 ·obtain ⟨a,ns,rfl,hs,na,n63,lt,q⟩:=h
  have hu:=hr.units
  refine ⟨_,(aE (aZ (i:=1) kI.nd rfl (Or.inl rfl) (aM O__law_pot (hr.mono (by decide)) pass0 rfl (aA (pv 0) (aA aJ aB))))
   (aE (aZ (i:=2) kI.nd rfl (Or.inl rfl) (aM O__law_signs (hr.mono (by decide)) pass0 rfl (aA (pv 1) aB)))
   (aE (aZ (i:=3) kI.nd rfl (Or.inl rfl) (OC MK_Signs (hr.mono (by decide)) pass0 rfl (aA (bN dD (pv 2) aJ (fun _ _=>rfl)) (aA (bN dD (pv 2) aJ (fun _ _=>rfl)) aB))))
   (aE (aZ (i:=4) kI.nd rfl (Or.inl rfl) (aM O__law_drawn (hr.mono (by decide)) pass0 rfl (aA (pv 1) aB)))
   (aE (eY PassesOwn.never rfl (gG rfl T.n_range (aA (aK (ET rfl) rfl T.n_max rfl (aA aJ (aA (aK (uR rfl) rfl T.n_min rfl (aA aJ (aA (aK iC rfl T.n_len rfl (aA (pv 0) aB)) aB))) aB))) aB)) (bJ (i:=5) kI.nd rfl (Or.inl rfl)) (aE (aZ (i:=6) kI.nd rfl (Or.inl rfl) (aM O__law_term (hr.mono (by decide)) pass0 rfl (aA (aM O__law_pot (hr.mono (by decide)) pass0 rfl (aA (pv 0) (aA (pv 5) aB))) (aA (pv 2) (aA (pv 4) (aA aJ (aA aJ aB)))))))
   (aE (aZ (i:=7) kI.nd rfl (Or.inl rfl) (aM O__law_flat (hr.mono (by decide)) pass0 rfl (aA (pv 2) (aA (pv 6) aB))))
   (aE (bK (PW.pt (iL (cL (aR K rfl (aM O__law_are_told (hr.mono (by decide)) pass0 rfl (aA (pv 3) (aA (pv 6) aB))) (fun _=>rfl))) (gF (cL (aR K rfl (aM O__law_are_told (hr.mono (by decide)) pass0 rfl (aA (pv 3) (aA (aM O_flat (hr.mono (by decide)) pass0 rfl (aA (pv 3) (aA (pv 6) aB))) aB))) (fun _=>rfl)))))) (aH (aP mB)) aW)
   (aH (bK (a0 (fG hu) (aM O_leaves (hr.mono (by decide)) pass0 rfl (aA (pv 3) (aA (aM O_flat (hr.mono (by decide)) pass0 rfl (aA (pv 3) (aA (pv 6) aB))) aB))) (aK iC rfl T.n_len rfl (aA (aM O__law_leaves (hr.mono (by decide)) pass0 rfl (aA (pv 7) aB)) aB)) (nomark _)) (aH (aP mB)) aW))))))
   (aH (aP mB))))))),?_⟩
  simp only [L3]
  clear hr F T hu O__law_pot O__law_signs MK_Signs O__law_drawn O__law_term O__law_flat O_flat O_leaves O__law_leaves O__law_are_told
  have keep:=aI q (aI hs (aI n63 (aI lt na)))
  clear q hs n63 lt na
  walk_at "rd"
  obtain ⟨q,hs,n63,lt,na⟩:=keep
  refine ⟨a,0,ns,rfl,hs,by omega,by omega,fun p x y hp=>?_⟩
  have s1:aG H (upd H p (.lst [.int x,.int y])):=aG.upd hp
  refine ⟨p,rfl,⟨x,y,upd_same⟩,fun t a1 a2 fx sm fv sv H2 b2 p2 ht ha hb rf rs so na1 nb1=>?_⟩
  simp only [tMake,tCons,tNil,tOp,tVar,tC]
  walk_at "rd"
  refine ⟨.ref a1,by rw [ixV_t ht];rfl,.ref a2,by rw [ixV_t ht];rfl,fun g dx hg hdx ng=>?_⟩
  have s2:aG H2 (upd (upd H2 dx (.own g)) g (.ins C dx [])):=(aG.upd hdx).trans (aG.upd (by rw [aC (Ne.symm ng)];exact hg))
  refine ⟨g,dx,a1,a2,fx,sm,fv,sv,rfl,upd_same,s2 _ _ ha,s2 _ _ hb,rf.same (bF.of s2),rs.same (bF.of s2),so,fun H3 b3 sg=>⟨rfl,?_⟩⟩
  have s3:aG H2 H3:=fun c ob e=>b3 c ob (aD e hg) (s2 _ _ e)
  have p3:bW H3 p:=by obtain ⟨x',y',e⟩:=p2;exact ⟨x',y',s3 _ _ e⟩
  refine ⟨p,rfl,p3,fun o os H4 no b4 p4 ho o5 hw=>?_⟩
  have s4:aG H H4:=fun c ob e=>b4 c ob (aD e hp) (s3 _ _ (b2 c ob (aD e hp) (s1 _ _ e)))
  have bs:Bs K C g t o fx sm os H4:=by
   obtain ⟨c1,c2,c3,dx',fs,dm,dn,h1,h2,h3,h4,h5,h6,h7⟩:=sg
   obtain ⟨x',y',ep⟩:=p3
   have ts:=bF.ofBut b4 ⟨x',y',ep⟩
   exact ⟨⟨c1,c2,c3,dx',fs,dm,dn,b4 _ _ (fun z=>by rw [z,ep] at h1;cases h1) h1,h2,h3,h4,h5,b4 _ _ (fun z=>by rw [z,ep] at h6;cases h6) h6,b4 _ _ (fun z=>by rw [z,ep] at h7;cases h7) h7⟩,
    ⟨a1,a2,fv,sv,ts _ _ (s3 _ _ ht),b4 _ _ na1 (s3 _ _ ha),b4 _ _ nb1 (s3 _ _ hb),(rf.same (bF.of s3)).same ts,(rs.same (bF.of s3)).same ts⟩,so,ho,o5,hw⟩
  have lt4:LT Pt H4:=lt.same s4
  have sq4:eA K H4 a (ns.map V.int):=aG.seq s4 hs
  clear b4 p4 b3 s3 s2 sg p3 ho o5 hw no rf rs so ha hb ht na1 nb1 b2 p2 s1 hp s4 hs lt na hg hdx ng
  have hlen:((ns.map V.int).length:Int)<=63:=by rw [List.length_map];omega
  refine ⟨ns.map V.int,.inl sq4,10,_,⟨rfl,rfl⟩,3,_,⟨rfl,rfl⟩,by split <;> split <;> omega,by split <;> split <;> omega,?_⟩
  generalize hm:(if (if ((ns.map V.int).length:Int) < 10 then ((ns.map V.int).length:Int) else 10) > 3 then (if ((ns.map V.int).length:Int) < 10 then ((ns.map V.int).length:Int) else 10) else 3).toNat=m
  have hm10:m<=10:=by rw [← hm];split <;> split <;> omega
  clear hm hlen
  obtain ⟨ps,hps⟩:=lt4.tbl
  refine gI (O0 a g t o Pt H4) ⟨_,_,_,_,rfl,dM.refl _ _,lt4⟩ ?_ ?_
  ·rintro i σ H7 hi ⟨o1,o5,o6,o7,rfl,b7,lt7⟩
   have bs7:=bs.lt lt4 b7
   have sq7:eA K H7 a (ns.map V.int):=I9 sq4 b7 (fun o' z=>by rw [hps] at z;cases z) (fun z=>by rw [hps] at z;cases z)
   walk_at "rd"
   refine ⟨a,i,ns,by simp,sq7,by omega,by omega,fun p x y hp=>?_⟩
   walk_at "rd"
   have s8:aG H7 (upd H7 p (.lst [.int x,.int y])):=aG.upd hp
   have ti:pI p t o fx sm os (upd H7 p (.lst [.int x,.int y])):=by
    obtain ⟨a'',b'',fv'',sv'',f1,f2,f3,f4,f5⟩:=bs7.ex
    exact ⟨⟨x,y,upd_same⟩,⟨a'',b'',fv'',sv'',s8 _ _ f1,s8 _ _ f2,s8 _ _ f3,f4.same (bF.of s8),f5.same (bF.of s8),aD f2 hp,aD f3 hp⟩,⟨s8 _ _ bs7.ol,aD bs7.ol hp⟩,bs7.so,by rw [bs7.o5];decide,by rw [bs7.o5];decide⟩
   refine ⟨p,t,o,fx,sm,os,40,11,rfl,ti,by decide,by decide,by decide,fun d v H8 b8 p8 r8 tm8 lv8 dp8=>?_⟩
   have so:=bs7.so
   have ho:=bs7.ho
   have s78:aG H7 H8:=fun c ob e=>b8 c ob (aD e hp) (s8 _ _ e)
   have b48:dM Pt H4 H8:=fun c ob n e=>s78 _ _ (b7 c ob n e)
   have lt8:=lt7.same s78
   have rep8:bB H8 d v:=bB.same (fun c ob e=>(g7.mp e).2) r8
   clear s8 ti b8 p8 r8 hp s78 sq7 bs7 lt7 b7
   have bs8:=bs.lt lt4 b48
   have tr:IR fx sm os d:=BR so ho tm8 lv8 dp8
   have tf:=HP so ho tm8
   have dpf:=CN sm d
   have lvf:lvs (flt sm d)<=40:=by
    have:=(xH so ho tf).2
    have:=(xH so ho tm8).2
    have:=HQ sm d
    omega
   have trf:IR fx sm os (flt sm d):=BR so ho tf lvf (by omega)
   have keep:=aI lt8 (aI rep8 (aI bs8 (aI tr (aI tf trf))))
   clear lt8 rep8 bs8 tr tf trf
   walk_at "rd"
   obtain ⟨lt8,rep8,bs8,tr,tf,trf⟩:=keep
   have smn:(sm.map (·.1)).Nodup:=(List.nodup_append.mp so.nd).2.1
   have tm1:=xH so ho tm8
   obtain ⟨a',b',fv',sv',f1,f2,f3,f4,f5⟩:=bs8.ex
   refine ⟨t,a',b',sm,sv',d,v,rfl,f1,f3,f5,smn,jY so,so.s2,rep8,tm1.1,by omega,by omega,by omega,fun w0 H9 s9 q9=>?_⟩
   have bs9:=bs8.same s9
   have lt9:=lt8.same s9
   refine ⟨g,fx,sm,os,d,v,rfl,bs9.sg,bB.same s9 rep8,tr,dp8,fun H10 s10=>?_⟩
   refine ⟨true,rfl,?_⟩
   rw [if_neg (by decide)]
   have bs10:=bs9.same s10
   have lt10:=lt9.same s10
   refine ⟨g,fx,sm,os,d,v,rfl,bs10.sg,bB.same (s9.trans s10) rep8,tr,lt10,fun w1 H11 b11 lt11 q11=>?_⟩
   have bs11:=bs10.lt lt10 b11
   refine ⟨g,fx,sm,os,flt sm d,w1,rfl,bs11.sg,q11,trf,by omega,fun H12 s12=>?_⟩
   refine ⟨true,rfl,?_⟩
   rw [if_neg (by decide)]
   have rb:∀ {Ha Hb:Hp} {dd:D} {vv:V},LT Pt Ha->dM Pt Ha Hb->bB Ha dd vv->bB Hb dd vv:=fun l b r=>by
    obtain ⟨ps',e⟩:=l.tbl
    exact bB.but b (fun _ z=>by rw [e] at z;cases z) (fun _ z=>by rw [e] at z;cases z) r
   have bs12:=bs11.same s12
   have lt12:=lt11.same s12
   refine ⟨g,fx,sm,os,d,v,rfl,bs12.sg,bB.same s12 (rb lt10 b11 (bB.same (s9.trans s10) rep8)),tr,lt12,fun w2 H13 b13 lt13 q13=>?_⟩
   have bs13:=bs12.lt lt12 b13
   refine ⟨g,fx,sm,os,flt sm d,w2,rfl,bs13.sg,q13,trf,fun H14 s14=>?_⟩
   refine ⟨fx,sm,os,flt sm d,w0,rfl,bB.same s14 (rb lt12 b13 (bB.same s12 (rb lt10 b11 (bB.same s10 q9)))),trf,by omega,fun l5 H15 s15 h50 h51=>?_⟩
   refine ⟨l5,rfl,_,.inl (eA.of h51),?_⟩
   rw [List.length_map,iB (pO trf.tm),rNeD_ii]
   refine ⟨_,rfl,?_⟩
   rw [decide_eq_true rfl,if_neg (by decide)]
   exact ⟨_,_,_,_,rfl,fun c ob n e=>s15 _ _ (s14 _ _ (b13 c ob n (s12 _ _ (b11 c ob n (s10 _ _ (s9 _ _ (b48 c ob n e))))))),lt13.same (s14.trans s15)⟩
  ·rintro σ H7 ⟨_,_,_,_,rfl,_⟩
   walk_at "rd"
end
end Lw
namespace Lw
open PySem PySem.Spec PyProof.Rows PySem.W L2
theorem BA {K:Frag}{h:Heap}{x:Str}{c Pt:Addr}(X:K.In h)(ht:tabIn K x=some (c,Pt))(C:CodeHd h c Pt):∀ h',K.In h'->CodeHd h' c Pt:=by
 have lk:∃ o,K.lookup c=some o:=by
  unfold tabIn at ht
  split at ht
  ·split at ht
   ·split at ht
    ·split at ht
     ·rename_i c2 _ _ _ _ _ hc
      split at ht
      ·cases ht;exact ⟨_,hc⟩
      ·cases ht
     ·cases ht
    ·cases ht
   ·cases ht
  ·cases ht
 obtain ⟨o,lk⟩:=lk
 obtain ⟨o',vs,r1,r2,r3,r4,r5,r6,r7,e,r⟩:=C
 intro h' X'
 have e1:=X _ _ lk
 rw [e] at e1
 cases e1
 exact ⟨_,vs,r1,r2,r3,r4,r5,r6,r7,X' _ _ lk,r⟩
theorem D9 {P:Program}{w:World}{K:Frag}{mg mb:gA}{k:Nat}{fa a c Pt:Addr}{fd:FuncData}{x:Str}{sp:Sp}{s1:Shared}{vs:bP}{ns:List Int}
  (KX:K.In s1.heap) (hns:s1.heap.Ns mainGlobals mg) (hb:s1.heap.Ns builtinsNs mb) (hbb:∀ x:Str,x≠"__name__"->mb x=bootBuiltins x) (hlim:s1.heap.NoLimit) (hg:s1.gens = #[])
  (ha:s1.heap.get? a=some { cls:=.type "list",data:=.seq vs.toArray }) (hi:IntsAre vs ns) (hl:ns.length<=sizeLine) (hr:eI k callerA)
  (hT:CodeHd s1.heap c Pt) (hP:s1.heap.get? Pt=some (tabObj #[])) (hKP:K.lookup Pt=none) (hB:Bm mg s1.heap)
  (F:∀ base:Heap,K.In base->base.Ns mainGlobals mg->Bm mg base->bR P w K mg base bC k fa fd [x] sp) (hbind:∀ (s:Shared) (u:Value),BindsTo s fd ⟨[u],[]⟩ [(x,u)])
  (hsp:∀ H:Hp,(∀ xs,H a≠some (.lst xs))->H Pt=some (.tbl #[])->eA K H a (ns.map V.int)->sp [.ref a] H (fun v _=>v = .bl true) fun _ _ _=>False) :
  codeAny (model P w) callerA (.call (.ref fa) ⟨[.ref a],[]⟩) (fun r s'=>r = .ok (.ret (.bool true))/\OldK s1.heap s'.heap/\s'.os=s1.os/\AllBare s'.gens) s1:=by
 have rv:=tH hi
 have lenV:=hi.length
 have nPa:Pt≠a:=fun z=>by rw [z,ha] at hP;cases hP
 have core:∀ H:Hp,H Pt=some (.tbl #[])->(∀ b,b≠Pt->H b≠none->b=a/\K.lookup a=none/\∃ o xs,H a=some (.frz o (.lst xs)))->eA K H a (ns.map V.int)->gX P w H s1.heap ->
   codeAny (model P w) callerA (.call (.ref fa) ⟨[.ref a],[]⟩) (fun r s'=>r = .ok (.ret (.bool true))/\OldK s1.heap s'.heap/\s'.os=s1.os/\AllBare s'.gens) s1:=by
  intro H hH hA hS hok
  have free:∀ {b:Addr} {o:Obj},s1.heap.get? b=some o->o≠tabObj #[]->(b=a->K.lookup a=none->False)->H b=none:=fun {b o} e n n2=>by
   cases q:H b with
   | none=>rfl
   | some u =>
    by_cases z:b=Pt
    ·rw [z,hP] at e;exact absurd (Option.some.inj e).symm n
    ·obtain ⟨z1,z2,_⟩:=hA b z (by rw [q];simp)
     exact (n2 z1 z2).elim
  have nsK:∀ {b:Addr} {m:gA},s1.heap.Ns b m->(hidT s1.heap H).Ns b m:=fun {b m} ⟨o,es,ep,e,d,r⟩=>⟨o,es,ep,rQ e (free e (fun z=>by rw [z] at d;cases d) (fun z _=>by rw [z,ha] at e;cases e;cases d)),d,r⟩
  have hKb:K.In (hidT s1.heap H):=fun b o e=>rQ (KX b o e) (by
   cases q:H b with
   | none=>rfl
   | some u =>
    by_cases z:b=Pt
    ·rw [z,hKP] at e;cases e
    ·obtain ⟨z1,z2,_⟩:=hA b z (by rw [q];simp)
     rw [z1,z2] at e;cases e)
  have hM:Mod K mg (hidT s1.heap H):=⟨hKb,nsK hns,⟨mb,nsK hb,hbb⟩,let ⟨mc,h1,h2⟩:=hlim;⟨mc,nsK h1,h2⟩⟩
  have hB':Bm mg (hidT s1.heap H):=by
   obtain ⟨bm,o,e1,e2,e3,e4,e5,e6,e7⟩:=hB
   exact ⟨bm,o,e1,e2,e3,rQ e4 (free e4 (fun z=>by rw [z] at e5;cases e5) (fun z _=>by rw [z,ha] at e4;cases e4;cases e7)),e5,e6,e7⟩
  have e0:xD P w K mg (hidT s1.heap H) callerA [] s1 H:=⟨rfl,hM,fun b o e=>KO e,Nat.le_of_eq (EC _ _),trivial,fun b hb=>absurd (show b ∈ ([]:List Addr) from hb) (by simp),hok,.of_eq hg⟩
  have nl:∀ xs,H a≠some (.lst xs):=fun xs z=>by
   obtain ⟨_,_,o,ys,e⟩:=hA a (Ne.symm nPa) (by rw [z];simp)
   rw [z] at e;cases e
  refine codeAny_mono ((F _ hKb (nsK hns) hB').run callerA [] s1 H ⟨[.ref a],[]⟩ [.ref a] [.ref a] _ _ hr e0 (hbind s1 (.ref a)) (.cons rfl .nil) (hsp H nl hH hS)) fun r s' h=>?_
  cases r with
  | error e=>exact False.elim h
  | ok fl =>
   cases fl with
   | next=>exact False.elim h
   | brk=>exact False.elim h
   | cont=>exact False.elim h
   | ret u =>
    obtain ⟨v,H',os,bare,un,hok',r',q⟩:=h
    have q':v = .bl true:=q
    subst q'
    obtain rfl:u=Value.bool true:=r'
    have keep:∀ b o,b≠Pt->s1.heap.get? b=some o->s'.heap.get? b=some o:=fun b o n e=>by
     cases q:H b with
     | none=>exact un.keep b o e q (by intro z;exact absurd (show b ∈ ([]:List Addr) from z) (by simp)) (by simp)
     | some u =>
      obtain ⟨rfl,_,ob,xs,z⟩:=hA b n (by rw [q];simp)
      have z2:=un.frzs b ob _ z
      obtain ⟨e1,_⟩:=hok b _ z
      obtain ⟨e2,_⟩:=hok' b _ z2
      rw [e] at e1;cases e1
      exact e2
    obtain ⟨more,hm⟩:=un.tbls Pt #[] hH
    have gP:s'.heap.get? Pt=some (tabObj (#[] ++ more)):=hok' Pt _ hm
    refine ⟨rfl,⟨fun b o e=>?_,fun b o e=>?_⟩,os,bare⟩
    ·by_cases z:b=Pt
     ·subst z
      rw [hP] at e;cases e
      exact .inr (.inl ⟨(hT.tab hP).isCodeTable,rfl,#[],more,rfl,gP⟩)
     ·exact .inl (keep b o z e)
    ·by_cases z:b=Pt
     ·subst z;exact ⟨_,gP⟩
     ·exact ⟨o,keep b o z e⟩
 cases hk:K.lookup a with
 | some o =>
  have e:=KX a o hk
  rw [ha] at e
  cases e
  refine core (fun b=>if b=Pt then some (.tbl #[]) else none) (if_pos rfl) (fun b n z=>absurd (if_neg n) z) (.inr ⟨_,vs.toArray,_,hk,rfl,rfl,rfl,by rw [List.size_toArray,lenV];exact hl,by simpa using rv⟩) fun b u z=>?_
  by_cases hb:b=Pt
  ·have z':=(if_pos hb).symm.trans z
   cases z'
   subst hb
   exact hP
  ·have z':=(if_neg hb).symm.trans z
   cases z'
 | none =>
  refine core (fun b=>if b=Pt then some (.tbl #[]) else if b=a then some (.frz { cls:=.type "list",data:=.seq vs.toArray } (.lst (ns.map V.int))) else none) (if_pos rfl) (fun b n z=>?_) (.inl (.inr ⟨{ cls:=.type "list",data:=.seq vs.toArray },(if_neg (Ne.symm nPa)).trans (if_pos rfl)⟩)) (fun b u z=>?_)
  ·by_cases hb:b=a
   ·exact ⟨hb,hk,_,_,(if_neg (Ne.symm nPa)).trans (if_pos rfl)⟩
   ·exact absurd ((if_neg n).trans (if_neg hb)) z
  ·by_cases hp:b=Pt
   ·have z':=(if_pos hp).symm.trans z
    cases z'
    subst hp
    exact hP
   ·by_cases hb:b=a
    ·have z':=((if_neg hp).trans (if_pos hb)).symm.trans z
     cases z'
     subst hb
     exact ⟨ha,by rw [List.length_map];exact hl,vs,_,rv,ha⟩
    ·have z':=((if_neg hp).trans (if_neg hb)).symm.trans z
     cases z'
theorem walkT {l:PySem.W.OpenLaw}{q:Program}{loose:aQ}{XP:(gA)->Heap->Prop}{YP:World->Heap->Prop}{d dp:DefRec}{K:Params->PySem.W.Frag}(hn:l.most=some 63)(hdf:d.params.defaults=[])
  (hY:∀ (w:World) (h:Heap),YP w h->(K w.params).In h) (hq:(recsOf q).find? (fun e=>e.name == ("put_in" : Str))=some dp)
  (F:∀ (w:World) (mg:gA) (fa:Addr) (h:Heap),(K w.params).In h->h.Ns mainGlobals mg->mg d.name=some (.ref fa) ->
   ∃ (fd:FuncData) (c Pt:Addr),tabIn (K w.params) "put_in" = some (c,Pt)/\(K w.params).lookup Pt=none/\(∀ (s:Shared) (u:Value),BindsTo s fd ⟨[u],[]⟩ [("_law_script",u)]) /\
    ∀ base:Heap,(K w.params).In base->base.Ns mainGlobals mg->Bm mg base->(∀ h,(K w.params).In h->CodeHd h c Pt)->bR l.prog w (K w.params) mg base bC 17 fa fd ["_law_script"] (spLaw (K w.params) Pt)) :
  PySem.W.WalkO q loose XP YP l.row.toRowW d [] (fun f vs=>PySem.call f vs):=by
 refine Att.y8 hn hdf fun w s0 s1 mg mb fa o pm cd doc a vs ns G Y ho hd hcd hmg hobj hints hlen hg=>?_
 have KX:=hY w _ Y
 obtain ⟨fd,c,Pt,ht,hKP,hb,hF⟩:=F w mg fa _ KX G.T.g hmg
 obtain ⟨hC,hP⟩:=tab_of G.T KX hq ht
 have hB:Bm mg s1.heap:=by
  obtain ⟨bm,ob,e1,e2,e3,e4,e5,e6⟩:=G.T.bmain
  refine ⟨bm,ob,e1,e2,fun z=>?_,e3,e4,e5,e6⟩
  obtain ⟨o',es,ep,g1,g2,_⟩:=G.T.g
  rw [z,g1] at e3
  cases e3
  rw [e6] at g2
  cases g2
 exact D9 KX G.T.g G.T.b G.T.builtins G.T.nolimit hg hobj hints (Nat.le_trans hlen (by decide)) ⟨rfl,by decide,by decide⟩ hC hP hKP hB (fun base kb nb bb=>hF base kb nb bb (BA KX ht hC)) hb
  fun H nl hH hS=>⟨a,ns,rfl,hS,nl,hlen,.inl hH,fun _=>rfl⟩
theorem len1 {us:bP}{P:bP->Prop}(h:us.length=1)(k:∀ a,P [a]):P us:=match us,h with | [a],_=>k a
theorem len2 {us:bP}{P:bP->Prop}(h:us.length=2)(k:∀ a b,P [a,b]):P us:=match us,h with | [a,b],_=>k a b
theorem len3 {us:bP}{P:bP->Prop}(h:us.length=3)(k:∀ a b c,P [a,b,c]):P us:=match us,h with | [a,b,c],_=>k a b c
theorem len5 {us:bP}{P:bP->Prop}(h:us.length=5)(k:∀ a b c d e,P [a,b,c,d,e]):P us:=match us,h with | [a,b,c,d,e],_=>k a b c d e
theorem NR {l:PySem.W.OpenLaw}{w:World}{K:PySem.W.Frag}{h:Heap}{mg:gA}{fa C cc Pt f1 f2 f3 f4 f5 f6 f7 f8 f9 f10 f11 f12 f13 f14 f15 f16 f17 f18 f19 f20 f21 f22 f23 f24 f25 f26 f27 f28 f29 f30 f31 f32 f33 f34 f35 f36 f37 f38 f39 f40:Addr}(X:K.In h)(G:h.Ns mainGlobals mg)(hfa:mg "law" = some (.ref fa))
  {od1 an1 od2 an2 od3 an3 od4 an4 od5 an5 od6 an6 od7 an7 od8 an8 od9 an9 od10 an10 od11 an11 od12 an12 od13 an13 od14 an14 od15 an15 od16 an16 od17 an17 od18 an18 od19 an19 od20 an20 od21 an21 od22 an22 od23 an23 od24 an24 od25 an25 od26 an26 od27 an27 od28 an28 od29 an29 od30 an30 od31 an31 od32 an32 od33 an33 od34 an34 od35 an35 od36 an36 od37 an37 od38 an38 od39 an39 od40 an40:Option Addr} {sl1 sl2 sl3 sl4 sl5 sl6 sl7 sl8 sl9 sl10 sl11 sl12 sl13 sl14 sl15 sl16 sl17 sl18 sl19 sl20 sl21 sl22 sl23 sl24 sl25 sl26 sl27 sl28 sl29 sl30 sl31 sl32 sl33 sl34 sl35 sl36 sl37 sl38 sl39 sl40:Array (Option Value)} {oc1 kV1 dc1 pm1 ct1 cd1 oc2 kV2 dc2 pm2 ct2 cd2 oc3 kV3 dc3 pm3 ct3 cd3 oc4 kV4 dc4 pm4 ct4 cd4 oc5 kV5 dc5 pm5 ct5 cd5 oc6 kV6 dc6 pm6 ct6 cd6 oc7 kV7 dc7 pm7 ct7 cd7 oc8 kV8 dc8 pm8 ct8 cd8 oc9 kV9 dc9 pm9 ct9 cd9 oc10 kV10 dc10 pm10 ct10 cd10 oc11 kV11 dc11 pm11 ct11 cd11 oc12 kV12 dc12 pm12 ct12 cd12 oc13 kV13 dc13 pm13 ct13 cd13 oc14 kV14 dc14 pm14 ct14 cd14 oc15 kV15 dc15 pm15 ct15 cd15 oc16 kV16 dc16 pm16 ct16 cd16 oc17 kV17 dc17 pm17 ct17 cd17 oc18 kV18 dc18 pm18 ct18 cd18 oc19 kV19 dc19 pm19 ct19 cd19 oc20 kV20 dc20 pm20 ct20 cd20 oc21 kV21 dc21 pm21 ct21 cd21 oc22 kV22 dc22 pm22 ct22 cd22 oc23 kV23 dc23 pm23 ct23 cd23 oc24 kV24 dc24 pm24 ct24 cd24 oc25 kV25 dc25 pm25 ct25 cd25 oc26 kV26 dc26 pm26 ct26 cd26 oc27 kV27 dc27 pm27 ct27 oc28 kV28 dc28 pm28 ct28 cd28 oc29 kV29 dc29 pm29 ct29 cd29 oc30 kV30 dc30 pm30 ct30 cd30 oc31 kV31 dc31 pm31 ct31 cd31 oc32 kV32 dc32 pm32 ct32 cd32 oc33 kV33 dc33 pm33 ct33 cd33 oc34 kV34 dc34 pm34 ct34 cd34 oc35 kV35 dc35 pm35 ct35 cd35 oc36 kV36 dc36 pm36 ct36 cd36 oc37 kV37 dc37 pm37 ct37 cd37 oc38 kV38 dc38 pm38 ct38 cd38 oc39 kV39 dc39 pm39 ct39 cd39 oc40 kV40 dc40 pm40 ct40 cd40:Value} {tk0 tk1 tk2 tk3 tk4 tk5 tk6 tk7:Tok} {odq:Option Addr} {ocq:Value} {vq:iA} {slq:Array (Option Value)}
  (m0:nsIn K mainGlobals "Signs" = some (some (.ref C)))
  (a1:nsIn K mainGlobals "_law_cell" = some (some (.ref f1)))
  (l1:K.lookup f1=some ⟨oc1,od1,.func (PySem.W.fnOf "_law_cell" "_law_cell" (aT eM) (aN eM) (aF eM) .none kV1 dc1 pm1 an1 cd1 ct1),sl1⟩)
  (c1:codeIn K cd1 "_law_cell" = true)
  (k1:keepIn K (.ref f1)=true)
  (a2:nsIn K mainGlobals "_law_pot" = some (some (.ref f2)))
  (l2:K.lookup f2=some ⟨oc2,od2,.func (PySem.W.fnOf "_law_pot" "_law_pot" (aT fF) (aN fF) (aF fF) .none kV2 dc2 pm2 an2 cd2 ct2),sl2⟩)
  (c2:codeIn K cd2 "_law_pot" = true)
  (k2:keepIn K (.ref f2)=true)
  (a3:nsIn K mainGlobals "_law_take" = some (some (.ref f3)))
  (l3:K.lookup f3=some ⟨oc3,od3,.func (PySem.W.fnOf "_law_take" "_law_take" (aT eK) (aN eK) (aF eK) .none kV3 dc3 pm3 an3 cd3 ct3),sl3⟩)
  (c3:codeIn K cd3 "_law_take" = true)
  (k3:keepIn K (.ref f3)=true)
  (a4:nsIn K mainGlobals "_law_word" = some (some (.ref f4)))
  (l4:K.lookup f4=some ⟨oc4,od4,.func (PySem.W.fnOf "_law_word" "_law_word" (aT eJ) (aN eJ) (aF eJ) .none kV4 dc4 pm4 an4 cd4 ct4),sl4⟩)
  (c4:codeIn K cd4 "_law_word" = true)
  (k4:keepIn K (.ref f4)=true)
  (a5:nsIn K mainGlobals "_law_names" = some (some (.ref f5)))
  (l5:K.lookup f5=some ⟨oc5,od5,.func (PySem.W.fnOf "_law_names" "_law_names" (aT dY) (aN dY) (aF dY) .none kV5 dc5 pm5 an5 cd5 ct5),sl5⟩)
  (c5:codeIn K cd5 "_law_names" = true)
  (k5:keepIn K (.ref f5)=true)
  (a6:nsIn K mainGlobals "_law_signs" = some (some (.ref f6)))
  (l6:K.lookup f6=some ⟨oc6,od6,.func (PySem.W.fnOf "_law_signs" "_law_signs" (aT cT) (aN cT) (aF cT) .none kV6 dc6 pm6 an6 cd6 ct6),sl6⟩)
  (c6:codeIn K cd6 "_law_signs" = true)
  (k6:keepIn K (.ref f6)=true)
  (a7:nsIn K mainGlobals "_law_drawn" = some (some (.ref f7)))
  (l7:K.lookup f7=some ⟨oc7,od7,.func (PySem.W.fnOf "_law_drawn" "_law_drawn" (aT dZ) (aN dZ) (aF dZ) .none kV7 dc7 pm7 an7 cd7 ct7),sl7⟩)
  (c7:codeIn K cd7 "_law_drawn" = true)
  (k7:keepIn K (.ref f7)=true)
  (a8:nsIn K mainGlobals "_law_leaf" = some (some (.ref f8)))
  (l8:K.lookup f8=some ⟨oc8,od8,.func (PySem.W.fnOf "_law_leaf" "_law_leaf" (aT dU) (aN dU) (aF dU) .none kV8 dc8 pm8 an8 cd8 ct8),sl8⟩)
  (c8:codeIn K cd8 "_law_leaf" = true)
  (k8:keepIn K (.ref f8)=true)
  (a9:nsIn K mainGlobals "_law_heads" = some (some (.ref f9)))
  (l9:K.lookup f9=some ⟨oc9,od9,.func (PySem.W.fnOf "_law_heads" "_law_heads" (aT cU) (aN cU) (aF cU) .none kV9 dc9 pm9 an9 cd9 ct9),sl9⟩)
  (c9:codeIn K cd9 "_law_heads" = true)
  (k9:keepIn K (.ref f9)=true)
  (a10:nsIn K mainGlobals "_law_term" = some (some (.ref f10)))
  (l10:K.lookup f10=some ⟨oc10,od10,.func (PySem.W.fnOf "_law_term" "_law_term" (aT dG) (aN dG) (aF dG) .none kV10 dc10 pm10 an10 cd10 ct10),sl10⟩)
  (c10:codeIn K cd10 "_law_term" = true)
  (k10:keepIn K (.ref f10)=true)
  (a11:nsIn K mainGlobals "_law_sort" = some (some (.ref f11)))
  (l11:K.lookup f11=some ⟨oc11,od11,.func (PySem.W.fnOf "_law_sort" "_law_sort" (aT eL) (aN eL) (aF eL) .none kV11 dc11 pm11 an11 cd11 ct11),sl11⟩)
  (c11:codeIn K cd11 "_law_sort" = true)
  (k11:keepIn K (.ref f11)=true)
  (a12:nsIn K mainGlobals "_law_ahead" = some (some (.ref f12)))
  (l12:K.lookup f12=some ⟨oc12,od12,.func (PySem.W.fnOf "_law_ahead" "_law_ahead" (aT cV) (aN cV) (aF cV) .none kV12 dc12 pm12 an12 cd12 ct12),sl12⟩)
  (c12:codeIn K cd12 "_law_ahead" = true)
  (k12:keepIn K (.ref f12)=true)
  (a13:nsIn K mainGlobals "_law_opened" = some (some (.ref f13)))
  (l13:K.lookup f13=some ⟨oc13,od13,.func (PySem.W.fnOf "_law_opened" "_law_opened" (aT dL) (aN dL) (aF dL) .none kV13 dc13 pm13 an13 cd13 ct13),sl13⟩)
  (c13:codeIn K cd13 "_law_opened" = true)
  (k13:keepIn K (.ref f13)=true)
  (a14:nsIn K mainGlobals "_law_flat" = some (some (.ref f14)))
  (l14:K.lookup f14=some ⟨oc14,od14,.func (PySem.W.fnOf "_law_flat" "_law_flat" (aT dA) (aN dA) (aF dA) .none kV14 dc14 pm14 an14 cd14 ct14),sl14⟩)
  (c14:codeIn K cd14 "_law_flat" = true)
  (k14:keepIn K (.ref f14)=true)
  (a15:findIn K (.ref C) "many" = some (some (.ref f15)))
  (l15:K.lookup f15=some ⟨oc15,od15,.func (PySem.W.fnOf "many" "Signs.many" (aT d5) (aN d5) (aF d5) .none kV15 dc15 pm15 an15 cd15 ct15),sl15⟩)
  (c15:codeIn K cd15 "Signs.many" = true)
  (k15:keepIn K (.ref f15)=true)
  (n15:isFn K (.ref f15)=true)
  (a16:findIn K (.ref C) "nought" = some (some (.ref f16)))
  (l16:K.lookup f16=some ⟨oc16,od16,.func (PySem.W.fnOf "nought" "Signs.nought" (aT dB) (aN dB) (aF dB) .none kV16 dc16 pm16 an16 cd16 ct16),sl16⟩)
  (c16:codeIn K cd16 "Signs.nought" = true)
  (k16:keepIn K (.ref f16)=true)
  (n16:isFn K (.ref f16)=true)
  (a17:nsIn K mainGlobals "is_wish" = some (some (.ref f17)))
  (l17:K.lookup f17=some ⟨oc17,od17,.func (PySem.W.fnOf "is_wish" "is_wish" (aT eS) (aN eS) (aF eS) .none kV17 dc17 pm17 an17 cd17 ct17),sl17⟩)
  (c17:codeIn K cd17 "is_wish" = true)
  (k17:keepIn K (.ref f17)=true)
  (a18:nsIn K mainGlobals "is_built" = some (some (.ref f18)))
  (l18:K.lookup f18=some ⟨oc18,od18,.func (PySem.W.fnOf "is_built" "is_built" (aT fC) (aN fC) (aF fC) .none kV18 dc18 pm18 an18 cd18 ct18),sl18⟩)
  (c18:codeIn K cd18 "is_built" = true)
  (k18:keepIn K (.ref f18)=true)
  (a19:nsIn K mainGlobals "check_term" = some (some (.ref f19)))
  (l19:K.lookup f19=some ⟨oc19,od19,.func (PySem.W.fnOf "check_term" "check_term" (aT dF) (aN dF) (aF dF) .none kV19 dc19 pm19 an19 cd19 ct19),sl19⟩)
  (c19:codeIn K cd19 "check_term" = true)
  (k19:keepIn K (.ref f19)=true)
  (a20:nsIn K mainGlobals "walked" = some (some (.ref f20)))
  (l20:K.lookup f20=some ⟨oc20,od20,.func (PySem.W.fnOf "walked" "walked" (aT iJ) (aN iJ) (aF iJ) .none kV20 dc20 pm20 an20 cd20 ct20),sl20⟩)
  (c20:codeIn K cd20 "walked" = true)
  (k20:keepIn K (.ref f20)=true)
  (a21:nsIn K mainGlobals "order_mark" = some (some (.ref f21)))
  (l21:K.lookup f21=some ⟨oc21,od21,.func (PySem.W.fnOf "order_mark" "order_mark" (aT dX) (aN dX) (aF dX) .none kV21 dc21 pm21 an21 cd21 ct21),sl21⟩)
  (c21:codeIn K cd21 "order_mark" = true)
  (k21:keepIn K (.ref f21)=true)
  (a22:nsIn K mainGlobals "order_key" = some (some (.ref f22)))
  (l22:K.lookup f22=some ⟨oc22,od22,.func (PySem.W.fnOf "order_key" "order_key" (aT dS) (aN dS) (aF dS) .none kV22 dc22 pm22 an22 cd22 ct22),sl22⟩)
  (c22:codeIn K cd22 "order_key" = true)
  (k22:keepIn K (.ref f22)=true)
  (a23:nsIn K mainGlobals "opened" = some (some (.ref f23)))
  (l23:K.lookup f23=some ⟨oc23,od23,.func (PySem.W.fnOf "opened" "opened" (aT iK) (aN iK) (aF iK) .none kV23 dc23 pm23 an23 cd23 ct23),sl23⟩)
  (c23:codeIn K cd23 "opened" = true)
  (k23:keepIn K (.ref f23)=true)
  (a24:nsIn K mainGlobals "flat_sum" = some (some (.ref f24)))
  (l24:K.lookup f24=some ⟨oc24,od24,.func (PySem.W.fnOf "flat_sum" "flat_sum" (aT fE) (aN fE) (aF fE) .none kV24 dc24 pm24 an24 cd24 ct24),sl24⟩)
  (c24:codeIn K cd24 "flat_sum" = true)
  (k24:keepIn K (.ref f24)=true)
  (a25:nsIn K mainGlobals "flat_of_parts" = some (some (.ref f25)))
  (l25:K.lookup f25=some ⟨oc25,od25,.func (PySem.W.fnOf "flat_of_parts" "flat_of_parts" (aT cK) (aN cK) (aF cK) .none kV25 dc25 pm25 an25 cd25 ct25),sl25⟩)
  (c25:codeIn K cd25 "flat_of_parts" = true)
  (k25:keepIn K (.ref f25)=true)
  (a26:nsIn K mainGlobals "from_within" = some (some (.ref f26)))
  (l26:K.lookup f26=some ⟨oc26,od26,.func (PySem.W.fnOf "from_within" "from_within" (aT cY) (aN cY) (aF cY) .none kV26 dc26 pm26 an26 cd26 ct26),sl26⟩)
  (c26:codeIn K cd26 "from_within" = true)
  (k26:keepIn K (.ref f26)=true)
  (a27:nsIn K mainGlobals "put_in" = some (some (.ref f27)))
  (l27:K.lookup f27=some ⟨oc27,od27,.func (PySem.W.fnOf "put_in" "put_in" (aT cP) (aN cP) (aF cP) .none kV27 dc27 pm27 an27 (.ref cc) ct27),sl27⟩)
  (c27:codeIn K (.ref cc) "put_in" = true)
  (k27:keepIn K (.ref f27)=true)
  (t2:K.lookup cc=some ⟨ocq,odq,.fields vq,slq⟩)
  (t3:vq[11]?=some (.ref Pt))
  (t0:tabIn K "put_in" = some (cc,Pt))
  (t1:K.lookup Pt=none)
  (a28:nsIn K mainGlobals "flat" = some (some (.ref f28)))
  (l28:K.lookup f28=some ⟨oc28,od28,.func (PySem.W.fnOf "flat" "flat" (aT mK) (aN mK) (aF mK) .none kV28 dc28 pm28 an28 cd28 ct28),sl28⟩)
  (c28:codeIn K cd28 "flat" = true)
  (k28:keepIn K (.ref f28)=true)
  (a29:nsIn K mainGlobals "is_name" = some (some (.ref f29)))
  (l29:K.lookup f29=some ⟨oc29,od29,.func (PySem.W.fnOf "is_name" "is_name" (aT fJ) (aN fJ) (aF fJ) .none kV29 dc29 pm29 an29 cd29 ct29),sl29⟩)
  (c29:codeIn K cd29 "is_name" = true)
  (k29:keepIn K (.ref f29)=true)
  (a30:nsIn K mainGlobals "is_whole" = some (some (.ref f30)))
  (l30:K.lookup f30=some ⟨oc30,od30,.func (PySem.W.fnOf "is_whole" "is_whole" (aT fB) (aN fB) (aF fB) .none kV30 dc30 pm30 an30 cd30 ct30),sl30⟩)
  (c30:codeIn K cd30 "is_whole" = true)
  (k30:keepIn K (.ref f30)=true)
  (a31:nsIn K mainGlobals "checked_pairs" = some (some (.ref f31)))
  (l31:K.lookup f31=some ⟨oc31,od31,.func (PySem.W.fnOf "checked_pairs" "checked_pairs" (aT cA) (aN cA) (aF cA) .none kV31 dc31 pm31 an31 cd31 ct31),sl31⟩)
  (c31:codeIn K cd31 "checked_pairs" = true)
  (k31:keepIn K (.ref f31)=true)
  (a32:nsIn K mainGlobals "check_names" = some (some (.ref f32)))
  (l32:K.lookup f32=some ⟨oc32,od32,.func (PySem.W.fnOf "check_names" "check_names" (aT cF) (aN cF) (aF cF) .none kV32 dc32 pm32 an32 cd32 ct32),sl32⟩)
  (c32:codeIn K cd32 "check_names" = true)
  (k32:keepIn K (.ref f32)=true)
  (a33:nsIn K mainGlobals "check_parts" = some (some (.ref f33)))
  (l33:K.lookup f33=some ⟨oc33,od33,.func (PySem.W.fnOf "check_parts" "check_parts" (aT cZ) (aN cZ) (aF cZ) .none kV33 dc33 pm33 an33 cd33 ct33),sl33⟩)
  (c33:codeIn K cd33 "check_parts" = true)
  (k33:keepIn K (.ref f33)=true)
  (a34:nsIn K mainGlobals "check_noughts" = some (some (.ref f34)))
  (l34:K.lookup f34=some ⟨oc34,od34,.func (PySem.W.fnOf "check_noughts" "check_noughts" (aT cB) (aN cB) (aF cB) .none kV34 dc34 pm34 an34 cd34 ct34),sl34⟩)
  (c34:codeIn K cd34 "check_noughts" = true)
  (k34:keepIn K (.ref f34)=true)
  (a35:findIn K (.ref C) "__init__" = some (some (.ref f35)))
  (l35:K.lookup f35=some ⟨oc35,od35,.func (PySem.W.fnOf "__init__" "Signs.__init__" (aT bT) (aN bT) (aF bT) .none kV35 dc35 pm35 an35 cd35 ct35),sl35⟩)
  (c35:codeIn K cd35 "Signs.__init__" = true)
  (k35:keepIn K (.ref f35)=true)
  (n35:isFn K (.ref f35)=true)
  (a36:nsIn K mainGlobals "leaves" = some (some (.ref f36)))
  (l36:K.lookup f36=some ⟨oc36,od36,.func (PySem.W.fnOf "leaves" "leaves" (aT gQ) (aN gQ) (aF gQ) .none kV36 dc36 pm36 an36 cd36 ct36),sl36⟩)
  (c36:codeIn K cd36 "leaves" = true)
  (k36:keepIn K (.ref f36)=true)
  (a37:nsIn K mainGlobals "wishes" = some (some (.ref f37)))
  (l37:K.lookup f37=some ⟨oc37,od37,.func (PySem.W.fnOf "wishes" "wishes" (aT gO) (aN gO) (aF gO) .none kV37 dc37 pm37 an37 cd37 ct37),sl37⟩)
  (c37:codeIn K cd37 "wishes" = true)
  (k37:keepIn K (.ref f37)=true)
  (a38:nsIn K mainGlobals "_law_leaves" = some (some (.ref f38)))
  (l38:K.lookup f38=some ⟨oc38,od38,.func (PySem.W.fnOf "_law_leaves" "_law_leaves" (aT cG) (aN cG) (aF cG) .none kV38 dc38 pm38 an38 cd38 ct38),sl38⟩)
  (c38:codeIn K cd38 "_law_leaves" = true)
  (k38:keepIn K (.ref f38)=true)
  (a39:nsIn K mainGlobals "_law_are_told" = some (some (.ref f39)))
  (l39:K.lookup f39=some ⟨oc39,od39,.func (PySem.W.fnOf "_law_are_told" "_law_are_told" (aT cC) (aN cC) (aF cC) .none kV39 dc39 pm39 an39 cd39 ct39),sl39⟩)
  (c39:codeIn K cd39 "_law_are_told" = true)
  (k39:keepIn K (.ref f39)=true)
  (a40:nsIn K mainGlobals "law" = some (some (.ref f40)))
  (l40:K.lookup f40=some ⟨oc40,od40,.func (PySem.W.fnOf "law" "law" (aT lZ) (aN lZ) (aF lZ) .none kV40 dc40 pm40 an40 cd40 ct40),sl40⟩)
  (c40:codeIn K cd40 "law" = true)
  (k40:keepIn K (.ref f40)=true)
  (g1:plainGet K C Str.empty=true)
  (g2:hasDictIn K C=true)
  (g3:plainOver K C=true)
  (g4:findIn K (.ref C) "__setattr__" = some (some (.builtin "object.__setattr__")))
  (h0:findIn K (.ref C) "fixed_rows" = some none)
  (h1:findIn K (.ref C) "sum_rows" = some none)
  (h2:findIn K (.ref C) "many_by_name" = some none)
  (h3:findIn K (.ref C) "nought_by_name" = some none)
  (g5:makesIn K C=true)
  (g6:keepIn K (.ref C)=true)
  (v0:nsIn K mainGlobals "WISH_SIGNS" = some (some (.str "abcdefghijklmnopqrstuvwxyz0123456789" tk0)))
  (v1:nsIn K mainGlobals "LETTERS" = some (some (.str "abcdefghijklmnopqrstuvwxyz" tk1)))
  (v2:nsIn K mainGlobals "LONGEST_WISH" = some (some (.int 9 tk2)))
  (v3:nsIn K mainGlobals "DEEPEST" = some (some (.int 1000 tk3)))
  (v4:nsIn K mainGlobals "LONGEST_NAME" = some (some (.int 6 tk4)))
  (v5:nsIn K mainGlobals "MOST_FIXED" = some (some (.int 12 tk5)))
  (v6:nsIn K mainGlobals "MOST_SUMS" = some (some (.int 3 tk6)))
  (v7:nsIn K mainGlobals "MOST_PARTS" = some (some (.int 3 tk7)))
  (z0:nsIn K mainGlobals "len" = some none)
  (z1:nsIn K mainGlobals "range" = some none)
  (z2:nsIn K mainGlobals "int" = some none)
  (z3:nsIn K mainGlobals "abs" = some none)
  (z4:nsIn K mainGlobals "min" = some none)
  (z5:nsIn K mainGlobals "max" = some none)
  (z6:nsIn K mainGlobals "tuple" = some none)
  (z7:nsIn K mainGlobals "list" = some none)
  (z8:nsIn K mainGlobals "dict" = some none)
  (z9:nsIn K mainGlobals "set" = some none)
  (z10:nsIn K mainGlobals "isinstance" = some none)
  (z11:nsIn K mainGlobals "str" = some none)
  (z12:nsIn K mainGlobals "bool" = some none)
  (z13:nsIn K mainGlobals "sorted" = some none)
  (z14:nsIn K mainGlobals "reversed" = some none)
  (z15:nsIn K mainGlobals "all" = some none)
  (z16:nsIn K mainGlobals "any" = some none)
  (z17:nsIn K mainGlobals "zip" = some none)
  (z18:nsIn K mainGlobals "repr" = some none)
  (z19:nsIn K mainGlobals "enumerate" = some none)
  : ∃ (fd:FuncData) (c Pt:Addr),tabIn K "put_in" = some (c,Pt)/\K.lookup Pt=none/\(∀ (s:Shared) (v:Value),BindsTo s fd ⟨[v],[]⟩ [("_law_script",v)]) /\
   ∀ base:Heap,K.In base->base.Ns mainGlobals mg->Bm mg base->(∀ h,K.In h->CodeHd h c Pt)->bR l.prog w K mg base bC 17 fa fd ["_law_script"] (spLaw K Pt):=by
 have e:=hfa.symm.trans (PySem.W.mg_of X G a40)
 cases e
 have T:iH mg:=⟨PySem.W.mg_none_of X G z0,PySem.W.mg_none_of X G z1,PySem.W.mg_none_of X G z2,PySem.W.mg_none_of X G z3,PySem.W.mg_none_of X G z4,PySem.W.mg_none_of X G z5,PySem.W.mg_none_of X G z6,PySem.W.mg_none_of X G z7,PySem.W.mg_none_of X G z8,PySem.W.mg_none_of X G z9,PySem.W.mg_none_of X G z10,PySem.W.mg_none_of X G z11,PySem.W.mg_none_of X G z12,PySem.W.mg_none_of X G z13,PySem.W.mg_none_of X G z14,PySem.W.mg_none_of X G z15,PySem.W.mg_none_of X G z16,PySem.W.mg_none_of X G z17,PySem.W.mg_none_of X G z18,PySem.W.mg_none_of X G z19,⟨_,PySem.W.mg_of X G v0,⟨_,rfl⟩⟩,⟨_,PySem.W.mg_of X G v1,⟨_,rfl⟩⟩,⟨_,PySem.W.mg_of X G v2,⟨_,rfl⟩⟩,⟨_,PySem.W.mg_of X G v3,⟨_,rfl⟩⟩,⟨_,PySem.W.mg_of X G v4,⟨_,rfl⟩⟩,⟨_,PySem.W.mg_of X G v5,⟨_,rfl⟩⟩,⟨_,PySem.W.mg_of X G v6,⟨_,rfl⟩⟩,⟨_,PySem.W.mg_of X G v7,⟨_,rfl⟩⟩⟩
 have cl:E5 K C:=⟨g1,g2,g3,g4⟩
 have co:L6 K C:=⟨cl,h0,h1,h2,h3⟩
 have F1:=bE (st:=eM) l1 c1 k1
 have b1:=F1.binds (ps:=lE) fun _ _ _ _ _ _ us hl=>by apply len2 hl;intros;rfl
 have F2:=bE (st:=fF) l2 c2 k2
 have b2:=F2.binds (ps:=mW) fun _ _ _ _ _ _ us hl=>by apply len2 hl;intros;rfl
 have F3:=bE (st:=eK) l3 c3 k3
 have b3:=F3.binds (ps:=lB) fun _ _ _ _ _ _ us hl=>by apply len2 hl;intros;rfl
 have F4:=bE (st:=eJ) l4 c4 k4
 have b4:=F4.binds (ps:=lA) fun _ _ _ _ _ _ us hl=>by apply len2 hl;intros;rfl
 have F5:=bE (st:=dY) l5 c5 k5
 have b5:=F5.binds (ps:=j8) fun _ _ _ _ _ _ us hl=>by apply len2 hl;intros;rfl
 have F6:=bE (st:=cT) l6 c6 k6
 have b6:=F6.binds (ps:=j7) fun _ _ _ _ _ _ us hl=>by apply len1 hl;intros;rfl
 have F7:=bE (st:=dZ) l7 c7 k7
 have b7:=F7.binds (ps:=kA) fun _ _ _ _ _ _ us hl=>by apply len1 hl;intros;rfl
 have F8:=bE (st:=dU) l8 c8 k8
 have b8:=F8.binds (ps:=lD) fun _ _ _ _ _ _ us hl=>by apply len3 hl;intros;rfl
 have F9:=bE (st:=cU) l9 c9 k9
 have b9:=F9.binds (ps:=j9) fun _ _ _ _ _ _ us hl=>by apply len2 hl;intros;rfl
 have F10:=bE (st:=dG) l10 c10 k10
 have b10:=F10.binds (ps:=fN) fun _ _ _ _ _ _ us hl=>by apply len5 hl;intros;rfl
 have F11:=bE (st:=eL) l11 c11 k11
 have b11:=F11.binds (ps:=lC) fun _ _ _ _ _ _ us hl=>by apply len1 hl;intros;rfl
 have F12:=bE (st:=cV) l12 c12 k12
 have b12:=F12.binds (ps:=eW) fun _ _ _ _ _ _ us hl=>by apply len2 hl;intros;rfl
 have F13:=bE (st:=dL) l13 c13 k13
 have b13:=F13.binds (ps:=jG) fun _ _ _ _ _ _ us hl=>by apply len3 hl;intros;rfl
 have F14:=bE (st:=dA) l14 c14 k14
 have b14:=F14.binds (ps:=fP) fun _ _ _ _ _ _ us hl=>by apply len2 hl;intros;rfl
 have F15:=bE (st:=d5) l15 c15 k15
 have b15:=F15.binds (ps:=kB) fun _ _ _ _ _ _ us hl=>by apply len2 hl;intros;rfl
 have F16:=bE (st:=dB) l16 c16 k16
 have b16:=F16.binds (ps:=iN) fun _ _ _ _ _ _ us hl=>by apply len2 hl;intros;rfl
 have F17:=bE (st:=eS) l17 c17 k17
 have b17:=F17.binds (ps:=pJ) fun _ _ _ _ _ _ us hl=>by apply len1 hl;intros;rfl
 have F18:=bE (st:=fC) l18 c18 k18
 have b18:=F18.binds (ps:=mT) fun _ _ _ _ _ _ us hl=>by apply len2 hl;intros;rfl
 have F19:=bE (st:=dF) l19 c19 k19
 have b19:=F19.binds (ps:=j6) fun _ _ _ _ _ _ us hl=>by apply len2 hl;intros;rfl
 have F20:=bE (st:=iJ) l20 c20 k20
 have b20:=F20.binds (ps:=sC) fun _ _ _ _ _ _ us hl=>by apply len1 hl;intros;rfl
 have F21:=bE (st:=dX) l21 c21 k21
 have b21:=F21.binds (ps:=j5) fun _ _ _ _ _ _ us hl=>by apply len1 hl;intros;rfl
 have F22:=bE (st:=dS) l22 c22 k22
 have b22:=F22.binds (ps:=kZ) fun _ _ _ _ _ _ us hl=>by apply len1 hl;intros;rfl
 have F23:=bE (st:=iK) l23 c23 k23
 have b23:=F23.binds (ps:=sE) fun _ _ _ _ _ _ us hl=>by apply len2 hl;intros;rfl
 have F24:=bE (st:=fE) l24 c24 k24
 have b24:=F24.binds (ps:=mU) fun _ _ _ _ _ _ us hl=>by apply len3 hl;intros;rfl
 have F25:=bE (st:=cK) l25 c25 k25
 have b25:=F25.binds (ps:=g8) fun _ _ _ _ _ _ us hl=>by apply len3 hl;intros;rfl
 have F26:=bE (st:=cY) l26 c26 k26
 have b26:=F26.binds (ps:=jD) fun _ _ _ _ _ _ us hl=>by apply len3 hl;intros;rfl
 have F27:=bE (st:=cP) l27 c27 k27
 have b27:=F27.binds (ps:=sD) fun _ _ _ _ _ _ us hl=>by apply len3 hl;intros;rfl
 have F28:=bE (st:=mK) l28 c28 k28
 have b28:=F28.binds (ps:=BG) fun _ _ _ _ _ _ us hl=>by apply len2 hl;intros;rfl
 have F29:=bE (st:=fJ) l29 c29 k29
 have b29:=F29.binds (ps:=pK) fun _ _ _ _ _ _ us hl=>by apply len1 hl;intros;rfl
 have F30:=bE (st:=fB) l30 c30 k30
 have b30:=F30.binds (ps:=mS) fun _ _ _ _ _ _ us hl=>by apply len1 hl;intros;rfl
 have F31:=bE (st:=cA) l31 c31 k31
 have b31:=F31.binds (ps:=g9) fun _ _ _ _ _ _ us hl=>by apply len3 hl;intros;rfl
 have F32:=bE (st:=cF) l32 c32 k32
 have b32:=F32.binds (ps:=jF) fun _ _ _ _ _ _ us hl=>by apply len1 hl;intros;rfl
 have F33:=bE (st:=cZ) l33 c33 k33
 have b33:=F33.binds (ps:=jE) fun _ _ _ _ _ _ us hl=>by apply len1 hl;intros;rfl
 have F34:=bE (st:=cB) l34 c34 k34
 have b34:=F34.binds (ps:=hG) fun _ _ _ _ _ _ us hl=>by apply len2 hl;intros;rfl
 have F35:=bE (st:=bT) l35 c35 k35
 have b35:=F35.binds (ps:=gJ) fun _ _ _ _ _ _ us hl=>by apply len3 hl;intros;rfl
 have F36:=bE (st:=gQ) l36 c36 k36
 have b36:=F36.binds (ps:=sF) fun _ _ _ _ _ _ us hl=>by apply len2 hl;intros;rfl
 have F37:=bE (st:=gO) l37 c37 k37
 have b37:=F37.binds (ps:=sB) fun _ _ _ _ _ _ us hl=>by apply len2 hl;intros;rfl
 have F38:=bE (st:=cG) l38 c38 k38
 have b38:=F38.binds (ps:=eE) fun _ _ _ _ _ _ us hl=>by apply len1 hl;intros;rfl
 have F39:=bE (st:=cC) l39 c39 k39
 have b39:=F39.binds (ps:=hO) fun _ _ _ _ _ _ us hl=>by apply len2 hl;intros;rfl
 have F40:=bE (st:=lZ) l40 c40 k40
 refine ⟨PySem.W.fnOf "law" "law" (aT lZ) (aN lZ) (aF lZ) .none kV40 dc40 pm40 an40 cd40 ct40,cc,Pt,t0,t1,fun s v=>.of_eq rfl,fun base _ _ hB hC=>?_⟩
 have O__law_cell:cH l.prog w K mg base bC 1 "_law_cell" (zT K):=⟨f1,_,_,KN F1 T,PySem.W.mg_of X G a1,k1,b1⟩
 have O__law_pot:cH l.prog w K mg base bC 2 "_law_pot" (spPot K):=⟨f2,_,_,M5 F2 T O__law_cell,PySem.W.mg_of X G a2,k2,b2⟩
 have O__law_take:cH l.prog w K mg base bC 1 "_law_take" gZ:=⟨f3,_,_,KF F3 T,PySem.W.mg_of X G a3,k3,b3⟩
 have O__law_word:cH l.prog w K mg base bC 1 "_law_word" zN:=⟨f4,_,_,KA F4 T,PySem.W.mg_of X G a4,k4,b4⟩
 have O__law_names:cH l.prog w K mg base bC 2 "_law_names" vJ:=⟨f5,_,_,GT F5 T O__law_take O__law_word,PySem.W.mg_of X G a5,k5,b5⟩
 have O__law_signs:cH l.prog w K mg base bC 3 "_law_signs" vF:=⟨f6,_,_,GP F6 T O__law_take O__law_names,PySem.W.mg_of X G a6,k6,b6⟩
 have O__law_drawn:cH l.prog w K mg base bC 2 "_law_drawn" vL:=⟨f7,_,_,GW F7 T O__law_take,PySem.W.mg_of X G a7,k7,b7⟩
 have O__law_leaf:cH l.prog w K mg base bC 2 "_law_leaf" oR:=⟨f8,_,_,KK F8 T O__law_take,PySem.W.mg_of X G a8,k8,b8⟩
 have O__law_heads:cH l.prog w K mg base bC 1 "_law_heads" nE:=⟨f9,_,_,GU F9 T,PySem.W.mg_of X G a9,k9,b9⟩
 have O__law_term:cH l.prog w K mg base bC 15 "_law_term" (mI 11):=GH F10 T O__law_take O__law_leaf O__law_heads (PySem.W.mg_of X G a10) k10 b10 11
 have O__law_sort:cH l.prog w K mg base bC 1 "_law_sort" qU:=⟨f11,_,_,KG F11 T,PySem.W.mg_of X G a11,k11,b11⟩
 have O__law_aheadN:=fun m=>DR (P:=l.prog) (w:=w) (base:=base) F12 T O__law_sort (PySem.W.mg_of X G a12) k12 b12 m
 have O__law_ahead:cH l.prog w K mg base bC 13 "_law_ahead" (iQ 11):=O__law_aheadN 11
 have O__law_opened:cH l.prog w K mg base bC 1 "_law_opened" kG:=⟨f13,_,_,DV F13 T,PySem.W.mg_of X G a13,k13,b13⟩
 have O__law_flat:cH l.prog w K mg base bC 14 "_law_flat" (oT 11):=GJ F14 T O__law_aheadN O__law_opened (PySem.W.mg_of X G a14) k14 b14 11
 have O_Signs_many:E3 l.prog w K mg base bC 1 C "many" (zR K C):=⟨f15,_,_,KJ F15 T,⟨a15,n15,k15⟩,b15,cl⟩
 have O_Signs_nought:E3 l.prog w K mg base bC 1 C "nought" (nB K C):=⟨f16,_,_,DW F16 T,⟨a16,n16,k16⟩,b16,cl⟩
 have O_is_wish:cH l.prog w K mg base bC 1 "is_wish" vD:=⟨f17,_,_,KB F17 T,PySem.W.mg_of X G a17,k17,b17⟩
 have O_is_built:cH l.prog w K mg base bC 2 "is_built" (vM K C):=⟨f18,_,_,GY F18 T O_is_wish O_Signs_many O_Signs_nought,PySem.W.mg_of X G a18,k18,b18⟩
 have O_check_term:cH l.prog w K mg base bC 3 "check_term" (nF K C):=⟨f19,_,_,GX F19 T O_is_built,PySem.W.mg_of X G a19,k19,b19⟩
 have O_walked:cH l.prog w K mg base bC 1 "walked" jK:=⟨f20,_,_,DU F20 T,PySem.W.mg_of X G a20,k20,b20⟩
 have O_order_mark:cH l.prog w K mg base bC 1 "order_mark" zQ:=⟨f21,_,_,KI F21 T,PySem.W.mg_of X G a21,k21,b21⟩
 have O_order_key:cH l.prog w K mg base bC 2 "order_key" spKey:=⟨f22,_,_,M7 F22 T O_order_mark O_walked,PySem.W.mg_of X G a22,k22,b22⟩
 have O_opened:cH l.prog w K mg base bC 1 "opened" oQ:=⟨f23,_,_,AI F23 T,PySem.W.mg_of X G a23,k23,b23⟩
 have O_flat_sum:cH l.prog w K mg base bC 5 "flat_sum" oS:=⟨f24,_,_,AL F24 T O_opened O_order_key,PySem.W.mg_of X G a24,k24,b24⟩
 have O_flat_of_parts:cH l.prog w K mg base bC 6 "flat_of_parts" (gB K C):=⟨f25,_,_,AJ F25 T O_Signs_nought O_flat_sum,PySem.W.mg_of X G a25,k25,b25⟩
 have O_from_within:cH l.prog w K mg base bC 8 "from_within" (spFW K C):=⟨f26,_,_,OF F26 T O_walked O_flat_of_parts,PySem.W.mg_of X G a26,k26,b26⟩
 have O_put_in:cH l.prog w K mg base bC 9 "put_in" (vG K C Pt):=⟨f27,_,_,GQ l27 c27 hC hB O_from_within,PySem.W.mg_of X G a27,k27,b27⟩
 have O_flat:cH l.prog w K mg base bC 10 "flat" (vK K C Pt):=⟨f28,_,_,GV F28 T O_check_term O_put_in,PySem.W.mg_of X G a28,k28,b28⟩
 have O_is_name:cH l.prog w K mg base bC 1 "is_name" zP:=⟨f29,_,_,KH F29 T,PySem.W.mg_of X G a29,k29,b29⟩
 have O_is_whole:cH l.prog w K mg base bC 1 "is_whole" vE:=⟨f30,_,_,GO F30 T,PySem.W.mg_of X G a30,k30,b30⟩
 have O_checked_pairs:cH l.prog w K mg base bC 1 "checked_pairs" vI:=⟨f31,_,_,GS F31 T,PySem.W.mg_of X G a31,k31,b31⟩
 have O_check_names:cH l.prog w K mg base bC 2 "check_names" qV:=⟨f32,_,_,DX F32 T O_is_name,PySem.W.mg_of X G a32,k32,b32⟩
 have O_check_parts:cH l.prog w K mg base bC 2 "check_parts" vH:=⟨f33,_,_,GR F33 T O_is_whole,PySem.W.mg_of X G a33,k33,b33⟩
 have O_check_noughts:cH l.prog w K mg base bC 1 "check_noughts" mJ:=⟨f34,_,_,x6 F34 T,PySem.W.mg_of X G a34,k34,b34⟩
 have O_Signs___init__:N0 l.prog w K mg base bC 3 "Signs" C (zS K C):=⟨f35,_,_,KL F35 T co O_checked_pairs O_check_names O_check_parts O_check_noughts,PySem.W.mg_of X G m0,⟨g5,a35,n35,g6⟩,b35⟩
 have O_leaves:cH l.prog w K mg base bC 4 "leaves" (nC K C):=⟨f36,_,_,DY F36 T O_check_term O_walked,PySem.W.mg_of X G a36,k36,b36⟩
 have O_wishes:cH l.prog w K mg base bC 4 "wishes" (qT K C):=⟨f37,_,_,DT F37 T O_check_term O_walked O_is_wish,PySem.W.mg_of X G a37,k37,b37⟩
 have O__law_leaves:cH l.prog w K mg base bC 13 "_law_leaves" (gC 11):=xX F38 T (PySem.W.mg_of X G a38) k38 b38 11
 have O__law_are_told:cH l.prog w K mg base bC 14 "_law_are_told" (zO K C):=⟨f39,_,_,KC F39 T O__law_leaves O_leaves O_wishes,PySem.W.mg_of X G a39,k39,b39⟩
 exact M6 F40 T O__law_pot O__law_signs O_Signs___init__ O__law_drawn O__law_term O__law_flat O_flat O_leaves O__law_leaves O__law_are_told
end Lw
open PySem PySem.W PyProof.Rows
set_option maxRecDepth 100000 in
set_option maxHeartbeats 0 in
theorem PySem.Challenge.cw_likefill_k16_leaves_and_wishes_holds : PySem.Challenge.rw_likefill_k16_leaves_and_wishes.Holds := by
 w_on
 refine holds_law (by kernel_rfl) fun said=>?_
 refine holds_open (q:=Lw.q0) (loose:=[]) (Xt:=Lw.O9) (XP:=XL Lw.q0 []) (YP:=InK Lw.K0) Lw.left0 (InK.of Lw.keys0) InK.keeps (fun s e=>xl_of s (Bool.and_eq_true_iff.mp e).1) XL.keeps (by rfl) (by rfl) (by rfl) (fun s e=>recFacts_of (Bool.and_eq_true_iff.mp e).2) (by rfl) said (by decide +kernel) ⟨rfl,rfl,rfl,rfl,rfl,by decide +kernel⟩ (by w_witness2) ?_
 k_fill
 refine Lw.walkT (l:=PySem.Challenge.rw_likefill_k16_leaves_and_wishes) rfl rfl (fun w h Y=>Y) rfl ?F
 case F =>
  intro w mg fa h KX G hmg
  refine' Lw.NR KX G hmg ?_ ?_ ?_ ?_ ?_ ?_ ?_ ?_ ?_ ?_ ?_ ?_ ?_ ?_ ?_ ?_ ?_ ?_ ?_ ?_ ?_ ?_ ?_ ?_ ?_ ?_ ?_ ?_ ?_ ?_ ?_ ?_ ?_ ?_ ?_ ?_ ?_ ?_ ?_ ?_ ?_ ?_ ?_ ?_ ?_ ?_ ?_ ?_ ?_ ?_ ?_ ?_ ?_ ?_ ?_ ?_ ?_ ?_ ?_ ?_ ?_ ?_ ?_ ?_ ?_ ?_ ?_ ?_ ?_ ?_ ?_ ?_ ?_ ?_ ?_ ?_ ?_ ?_ ?_ ?_ ?_ ?_ ?_ ?_ ?_ ?_ ?_ ?_ ?_ ?_ ?_ ?_ ?_ ?_ ?_ ?_ ?_ ?_ ?_ ?_ ?_ ?_ ?_ ?_ ?_ ?_ ?_ ?_ ?_ ?_ ?_ ?_ ?t3 ?t0 ?t1 ?_ ?_ ?_ ?_ ?_ ?_ ?_ ?_ ?_ ?_ ?_ ?_ ?_ ?_ ?_ ?_ ?_ ?_ ?_ ?_ ?_ ?_ ?_ ?_ ?_ ?_ ?_ ?_ ?_ ?_ ?_ ?_ ?_ ?_ ?_ ?_ ?_ ?_ ?_ ?_ ?_ ?_ ?_ ?_ ?_ ?_ ?_ ?_ ?_ ?_ ?_ ?_ ?_ ?_ ?_ ?_ ?_ ?_ ?_ ?_ ?_ ?_ ?_ ?_ ?_ ?_ ?_ ?_ ?_ ?_ ?_ ?_ ?_ ?_ ?_ ?_ ?_ ?_ ?_ ?_ ?_ ?_ ?_ ?_ ?_ ?_ ?_ ?_ ?_ ?_ ?_
  all_goals try k_is
  (case t3=>rfl);(case t0=>kernel_rfl);(case t1=>kernel_rfl)
end
