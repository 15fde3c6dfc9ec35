import PyProof.Rows.All
import Wide.All
import OpenK.AllK
import Wide.FinOn
import Lean
import PyProof.EqAt
import PyProof.EqKinds
import PyProof.TupleCall
import PyProof.NeKinds
import KE.LcSums
import PyProof.ZipIter
import PyProof.Rows.SumAny
import PyProof.ExcClass3
import PyProof.ExcBaseAll.ValueError
import OpenK.KOwn
import PyProof.EnumFor
import PyProof.EnumMake
import PyProof.TupleIter
import KE.KIsAll
import PyProof.ExcArgsOwn
import PyProof.NsDelKeeps
import KE.KDictOf
import PyProof.AttrMissHeap
import PyProof.AutoSeq1
import KE.KRevIter
import PyProof.TupleOfSeq
import PyProof.CollectIter
import PyProof.TupleOfStr
import PyProof.SliceStr2
import PyProof.StrWalks
import KE.KSortTup
import KE.KLam
import PyProof.Rows.SetFrom
import PyProof.ReprRoads
import PyProof.CallFns
import PyProof.ReprLen
import PyProof.DictItemsLoops
import KE.KPairComp
import PyProof.DictWalks
import KE.KDictList
import KE.KEqDict
import PyProof.Rows.DictMethods
import PyProof.AutoListH
import PyProof.StrCalls2
import PyProof.StrBlock
import PySem.Challenge.RW_likefill_k21_fillings_looked_over
set_option Elab.async false
set_option linter.all false
set_option maxRecDepth 100000
set_option maxHeartbeats 4000000
noncomputable abbrev cW:=List (PySem.Addr×PySem.Obj)
noncomputable abbrev cE:=PySem.Value->PySem.Shared->Prop
noncomputable abbrev cL:=List (PySem.Str×Int)
noncomputable abbrev bM:=List (PySem.Str×PySem.Str)
noncomputable abbrev bZ:=List PySem.Value
noncomputable abbrev aW:=List PySem.Str
noncomputable abbrev fM:=PySem.Str->Option PySem.Value
noncomputable abbrev kU:=List PySem.Expr
noncomputable abbrev i4:=Array PySem.Value
noncomputable abbrev KN:=Nat->PySem.Heap->Prop
theorem aI {a b:Prop}(x:a)(y:b):a/\b:=⟨x,y⟩
namespace L2
open PySem
noncomputable def yM (s:Stmt)(j:Nat):Stmt:=match s with
 | .ClassDef _ _ _ body _ _ _ _ _ _ _=>body.getD j (.Pass ⟨0,0,0,0⟩)
 | _=>.Pass ⟨0,0,0,0⟩
noncomputable def aP (s:Stmt):Arguments:=match s with
 | .FunctionDef _ a _ _ _ _ _ _ _ _=>a
 | _=>{posonlyargs:=[],args:=[],vararg:=none,kwonlyargs:=[],kw_defaults:=[],kwarg:=none,defaults:=[]}
noncomputable def aN (s:Stmt):List Stmt:=match s with
 | .FunctionDef _ _ b _ _ _ _ _ _ _=>b
 | _=>[]
noncomputable def aD (s:Stmt):Scope:=match s with
 | .FunctionDef _ _ _ _ _ _ j _ _ _=>j
 | _=>{kind:=.function,names:=[],isGenerator:=false,isCoroutine:=false}
end L2
namespace Lw
open PySem L2
noncomputable def top (i:Nat):Stmt:=PySem.Challenge.pw_likefill_k21_fillings_looked_over.main.body.getD i (.Pass ⟨0,0,0,0⟩)
noncomputable abbrev eY:Stmt:=top 39
noncomputable abbrev fT:Stmt:=top 40
noncomputable abbrev eU:Stmt:=top 41
noncomputable abbrev eT:Stmt:=top 42
noncomputable abbrev eF:Stmt:=top 43
noncomputable abbrev cZ:Stmt:=top 44
noncomputable abbrev dS:Stmt:=top 45
noncomputable abbrev eB:Stmt:=top 46
noncomputable abbrev dA:Stmt:=top 47
noncomputable abbrev dR:Stmt:=top 48
noncomputable abbrev eV:Stmt:=top 49
noncomputable abbrev dB:Stmt:=top 50
noncomputable abbrev dU:Stmt:=top 51
noncomputable abbrev dG:Stmt:=top 52
noncomputable abbrev mH:Stmt:=top 59
noncomputable abbrev fX:Stmt:=top 9
noncomputable abbrev fR:Stmt:=top 10
noncomputable abbrev dQ:Stmt:=top 11
noncomputable abbrev iS:Stmt:=top 13
noncomputable abbrev eD:Stmt:=top 14
noncomputable abbrev eA:Stmt:=top 15
noncomputable abbrev iT:Stmt:=top 16
noncomputable abbrev fS:Stmt:=top 17
noncomputable abbrev cU:Stmt:=top 18
noncomputable abbrev dE:Stmt:=top 19
noncomputable abbrev cX:Stmt:=top 20
noncomputable abbrev fY:Stmt:=top 32
noncomputable abbrev fQ:Stmt:=top 33
noncomputable abbrev cG:Stmt:=top 34
noncomputable abbrev cN:Stmt:=top 35
noncomputable abbrev dF:Stmt:=top 36
noncomputable abbrev cH:Stmt:=top 37
noncomputable abbrev cB:Stmt:=yM (top 31) 0
noncomputable abbrev eG:Stmt:=yM (top 31) 3
noncomputable abbrev dL:Stmt:=yM (top 31) 4
noncomputable abbrev gY:Stmt:=top 12
noncomputable abbrev cV:Stmt:=top 22
noncomputable abbrev cQ:Stmt:=top 23
noncomputable abbrev dD:Stmt:=top 24
noncomputable abbrev eW:Stmt:=top 53
noncomputable abbrev dJ:Stmt:=top 54
noncomputable abbrev eX:Stmt:=top 55
noncomputable abbrev dW:Stmt:=top 56
noncomputable abbrev eE:Stmt:=top 57
noncomputable abbrev dI:Stmt:=top 58
end Lw
namespace Lw
open PySem PySem.W L2
noncomputable def eO (P:Params)(x:Str)(t:Tok)(v:Value):DictEntry:=⟨PyData.keyHash P x,.str x t,v⟩
noncomputable def eR (P:Params)(x:Str)(t:Tok)(a:Addr):DictEntry:=eO P x t (.ref a)
noncomputable def dO (j:List DictEntry)(n:Nat):Obj:=⟨.type "dict",none,.dict j.toArray n,#[]⟩
noncomputable def fO (x q:Str)(st:Stmt)(m:Str)(t:Tok)(c:Addr):Obj:=⟨.type "function",none,.func (fnOf x q (aP st) (aN st) (aD st) .none .none .none (.str m t) none (.ref c) .none),#[]⟩
noncomputable def cO (x q:Str)(t1 B t3:Tok)(l n f:Int)(r1:Addr)(b:Bool)(N:Int)(I:Addr)(u v w:Value)(G:Addr)(L:Int)(j:Tok):Obj :=
 ⟨.type "code",none,.fields #[.str x t1,.str q B,.str "/claim/cut.py" t3,.int l 0,.int n 0,.int 0 0,.int 0 0,.int f 0,.ref r1,.bool b,.int N 0,.ref I,u,v,w,.ref G,.int L 0,.int l 0,.str "/claim/cut.py" j],#[]⟩
noncomputable def K0 (P:Params):PySem.W.Frag :=
 (nat_lit 3,dO [eO P "__name__" 165 (.str "law_likefill_k21_fillings_looked_over" 492),eO P "__doc__" 166 .none,eO P "__package__" 167 .none,eO P "__loader__" 168 (.builtin "__main__.__loader__#opaque"),eO P "__spec__" 169 .none,eR P "__annotations__" 170 6,eR P "__builtins__" 171 4,eO P "__file__" 173 (.str "/claim/cut.py" 172),eO P "__cached__" 174 .none,eR P "LikeError" 206 24,eR P "NoSigns" 222 37,eR P "NoTerm" 238 49,eR P "NoFilling" 254 61,eO P "WISH_SIGNS" 258 (.str "abcdefghijklmnopqrstuvwxyz0123456789" 257),eO P "LONGEST_WISH" 260 (.int 9 259),eO P "DEEPEST" 262 (.int 1000 261),eR P "is_wish" 268 68,eR P "is_built" 276 75,eR P "check_term" 282 80,eR P "is_term" 290 87,eR P "walked" 300 94,eR P "order_mark" 307 101,eR P "order_key" 313 106,eR P "opened" 321 113,eR P "flat_sum" 332 120,eR P "flat_of_parts" 342 127,eR P "from_within" 348 132,eR P "put_in" 358 139,eR P "check_filling" 370 146,eR P "without_idle" 376 151,eR P "looked_over" 382 156,eO P "LETTERS" 386 (.str "abcdefghijklmnopqrstuvwxyz" 385),eO P "LONGEST_NAME" 388 (.int 6 387),eO P "MOST_FIXED" 390 (.int 12 389),eO P "MOST_SUMS" 392 (.int 3 391),eO P "MOST_PARTS" 394 (.int 3 393),eR P "Signs" 454 199,eR P "is_name" 460 208,eR P "is_whole" 467 215,eR P "checked_pairs" 473 220,eR P "check_names" 479 225,eR P "check_parts" 485 230,eR P "check_noughts" 491 235,eR P "_law_cell" 501 242,eR P "_law_pot" 510 249,eR P "_law_take" 519 256,eR P "_law_word" 529 263,eR P "_law_names" 541 270,eR P "_law_signs" 547 275,eR P "_law_wishes" 558 282,eR P "_law_leaf" 564 287,eR P "_law_heads" 570 292,eR P "_law_term" 588 299,eR P "_law_sort" 595 306,eR P "_law_ahead" 605 313,eR P "_law_opened" 616 320,eR P "_law_flat" 622 325,eR P "_law_own" 628 330,eR P "_law_filling" 641 337,eR P "_law_more" 649 344,eR P "_law_looked" 660 351,eR P "_law_spoil" 668 358,eR P "_law_is_told" 681 365,eR P "law" 693 372] 64) ::
 (nat_lit 23,dO [eO P "__module__" 196 (.str "likefill.errors" 187),eO P "__firstlineno__" 200 (.int 2 199),eR P "__static_attributes__" 201 22,eR P "__weakref__" 203 25,eO P "__doc__" 204 .none] 3) ::
 (nat_lit 24,⟨.type "type",none,.cls ⟨"LikeError",[(.type "ValueError")],[(.ref 24),(.type "ValueError"),(.type "Exception"),(.type "BaseException"),(.type "object")],23,"LikeError",true,[],[(.ref 37),(.ref 49),(.ref 61)],false,none,false⟩,#[some (.ref 15),none,some (.str "LikeError" 189),some (.str "LikeError" 197),some (.builtin "ValueError.__new__"),some (.bool true)]⟩) ::
 (nat_lit 36,dO [eO P "__module__" 214 (.str "likefill.errors" 187),eO P "__firstlineno__" 218 (.int 4 217),eR P "__static_attributes__" 219 35,eO P "__doc__" 220 .none] 2) ::
 (nat_lit 37,⟨.type "type",none,.cls ⟨"NoSigns",[(.ref 24)],[(.ref 37),(.ref 24),(.type "ValueError"),(.type "Exception"),(.type "BaseException"),(.type "object")],36,"NoSigns",true,[],[],false,none,false⟩,#[some (.ref 28),none,some (.str "NoSigns" 207),some (.str "NoSigns" 215),some (.builtin "ValueError.__new__"),some (.bool true)]⟩) ::
 (nat_lit 48,dO [eO P "__module__" 230 (.str "likefill.errors" 187),eO P "__firstlineno__" 234 (.int 6 233),eR P "__static_attributes__" 235 47,eO P "__doc__" 236 .none] 2) ::
 (nat_lit 49,⟨.type "type",none,.cls ⟨"NoTerm",[(.ref 24)],[(.ref 49),(.ref 24),(.type "ValueError"),(.type "Exception"),(.type "BaseException"),(.type "object")],48,"NoTerm",true,[],[],false,none,false⟩,#[some (.ref 40),none,some (.str "NoTerm" 223),some (.str "NoTerm" 231),some (.builtin "ValueError.__new__"),some (.bool true)]⟩) ::
 (nat_lit 60,dO [eO P "__module__" 246 (.str "likefill.errors" 187),eO P "__firstlineno__" 250 (.int 8 249),eR P "__static_attributes__" 251 59,eO P "__doc__" 252 .none] 2) ::
 (nat_lit 61,⟨.type "type",none,.cls ⟨"NoFilling",[(.ref 24)],[(.ref 61),(.ref 24),(.type "ValueError"),(.type "Exception"),(.type "BaseException"),(.type "object")],60,"NoFilling",true,[],[],false,none,false⟩,#[some (.ref 52),none,some (.str "NoFilling" 239),some (.str "NoFilling" 247),some (.builtin "ValueError.__new__"),some (.bool true)]⟩) ::
 (nat_lit 67,cO "is_wish" "is_wish" 263 264 265 14 1 3 64 true 181 65 .none .none .none 66 266 267) ::
 (nat_lit 68,fO "is_wish" "is_wish" fX "likefill.terms" 255 67) ::
 (nat_lit 74,cO "is_built" "is_built" 269 270 271 18 2 3 69 true 181 70 .none (.ref 71) (.ref 72) 73 274 275) ::
 (nat_lit 75,fO "is_built" "is_built" fR "likefill.terms" 255 74) ::
 (nat_lit 79,cO "check_term" "check_term" 277 278 279 26 2 3 76 true 181 77 .none .none .none 78 280 281) ::
 (nat_lit 80,fO "check_term" "check_term" dQ "likefill.terms" 255 79) ::
 (nat_lit 86,cO "is_term" "is_term" 283 284 285 34 2 3 81 true 181 82 .none (.ref 83) (.ref 84) 85 288 289) ::
 (nat_lit 87,fO "is_term" "is_term" gY "likefill.terms" 255 86) ::
 (nat_lit 93,cO "walked" "walked" 291 292 293 40 1 3 88 true 181 89 .none (.ref 90) (.ref 91) 92 298 299) ::
 (nat_lit 94,fO "walked" "walked" iS "likefill.terms" 255 93) ::
 (nat_lit 100,cO "order_mark" "order_mark" 301 302 303 49 1 3 95 true 181 96 .none (.ref 97) (.ref 98) 99 305 306) ::
 (nat_lit 101,fO "order_mark" "order_mark" eD "likefill.terms" 255 100) ::
 (nat_lit 105,cO "order_key" "order_key" 308 309 310 53 1 3 102 true 181 103 .none .none .none 104 311 312) ::
 (nat_lit 106,fO "order_key" "order_key" eA "likefill.terms" 255 105) ::
 (nat_lit 112,cO "opened" "opened" 314 315 316 57 2 3 107 true 181 108 .none (.ref 109) (.ref 110) 111 319 320) ::
 (nat_lit 113,fO "opened" "opened" iT "likefill.terms" 255 112) ::
 (nat_lit 119,cO "flat_sum" "flat_sum" 322 323 324 61 3 3 114 true 181 115 .none (.ref 116) (.ref 117) 118 330 331) ::
 (nat_lit 120,fO "flat_sum" "flat_sum" fS "likefill.terms" 255 119) ::
 (nat_lit 126,cO "flat_of_parts" "flat_of_parts" 333 334 335 71 3 3 121 true 181 122 .none (.ref 123) (.ref 124) 125 340 341) ::
 (nat_lit 127,fO "flat_of_parts" "flat_of_parts" cU "likefill.terms" 255 126) ::
 (nat_lit 131,cO "from_within" "from_within" 343 344 345 76 3 3 128 true 181 129 .none .none .none 130 346 347) ::
 (nat_lit 132,fO "from_within" "from_within" dE "likefill.terms" 255 131) ::
 (nat_lit 138,cO "put_in" "put_in" 349 350 351 85 3 3 133 true 181 134 .none (.ref 135) (.ref 136) 137 356 357) ::
 (nat_lit 139,fO "put_in" "put_in" cX "likefill.terms" 255 138) ::
 (nat_lit 145,cO "check_filling" "check_filling" 361 362 363 88 2 3 140 true 181 141 .none (.ref 142) (.ref 143) 144 368 369) ::
 (nat_lit 146,fO "check_filling" "check_filling" cV "likefill.fillings" 359 145) ::
 (nat_lit 150,cO "without_idle" "without_idle" 371 372 373 96 1 3 147 true 181 148 .none .none .none 149 374 375) ::
 (nat_lit 151,fO "without_idle" "without_idle" cQ "likefill.fillings" 359 150) ::
 (nat_lit 155,cO "looked_over" "looked_over" 377 378 379 98 2 3 152 true 181 153 .none .none .none 154 380 381) ::
 (nat_lit 156,fO "looked_over" "looked_over" dD "likefill.fillings" 359 155) ::
 (nat_lit 167,cO "__init__" "Signs.__init__" 407 408 409 109 3 3 164 true 181 165 .none .none .none 166 410 411) ::
 (nat_lit 168,fO "__init__" "Signs.__init__" cB "likefill.signs" 383 167) ::
 (nat_lit 188,cO "many" "Signs.many" 427 428 429 126 2 3 183 true 181 184 .none (.ref 185) (.ref 186) 187 432 433) ::
 (nat_lit 189,fO "many" "Signs.many" eG "likefill.signs" 383 188) ::
 (nat_lit 195,cO "nought" "Signs.nought" 435 436 437 129 2 3 190 true 181 191 .none (.ref 192) (.ref 193) 194 440 441) ::
 (nat_lit 196,fO "nought" "Signs.nought" dL "likefill.signs" 383 195) ::
 (nat_lit 198,dO [eO P "__module__" 402 (.str "likefill.signs" 383),eO P "__firstlineno__" 406 (.int 107 405),eR P "__init__" 412 168,eR P "fixed" 419 175,eR P "sums" 426 182,eR P "many" 434 189,eR P "nought" 442 196,eR P "__static_attributes__" 447 197,eR P "__dict__" 449 200,eR P "__weakref__" 451 201,eO P "__doc__" 452 .none] 4) ::
 (nat_lit 199,⟨.type "type",none,.cls ⟨"Signs",[(.type "object")],[(.ref 199),(.type "object")],198,"Signs",true,[],[],false,none,false⟩,#[none,none,some (.str "Signs" 395),some (.str "Signs" 403),some (.builtin "object.__new__"),some (.bool true)]⟩) ::
 (nat_lit 207,cO "is_name" "is_name" 455 456 457 131 1 3 204 true 181 205 .none .none .none 206 458 459) ::
 (nat_lit 208,fO "is_name" "is_name" fY "likefill.signs" 383 207) ::
 (nat_lit 214,cO "is_whole" "is_whole" 461 462 463 135 1 3 209 true 181 210 .none (.ref 211) (.ref 212) 213 465 466) ::
 (nat_lit 215,fO "is_whole" "is_whole" fQ "likefill.signs" 383 214) ::
 (nat_lit 219,cO "checked_pairs" "checked_pairs" 468 469 470 137 3 3 216 true 181 217 .none .none .none 218 471 472) ::
 (nat_lit 220,fO "checked_pairs" "checked_pairs" cG "likefill.signs" 383 219) ::
 (nat_lit 224,cO "check_names" "check_names" 474 475 476 144 1 3 221 true 181 222 .none .none .none 223 477 478) ::
 (nat_lit 225,fO "check_names" "check_names" cN "likefill.signs" 383 224) ::
 (nat_lit 229,cO "check_parts" "check_parts" 480 481 482 150 1 3 226 true 181 227 .none .none .none 228 483 484) ::
 (nat_lit 230,fO "check_parts" "check_parts" dF "likefill.signs" 383 229) ::
 (nat_lit 234,cO "check_noughts" "check_noughts" 486 487 488 156 2 3 231 true 181 232 .none .none .none 233 489 490) ::
 (nat_lit 235,fO "check_noughts" "check_noughts" cH "likefill.signs" 383 234) ::
 (nat_lit 241,cO "_law_cell" "_law_cell" 494 495 496 164 2 3 236 true 181 237 .none (.ref 238) (.ref 239) 240 499 500) ::
 (nat_lit 242,fO "_law_cell" "_law_cell" eY "law_likefill_k21_fillings_looked_over" 492 241) ::
 (nat_lit 248,cO "_law_pot" "_law_pot" 502 503 504 168 2 3 243 true 181 244 .none (.ref 245) (.ref 246) 247 508 509) ::
 (nat_lit 249,fO "_law_pot" "_law_pot" fT "law_likefill_k21_fillings_looked_over" 492 248) ::
 (nat_lit 255,cO "_law_take" "_law_take" 511 512 513 171 2 3 250 true 181 251 .none (.ref 252) (.ref 253) 254 517 518) ::
 (nat_lit 256,fO "_law_take" "_law_take" eU "law_likefill_k21_fillings_looked_over" 492 255) ::
 (nat_lit 262,cO "_law_word" "_law_word" 520 521 522 178 2 3 257 true 181 258 .none (.ref 259) (.ref 260) 261 527 528) ::
 (nat_lit 263,fO "_law_word" "_law_word" eT "law_likefill_k21_fillings_looked_over" 492 262) ::
 (nat_lit 269,cO "_law_names" "_law_names" 530 531 532 184 2 3 264 true 181 265 .none (.ref 266) (.ref 267) 268 539 540) ::
 (nat_lit 270,fO "_law_names" "_law_names" eF "law_likefill_k21_fillings_looked_over" 492 269) ::
 (nat_lit 274,cO "_law_signs" "_law_signs" 542 543 544 193 1 3 271 true 181 272 .none .none .none 273 545 546) ::
 (nat_lit 275,fO "_law_signs" "_law_signs" cZ "law_likefill_k21_fillings_looked_over" 492 274) ::
 (nat_lit 281,cO "_law_wishes" "_law_wishes" 548 549 550 207 1 3 276 true 181 277 .none (.ref 278) (.ref 279) 280 556 557) ::
 (nat_lit 282,fO "_law_wishes" "_law_wishes" dS "law_likefill_k21_fillings_looked_over" 492 281) ::
 (nat_lit 286,cO "_law_leaf" "_law_leaf" 559 560 561 215 3 3 283 true 181 284 .none .none .none 285 562 563) ::
 (nat_lit 287,fO "_law_leaf" "_law_leaf" eB "law_likefill_k21_fillings_looked_over" 492 286) ::
 (nat_lit 291,cO "_law_heads" "_law_heads" 565 566 567 219 2 3 288 true 181 289 .none .none .none 290 568 569) ::
 (nat_lit 292,fO "_law_heads" "_law_heads" dA "law_likefill_k21_fillings_looked_over" 492 291) ::
 (nat_lit 298,cO "_law_term" "_law_term" 571 572 573 224 5 3 293 true 181 294 .none (.ref 295) (.ref 296) 297 586 587) ::
 (nat_lit 299,fO "_law_term" "_law_term" dR "law_likefill_k21_fillings_looked_over" 492 298) ::
 (nat_lit 305,cO "_law_sort" "_law_sort" 589 590 591 238 1 3 300 true 181 301 .none (.ref 302) (.ref 303) 304 593 594) ::
 (nat_lit 306,fO "_law_sort" "_law_sort" eV "law_likefill_k21_fillings_looked_over" 492 305) ::
 (nat_lit 312,cO "_law_ahead" "_law_ahead" 596 597 598 242 2 3 307 true 181 308 .none (.ref 309) (.ref 310) 311 603 604) ::
 (nat_lit 313,fO "_law_ahead" "_law_ahead" dB "law_likefill_k21_fillings_looked_over" 492 312) ::
 (nat_lit 319,cO "_law_opened" "_law_opened" 606 607 608 255 3 3 314 true 181 315 .none (.ref 316) (.ref 317) 318 614 615) ::
 (nat_lit 320,fO "_law_opened" "_law_opened" dU "law_likefill_k21_fillings_looked_over" 492 319) ::
 (nat_lit 324,cO "_law_flat" "_law_flat" 617 618 619 263 2 3 321 true 181 322 .none .none .none 323 620 621) ::
 (nat_lit 325,fO "_law_flat" "_law_flat" dG "law_likefill_k21_fillings_looked_over" 492 324) ::
 (nat_lit 329,cO "_law_own" "_law_own" 623 624 625 279 3 3 326 true 181 327 .none .none .none 328 626 627) ::
 (nat_lit 330,fO "_law_own" "_law_own" eW "law_likefill_k21_fillings_looked_over" 492 329) ::
 (nat_lit 336,cO "_law_filling" "_law_filling" 629 630 631 288 3 3 331 true 181 332 .none (.ref 333) (.ref 334) 335 639 640) ::
 (nat_lit 337,fO "_law_filling" "_law_filling" dJ "law_likefill_k21_fillings_looked_over" 492 336) ::
 (nat_lit 343,cO "_law_more" "_law_more" 642 643 644 298 1 3 338 true 181 339 .none (.ref 340) (.ref 341) 342 647 648) ::
 (nat_lit 344,fO "_law_more" "_law_more" eX "law_likefill_k21_fillings_looked_over" 492 343) ::
 (nat_lit 350,cO "_law_looked" "_law_looked" 650 651 652 301 2 3 345 true 181 346 .none (.ref 347) (.ref 348) 349 658 659) ::
 (nat_lit 351,fO "_law_looked" "_law_looked" dW "law_likefill_k21_fillings_looked_over" 492 350) ::
 (nat_lit 357,cO "_law_spoil" "_law_spoil" 661 662 663 308 1 3 352 true 181 353 .none (.ref 354) (.ref 355) 356 666 667) ::
 (nat_lit 358,fO "_law_spoil" "_law_spoil" eE "law_likefill_k21_fillings_looked_over" 492 357) ::
 (nat_lit 364,cO "_law_is_told" "_law_is_told" 669 670 671 314 3 3 359 true 181 360 .none (.ref 361) (.ref 362) 363 679 680) ::
 (nat_lit 365,fO "_law_is_told" "_law_is_told" dI "law_likefill_k21_fillings_looked_over" 492 364) ::
 (nat_lit 371,cO "law" "law" 682 683 684 326 1 3 366 true 181 367 .none (.ref 368) (.ref 369) 370 691 692) ::
 (nat_lit 372,fO "law" "law" mH "law_likefill_k21_fillings_looked_over" 492 371)::[]
noncomputable def as0:List Addr:=[3,23,24,36,37,48,49,60,61,67,68,74,75,79,80,86,87,93,94,100,101,105,106,112,113,119,120,126,127,131,132,138,139,145,146,150,151,155,156,167,168,188,189,195,196,198,199,207,208,214,215,219,220,224,225,229,230,234,235,241,242,248,249,255,256,262,263,269,270,274,275,281,282,286,287,291,292,298,299,305,306,312,313,319,320,324,325,329,330,336,337,343,344,350,351,357,358,364,365,371,372]
noncomputable def without (ks:List Nat):Nat->List Stmt->List Stmt
 | _,[]=>[]
 | i,s::r=>if i∈ks then without ks (i+1) r else s::without ks (i+1) r
noncomputable def q0:Program:={PySem.Challenge.pw_likefill_k21_fillings_looked_over with main:={PySem.Challenge.pw_likefill_k21_fillings_looked_over.main with body:=without [0,5,21,25,38] 0 PySem.Challenge.pw_likefill_k21_fillings_looked_over.main.body} }
noncomputable def R0:Shared->Bool:=fun s=>xlAt q0 [] s && recOk (RowW.records PySem.Challenge.rw_likefill_k21_fillings_looked_over.row.toRowW) s
theorem MU {p q:Program}{Xt:Shared->Bool}{α:Type}{Yf:Shared->α}{Ya:World->α}{N:Nat}
  (e:opening p=plainProg p.main.scope.names) (n:Nat.ble 600 N=true) (j:∀s,fenceModules? p s=some s)
  (h:∀w os,(topFrom treeTable p w N ⟨boot_heap w.params,⟨[]⟩,boot_drawn,boot_toks,os⟩).map (fun s=>(openSeen q [] (importedModules p.main.body) Xt true s,Yf s))=some (openGood q [],Ya w)):LeftO p q [] Xt Yf Ya N:=fun w=>by
 obtain⟨s,G,B⟩:=Option.map_eq_some_iff.mp (boot_open e n j w);obtain⟨U,S,L,I,os⟩:=s;cases B;unfold openEnds;rw[G];exact h w os
theorem left0:LeftO PySem.Challenge.rw_likefill_k21_fillings_looked_over.row.prog q0 [] R0 (fun s=>as0.map s.heap.get?) (fun w=>(K0 w.params).map fun p=>some p.2) 5198 :=
 MU (by kernel_rfl) (by kernel_rfl) (fun s=>by kernel_rfl) (fun w os=>by unfold topFrom;rw[PySem.W.Fast.te14082659384304107361,PySem.W.Fast.te4187177175401517315,PySem.W.Fast.te14364793385576792824];kernel_rfl)
theorem keys0:∀P,as0=(K0 P).map (·.1):=fun P=>by kernel_rfl
end Lw
namespace L2
open PySem PySem.Spec PyProof.Rows
noncomputable abbrev bG:=Sum Int Str
noncomputable def keyIs:bG->Value->Bool
 | .inl k,v=>Value.isInt k v
 | .inr x,v=>Value.isStrOf x v
noncomputable def keyH (w:World):bG->Int
 | .inl k=>hashInt k
 | .inr x=>hashStr w x
theorem dH:∀{k:bG} {v:Value},keyIs k v=true->(∃i t,k=Sum.inl i/\v=Value.int i t)∨(∃x t,k=Sum.inr x/\v=Value.str x t)
 | .inl i,v,h=>by
  obtain⟨t,e⟩:=Value.isInt_shape (k:=i) (v:=v) h;exact .inl ⟨i,t,rfl,e⟩
 | .inr x,v,h=>by obtain⟨t,e⟩:=Value.isStrOf_shape (x:=x) (v:=v) h;exact .inr ⟨x,t,rfl,e⟩
theorem GH (i:Int)(t:Tok):keyIs (.inl i) (.int i t)=true:=by simp[keyIs,Value.isInt]
theorem vU (x:Str)(t:Tok):keyIs (.inr x) (.str x t)=true:=by simp[keyIs,Value.isStrOf]
theorem P3 (a b:Int):decide ((Sum.inl a:bG)=Sum.inl b)=(a == b):=by
 by_cases e:a=b
 ·subst e;simp
 ·have h:¬(Sum.inl a:bG)=Sum.inl b:=fun q=>e (Sum.inl.inj q);rw[decide_eq_false h];exact(beq_eq_false_iff_ne.mpr e).symm
theorem P0 (a b:Str):decide ((Sum.inr a:bG)=Sum.inr b)=decide (a=b):=by
 by_cases e:a=b
 ·subst e;simp
 ·have h:¬(Sum.inr a:bG)=Sum.inr b:=fun q=>e (Sum.inr.inj q);rw[decide_eq_false h,decide_eq_false e]
theorem P2 (a:Int)(b:Str):decide ((Sum.inl a:bG)=Sum.inr b)=false:=decide_eq_false (fun q=>nomatch q)
theorem P1 (a:Str)(b:Int):decide ((Sum.inr a:bG)=Sum.inl b)=false:=decide_eq_false (fun q=>nomatch q)
noncomputable def bF (prog:Program)(w:World):PySem.KeyKind prog w bG where
 is:=keyIs
 hash:=keyH w
 inj:=fun v a b L G=>by
  rcases dH L with⟨i,t,rfl,rfl⟩|⟨x,t,rfl,rfl⟩
  ·rcases dH G with⟨j,u,rfl,e⟩|⟨y,u,rfl,e⟩
   ·injection e with q _;rw[q]
   ·exact nomatch e
  ·rcases dH G with⟨j,u,rfl,e⟩|⟨y,u,rfl,e⟩
   ·exact nomatch e
   ·injection e with q _;rw[q]
 byValue:=fun k v h=>by rcases dH h with⟨i,t,rfl,rfl⟩|⟨x,t,rfl,rfl⟩ <;> rfl
 pyHash:=fun B h=>by
  rcases dH B with⟨i,t,rfl,rfl⟩|⟨x,t,rfl,rfl⟩
  ·exact wpAny_pyHash_int h
  ·exact wpAny_pyHash_str h
 eqBool:=fun I B h=>by
  rcases dH I with⟨i,t,rfl,rfl⟩|⟨x,t,rfl,rfl⟩
  ·rcases dH B with⟨j,u,rfl,rfl⟩|⟨y,u,rfl,rfl⟩
   ·rw[P3]at h;exact wpAny_eqBool_int h
   ·rw[P2]at h;exact SeqAt.EqAt.int_str i t y u _ _ _ _ h
  ·rcases dH B with⟨j,u,rfl,rfl⟩|⟨y,u,rfl,rfl⟩
   ·rw[P1]at h;exact SeqAt.EqAt.str_int x t j u _ _ _ _ h
   ·rw[P0]at h;exact wpAny_eqBool_str h
 «strs»:=fun k x t v h=>by
  rcases dH h with⟨i,u,rfl,e⟩|⟨y,u,rfl,e⟩
  ·exact nomatch e
  ·injection e with q _;subst q;cases v <;> rfl
theorem CO (prog:Program)(w:World)(k:bG)(v:Value):(bF prog w).is k v=keyIs k v:=rfl
theorem AE (prog:Program)(w:World)(i:Int)(t:Tok):(bF prog w).is (.inl i) (.int i t)=true:=GH i t
theorem AD (prog:Program)(w:World)(x:Str)(t:Tok):(bF prog w).is (.inr x) (.str x t)=true:=vU x t
inductive V where
 | non|bl (b:Bool)|int (i:Int)|str (x:Str)|byt (b:Array UInt8)|flt (b:UInt64)|ref (a:Addr)|ty (n:String)
 deriving DecidableEq
noncomputable def aT:V->Value->Prop
 | .non,u=>u=Value.none
 | .bl b,u=>u=Value.bool b
 | .int i,u=>∃t,u=Value.int i t
 | .str x,u=>∃t,u=Value.str x t
 | .byt b,u=>∃t,u=Value.bytes b t
 | .flt b,u=>∃t,u=Value.float b t
 | .ref a,u=>u=Value.ref a
 | .ty n,u=>u=Value.type n
noncomputable abbrev aR:List V->bZ->Prop:=Paired aT
theorem aR.length {xs:List V}{us:bZ}(r:aR xs us):xs.length=us.length:=Paired.length r
theorem aR.get:∀{xs:List V} {us:bZ} {i:Nat} {x:V},aR xs us->xs[i]?=some x->∃u,us[i]?=some u/\aT x u
 | _,_,_,_,.nil,e=>by simp at e
 | _,_,0,_,.cons r _,e=>by simp at e;subst e;exact⟨_,rfl,r⟩
 | _,_,i+1,x,.cons _ t,e=>by obtain⟨u,q,j⟩:=aR.get (i:=i) (x:=x) t (by simpa using e);exact⟨u,by simpa using q,j⟩
theorem aR.set {x:V}{u:Value}(r:aT x u):∀{xs:List V} {us:bZ} (i:Nat),aR xs us->aR (xs.set i x) (us.set i u)
 | _,_,_,.nil=>.nil
 | _,_,0,.cons _ t=>.cons r t
 | _,_,i+1,.cons q t=>.cons q (aR.set r i t)
theorem aR.append:∀{xs ys:List V} {us ws:bZ},aR xs us->aR ys ws->aR (xs++ys) (us++ws)
 | _,_,_,_,.nil,s=>s
 | _,_,_,_,.cons r t,s=>.cons r (aR.append t s)
theorem aR.take:∀{xs:List V} {us:bZ} (n:Nat),aR xs us->aR (xs.take n) (us.take n)
 | _,_,0,_=>.nil
 | _,_,_+1,.nil=>.nil
 | _,_,n+1,.cons r t=>.cons r (aR.take n t)
theorem aR.drop:∀{xs:List V} {us:bZ} (n:Nat),aR xs us->aR (xs.drop n) (us.drop n)
 | _,_,0,r=>r
 | _,_,_+1,.nil=>.nil
 | _,_,n+1,.cons _ t=>aR.drop n t
noncomputable def kI:Option V->Option Value->Prop
 | some v,some u=>aT v u
 | none,none=>True
 | _,_=>False
noncomputable def KV {κ:Type}:List (κ×V)->List (κ×Value)->Prop:=Paired fun(p:κ×V) (q:κ×Value)=>p.1=q.1/\aT p.2 q.2
noncomputable def kV:bG->V
 | .inl i=>.int i
 | .inr x=>.str x
inductive HO where
 /-- a list -/
 | lst (xs:List V)
 /-- a tuple (never changes) -/
 | tup (xs:List V)
 /-- a dict whose keys are ints and texts;one whose keys are tuples of ints and texts (the empty one is both) -/
 | dK (kvs:List (bG×V))|dT (kvs:List (List bG×V))
 /-- a set of ints: its members,its size -/
 | set (S:Int->Bool) (n:Nat)
 /-- an instance of the class at C,its dict at dx,its attributes -/
 | ins (C dx:Addr) (fs:List (Str×V))
 /-- the dict of the instance at x -/
 | own (x:Addr)
 /-- the dict of an exception -/
 | xd (fs:List (Str×V))
 /-- a bound method,f of x -/
 | met (f x:Addr)
 /-- a range object lo,lo+1,.. below hi -/
 | rng (lo hi:Int)
 /-- a thing that is known to the object (the script;a dict while a loop walks it): read,never written while it is so -/
 | frz (o:Obj) (u:HO)
 /-- a code object's table -/
 | tbl (ps:i4)
 /-- any other thing,by what is true of its one object (a def of one's own: SetO a S n:=HO.ext fun h=>..) -/
 | ext (φ:Heap->Prop)
noncomputable abbrev Hp:=Addr->Option HO
noncomputable def upd (H:Hp)(a:Addr)(o:HO):Hp:=fun b=>if b=a then some o else H b
theorem upd_same {H:Hp}{a:Addr}{o:HO}:upd H a o a=some o:=by unfold upd;rw[if_pos rfl]
theorem aB {H:Hp}{a b:Addr}{o:HO}(h:b≠a):upd H a o b=H b:=by unfold upd;rw[if_neg h]
theorem upd_upd {H:Hp}{a:Addr}{o u:HO}:upd (upd H a o) a u=upd H a u:=by funext b;unfold upd;split <;> rfl
theorem Q2 {H:Hp}{a b:Addr}{o u:HO}(h:H a=some o)(h':H b=some u)(d:o≠u):a≠b:=by intro e;subst e;rw[h]at h';exact d (Option.some.inj h')
theorem aE {H:Hp}{a b:Addr}{o:HO}(h:H a=some o)(h':H b=none):a≠b:=by intro e;subst e;rw[h]at h';cases h'
section
variable (P:Program)(w:World)
noncomputable def bY (H:Hp)(h:Heap)(a:Addr):HO->Prop
 | .lst xs=>xs.length<=sizeLine/\∃(its:bZ) (n:Nat),aR xs its/\h.get? a=some {cls:=.type "list",data:=.seq its.toArray n}
 | .tup xs=>xs.length<=sizeLine/\∃its:bZ,aR xs its/\IsTup h a its.toArray
 | .dK j=>j.length<=sizeLine/\(a == sysModules)=false/\∃vs,KV j vs/\h.DictOf (bF P w) a vs
 | .dT j=>j.length<=sizeLine/\(a == sysModules)=false/\∃xs:List (List bG×Addr×Value),
   Paired (fun(p:List bG×V) (q:List bG×Addr×Value)=>p.1=q.1/\H q.2.1=some (.tup (p.1.map kV))/\aT p.2 q.2.2) j xs /\
   ∃o N ep,h.get? a=some o/\o.ExactDict/\o.data = .dict N ep/\N.toList=xs.map (entryOfKey (tupleKind (bF P w)))/\(xs.map (·.1)).Nodup
 | .set S n=>h.SetOf (intKind P w) a S n
 | .ins C G fs=>H G=some (.own a)/\fs.length<=1000/\G≠a/\h.get? a=some (PySem.W.instObj C G) /\
   ∃B,h.Ns1 G B/\(∀f,kI (fs.lookup f) (B f))/\PySem.Within B (fs.map (·.1))
 | .own _=>∃o,h.get? a=some o
 | .xd fs=>∃B,h.Ns1 a B/\∀f,kI (fs.lookup f) (B f)
 | .rng U Z=>∃t u v,h.get? a=some {cls:=.type "range",data:=.fields #[.int U t,.int Z u,.int 1 v]}
 | .frz o u=>h.get? a=some o/\bY H h a u
 | .tbl ps=>h.get? a=some {cls:=.none,data:=.fields ps}
 | .met f x=>h.get? a=some (PySem.W.methodObj (.ref f) (.ref x))
 | .ext φ=>φ h/\(∃o,h.get? a=some o)/\∀L I:Heap,φ L->(∀o,L.get? a=some o->I.get? a=some o)->φ I
noncomputable def gR (H:Hp)(h:Heap):Prop:=∀a o,H a=some o->bY P w H h a o
end
section
variable {P:Program}{w:World}{H H':Hp}{h h':Heap}{a:Addr}{o:HO}
theorem bY.lt (x:bY P w H h a o):a<h.objs.size:=by
 cases o with
 | lst xs=>obtain⟨_,_,_,_,e⟩:=x;exact Heap.lt_size e
 | tup xs=>obtain⟨_,_,_,p⟩:=x;exact p.lt
 | dK j=>obtain⟨_,_,_,_,o,_,_,e,_⟩:=x;exact Heap.lt_size e
 | dT j=>obtain⟨_,_,_,_,o,_,_,e,_⟩:=x;exact Heap.lt_size e
 | set S n=>obtain⟨o,_,_,_,e,_⟩:=x;exact Heap.lt_size e
 | ins C I fs=>obtain⟨_,_,_,e,_⟩:=x;exact Heap.lt_size e
 | own y=>obtain⟨_,e⟩:=x;exact Heap.lt_size e
 | xd fs=>obtain⟨_,⟨_,_,_,e,_⟩,_⟩:=x;exact Heap.lt_size e
 | rng B G=>obtain⟨_,_,_,e⟩:=x;exact Heap.lt_size e
 | frz q u=>obtain⟨e,_⟩:=x;exact Heap.lt_size e
 | tbl ps=>exact Heap.lt_size (show h.get? a=some _ from x)
 | met f y=>exact Heap.lt_size (show h.get? a=some _ from x)
 | ext φ=>obtain⟨_,⟨_,e⟩,_⟩:=x;exact Heap.lt_size e
theorem Paired.mapP {α β:Type}{F G:α->β->Prop}:∀{j:List α} {l₂:List β},Paired F j l₂->(∀a b,F a b->G a b)->Paired G j l₂
 | _,_,.nil,_=>.nil
 | _,_,.cons r t,f=>.cons (f _ _ r) (Paired.mapP t f)
theorem bY.stay (x:bY P w H h a o)(k:∀b u,(b=a∨H b=some (.own a))->h.get? b=some u->h'.get? b=some u)
  (ho:∀b,H b=some (.own a)->H' b=some (.own a)) (U:∀b xs,H b=some (.tup xs)->H' b=some (.tup xs)):bY P w H' h' a o:=by
 induction o with
 | lst xs=>obtain⟨z,its,n,r,e⟩:=x;exact⟨z,its,n,r,k _ _ (.inl rfl) e⟩
 | tup xs=>obtain⟨z,its,r,j,e,c⟩:=x;exact⟨z,its,r,j,k _ _ (.inl rfl) e,c⟩
 | dK L=>obtain⟨z,y,vs,r,j,B,G,e,c⟩:=x;exact⟨z,y,vs,r,j,B,G,k _ _ (.inl rfl) e,c⟩
 | dT L =>
  obtain⟨z,y,xs,r,j,B,G,e,c⟩:=x;exact⟨z,y,xs,Paired.mapP r fun p q z=>⟨z.1,U _ _ z.2.1,z.2.2⟩,j,B,G,k _ _ (.inl rfl) e,c⟩
 | set S n=>obtain⟨j,B,G,t,e,c⟩:=x;exact⟨j,B,G,t,k _ _ (.inl rfl) e,c⟩
 | ins C dx fs =>
  obtain⟨d,z,ne,e,I,⟨od,B,G,Z,c⟩,r⟩:=x;exact⟨ho _ d,z,ne,k _ _ (.inl rfl) e,I,⟨od,B,G,k _ _ (.inr d) Z,c⟩,r⟩
 | own y=>obtain⟨j,e⟩:=x;exact⟨j,k _ _ (.inl rfl) e⟩
 | xd fs=>obtain⟨I,⟨od,B,G,e,c⟩,r⟩:=x;exact⟨I,⟨od,B,G,k _ _ (.inl rfl) e,c⟩,r⟩
 | rng lo hi=>obtain⟨t,u,v,e⟩:=x;exact⟨t,u,v,k _ _ (.inl rfl) e⟩
 | frz j u N=>obtain⟨e,q⟩:=x;exact⟨k _ _ (.inl rfl) e,N q⟩
 | tbl ps =>
  have e:h.get? a=some {cls:=.none,data:=.fields ps}:=x;show h'.get? a=some {cls:=.none,data:=.fields ps};exact k a _ (.inl rfl) e
 | met f y =>
  have e:h.get? a=some (PySem.W.methodObj (.ref f) (.ref y)):=x;show h'.get? a=some (PySem.W.methodObj (.ref f) (.ref y));exact k a _ (.inl rfl) e
 | ext φ=>obtain⟨p,⟨o,e⟩,st⟩:=x;exact⟨st _ _ p fun o q=>k _ _ (.inl rfl) q,⟨o,k _ _ (.inl rfl) e⟩,st⟩
theorem gR.lt (x:gR P w H h)(e:H a=some o):a<h.objs.size:=(x a o e).lt
theorem gR.fresh (x:gR P w H h)(e:h.objs.size<=a):H a=none:=by
 cases q:H a with
 | none=>rfl
 | some u=>exact absurd (Nat.lt_of_lt_of_le (x.lt q) e) (Nat.lt_irrefl _)
theorem gR.kept (x:gR P w H h)(k:∀b u,h.get? b=some u->h'.get? b=some u):gR P w H h':=fun a o e =>
 (x a o e).stay (fun b u _ q=>k b u q) (fun _ q=>q) fun _ _ q=>q
theorem gR.laid (x:gR P w H h)(k:∀b u,h.get? b=some u->h'.get? b=some u)(G:h.objs.size<=a)(new:bY P w (upd H a o) h' a o):gR P w (upd H a o) h':=fun b u e=>by
 have j:=x.fresh G;by_cases B:b=a
 ·subst B;rw[upd_same]at e;cases e;exact new
 ·rw[aB B]at e;exact(x b u e).stay (fun c v _ q=>k c v q) (fun c q=>by rw[aB (aE q j)];exact q) fun c xs q=>by rw[aB (aE q j)];exact q
end
noncomputable def Rd (H:Hp)(a:Addr)(u:HO):Prop:=H a=some u∨∃o,H a=some (.frz o u)
theorem Rd.ok {P:Program}{w:World}{H:Hp}{h:Heap}{a:Addr}{u:HO}(r:Rd H a u)(x:gR P w H h):bY P w H h a u:=by
 rcases r with r|⟨o,r⟩
 ·exact x a u r
 ·obtain⟨_,q⟩:=x a _ r;exact q
noncomputable def RE:Option HO->Prop
 | some (.lst _)=>True
 | some (.dK _)=>True
 | some (.dT _)=>True
 | some (.set _ _)=>True
 | some (.ins _ _ _)=>True
 | some (.ext _)=>True
 | _=>False
section
variable {P:Program}{w:World}{H:Hp}{h h':Heap}{x e:Addr}{o':HO}
theorem gR.write (ok:gR P w H h)(I:RE (H x))(S:e=x∨H e=some (.own x))(k:∀b u,b≠e->h.get? b=some u->h'.get? b=some u)(N:∃u,h'.get? e=some u)
  (new:bY P w (upd H x o') h' x o'):gR P w (upd H x o') h':=fun b u q=>by
 have B:∀c y,H c=some (.own y)->c≠x:=fun c y r z=>by subst z;rw[r]at I;exact I
 have G:∀c xs,H c=some (.tup xs)->c≠x:=fun c xs r z=>by subst z;rw[r]at I;exact I
 by_cases L:b=x
 ·subst L;rw[upd_same]at q;cases q;exact new
 ·rw[aB L]at q;by_cases j:b=e
  ·have q':H b=some (.own x):=by
    rcases S with z|z
    ·exact absurd (j.trans z) L
    ·rw[j];exact z
   rw[q]at q';cases q';obtain⟨v,U⟩:=N;exact⟨v,by rw[j];exact U⟩
  ·refine(ok b u q).stay (fun c v hc r=>k c v ?_ r) (fun c r=>by rw[aB (B c b r)];exact r) fun c xs r=>by rw[aB (G c xs r)];exact r
   rcases hc with rfl|hc
   ·exact j
   ·rintro rfl;rcases S with z|z
    ·exact B c b hc z
    ·rw[hc]at z;cases z;exact L rfl
end
structure Un (fs ex:List Addr)(H H':Hp)(h h':Heap):Prop where
 keep:∀b o,h.get? b=some o->H b=none->b∉fs->b∉ex->h'.get? b=some o
 slot:∀b o,h.get? b=some o->H b=none->b∈fs->b∉ex->∃sl,h'.get? b=some {o with slots:=sl}
 free:∀b o,h.get? b=some o->H b=none->b∉ex->H' b=none
 there:∀b o,h.get? b=some o->b∉ex->∃o',h'.get? b=some o'
 tups:∀b xs,H b=some (.tup xs)->H' b=some (.tup xs)
 frzs:∀b o u,H b=some (.frz o u)->H' b=some (.frz o u)
 tbls:∀b ps,H b=some (.tbl ps)->∃more,H' b=some (.tbl (ps++more))
section
variable {fs fs' ex ex':List Addr}{H H1 H2:Hp}{h h1 h2 h':Heap}{a x e:Addr}{o:HO}
theorem Un.any (u:Un fs ex H H1 h h1){b:Addr}{j:Obj}(q:h.get? b=some j)(n:H b=none)(B:b∉ex):∃I,h1.get? b=some {j with slots:=I}:=by
 by_cases G:b∈fs
 ·exact u.slot b j q n G B
 ·exact⟨j.slots,u.keep b j q n G B⟩
theorem Un.kept (k:∀b u,h.get? b=some u->h'.get? b=some u):Un fs ex H H h h' :=
 ⟨fun b j q _ _ _=>k b j q,fun b j q _ _ _=>⟨j.slots,k b j q⟩,fun _ _ _ n _=>n,fun b j q _=>⟨j,k b j q⟩,fun _ _ q=>q,fun _ _ _ q=>q,fun _ ps q=>⟨#[],by rw[q];simp⟩⟩
theorem Un.refl:Un fs ex H H h h:=Un.kept fun _ _ q=>q
theorem Un.laid (k:∀b u,h.get? b=some u->h'.get? b=some u)(B:h.objs.size<=a)(j:H a=none):Un fs ex H (upd H a o) h h' where
 keep:=fun b u q _ _ _=>k b u q
 slot:=fun b u q _ _ _=>⟨u.slots,k b u q⟩
 free:=fun b u q n _=>by rw[aB (Nat.ne_of_lt (Nat.lt_of_lt_of_le (Heap.lt_size q) B))];exact n
 there:=fun b u q _=>⟨u,k b u q⟩
 tups:=fun b xs q=>by rw[aB (aE q j)];exact q
 frzs:=fun b u xs q=>by rw[aB (aE q j)];exact q
 tbls:=fun b ps q=>⟨#[],by rw[aB (aE q j),q];simp⟩
theorem Un.write (B:RE (H x))(S:e=x∨H e=some (.own x))(k:∀b u,b≠e->h.get? b=some u->h'.get? b=some u)(I:∃u,h'.get? e=some u):Un fs ex H (upd H x o) h h':=by
 have L:∀b,H b=none->b≠x:=fun b n z=>by subst z;rw[n]at B;exact B
 have N:∀b,H b=none->b≠e:=fun b n z=>by
  subst z;rcases S with r|r
  ·exact L b n r
  ·rw[n]at r;cases r
 have G:∀b u,H b=some u->¬RE (some u)->b≠x:=fun b u q nm z=>by subst z;rw[q]at B;exact nm B
 refine⟨fun b u q n _ _=>k b u (N b n) q,fun b u q n _ _=>⟨u.slots,k b u (N b n) q⟩,fun b u q n _=>by rw[aB (L b n)];exact n,fun b u q _=>?_,
  fun b xs q=>by rw[aB (G b _ q fun z=>z)];exact q,fun b u xs q=>by rw[aB (G b _ q fun z=>z)];exact q,fun b ps q=>⟨#[],by rw[aB (G b _ q fun z=>z),q];simp⟩⟩
 by_cases j:b=e
 ·subst j;exact I
 ·exact⟨u,k b u j q⟩
end
noncomputable def trk (h:Heap)(H:Hp):List Addr:=(List.range h.objs.size).filter fun a=>(H a).isSome
noncomputable def hidT (h:Heap)(H:Hp):Heap:=PySem.W.hideAll h (trk h H)
theorem GJ (h:Heap)(H:Hp):(hidT h H).objs.size=h.objs.size:=PySem.W.hideAll_size _ _
theorem tF {h:Heap}{H:Hp}{b:Addr}{o:Obj}(e:h.get? b=some o)(n:H b=none):(hidT h H).get? b=some o :=
 PySem.W.hideAll_get _ e fun j=>by have q:(H b).isSome=true:=(List.mem_filter.mp j).2;rw[n]at q;simp at q
theorem MP {h:Heap}{H:Hp}{b:Addr}{o:Obj}(e:(hidT h H).get? b=some o):h.get? b=some o/\H b=none:=by
 have e':h.get? b=some o:=PySem.W.of_hideAll (trk h H) e;refine⟨e',?_⟩;cases q:H b with
 | none=>rfl
 | some x =>
  have j:b∈trk h H:=List.mem_filter.mpr ⟨List.mem_range.mpr (Heap.lt_size e'),by simp[q]⟩;have z:(hidT h H).get? b=none:=PySem.W.hideAll_none (trk h H) j;rw[z]at e;cases e
noncomputable def NJ (g h:Heap)(L:Addr):cW:=(List.range h.objs.size).filterMap fun a=>if a=L∨(g.get? a).isSome=true then none else(h.get? a).map fun o=>(a,o)
noncomputable def rest (g h:Heap)(L d:Addr):cW:=(NJ g h L).filter fun p=>decide (p.1≠d)
structure Mod (K:PySem.W.Frag)(mg:fM)(base:Heap):Prop where
 kin:K.In base
 glob:base.Ns mainGlobals mg
 blt:∃mb,base.Ns builtinsNs mb/\∀x:Str,x≠"__name__"->mb x=bootBuiltins x
 nolimit:base.NoLimit
structure Cx where
 prog:Program
 w:World
 K:PySem.W.Frag
 mg:fM
 base:Heap
 A:Around
 N:aW
 s₀:Shared
 H₀:Hp
 env:Env
 outer:List Env
 stack:List Env
 ex:List Addr
 fn:Str->Bool
 calm:Bool
 pn:cW
 xe:cE
noncomputable def frs (l:List Env):List Addr:=l.filterMap (·.frame)
noncomputable abbrev Cx.fs (X:Cx):List Addr:=frs X.outer
noncomputable def RI (j:Scope)(x:Str):Prop:=j.names.lookup x=some .local∨j.names.lookup x=some .cell∨j.names.lookup x=some .free
noncomputable def RK (j:Scope)(x:Str):Prop:=j.names.lookup x=some .local∨j.names.lookup x=some .cell
noncomputable def RT (env:Env)(h:Heap)(m:fM)(x:Str)(u:Value):Prop :=
 (env.kindOf x=some .local/\m x=some u)∨((env.kindOf x=some .cell∨env.kindOf x=some .free)/\∃c,env.cells.lookup x=some c/\h.IsCell c (some u))
structure Cx.Ok (X:Cx):Prop where
 mod:Mod X.K X.mg X.base
 kind:X.env.scope.kind = .function
 glob:X.env.globals=mainGlobals
 blt:X.env.builtins=builtinsNs
 above:X.s₀.heap.objs.size<=X.env.locals
 inj:∀x y c,X.env.cells.lookup x=some c->X.env.cells.lookup y=some c->x=y
 has:∀x,(X.env.kindOf x=some .cell∨X.env.kindOf x=some .free)->∃c,X.env.cells.lookup x=some c
 cab:∀x c,X.fn x=true->X.env.cells.lookup x=some c->X.s₀.heap.objs.size<=c
 hd:X.calm=true->X.A.handled=none
 frames:X.A.frames=some X.stack
 stk:X.stack=X.outer∨(X.stack=X.env::X.outer/\X.env.frame=some X.env.locals)
 exf:∀b∈X.ex,b≠X.env.locals/\∀x c,X.env.cells.lookup x=some c->c≠b
 bs:∀b o,X.base.get? b=some o->X.s₀.heap.get? b=some o/\X.H₀ b=none
 bsz:X.base.objs.size<=X.s₀.heap.objs.size
 noex:∀b o,X.base.get? b=some o->b∉X.ex
 exfs:∀b∈X.ex,b∉X.fs
 funs:X.s₀.heap.FunFrames X.base X.outer
 frf:∀b∈X.fs,X.H₀ b=none
structure aO (X:Cx)(pins:cW)(σ:List (Option V))(H:Hp)(s:Shared):Prop where
 ok:X.Ok
 os:s.os=X.s₀.os
 bare:AllBare s.gens
 base:Un X.fs X.ex X.H₀ H X.s₀.heap s.heap
 loc:∃m,s.heap.Ns X.env.locals m/\∀(i:Nat) (x:Str) (v:V),X.N[i]?=some x->σ[i]?=some (some v)->RI X.env.scope x->∃u,aT v u/\RT X.env s.heap m x u
 cell:∀x c,X.env.cells.lookup x=some c->∃v,s.heap.IsCell c v
 free:H X.env.locals=none
 freeC:∀x c,X.env.cells.lookup x=some c->H c=none
 pin:∀p∈X.pn++pins,s.heap.get? p.1=some p.2/\H p.1=none/\p.1≠X.env.locals/\p.1∉X.fs/\∀v,p.2.data≠.cell v
 hok:gR X.prog X.w H s.heap
 len:σ.length=X.N.length
section
variable {X:Cx}{pins:cW}{σ:List (Option V)}{H H':Hp}{s:Shared}{h':Heap}
theorem Cx.Ok.nofr (ok:X.Ok){b:Addr}{o:Obj}(e:X.base.get? b=some o):b∉X.fs:=fun j=>by have:=(ok.funs.mem j).1;rw[e]at this;cases this
theorem aO.bs (I:aO X pins σ H s):∀b o,X.base.get? b=some o->s.heap.get? b=some o/\H b=none:=fun b o e =>
 ⟨I.base.keep b o (I.ok.bs b o e).1 (I.ok.bs b o e).2 (I.ok.nofr e) (I.ok.noex b o e),I.base.free b o (I.ok.bs b o e).1 (I.ok.bs b o e).2 (I.ok.noex b o e)⟩
theorem aO.bk (I:aO X pins σ H s):∀b o,X.base.get? b=some o->s.heap.get? b=some o:=fun b o e=>(I.bs b o e).1
theorem aO.mod (I:aO X pins σ H s):Mod X.K X.mg X.base:=I.ok.mod
theorem aO.kIn (I:aO X pins σ H s):X.K.In s.heap:=I.ok.mod.kin.keeps I.bk
theorem aO.lt (I:aO X pins σ H s):X.env.locals<s.heap.objs.size:=let⟨_,hn,_⟩:=I.loc;hn.lt
theorem aO.sz (I:aO X pins σ H s):X.s₀.heap.objs.size<=s.heap.objs.size:=Nat.le_trans I.ok.above (Nat.le_of_lt I.lt)
theorem aO.nofs (I:aO X pins σ H s){a:Addr}(h:s.heap.objs.size<=a):a∉X.fs:=fun j=>by obtain⟨_,o,ho,_⟩:=I.ok.funs.mem j;exact absurd (Nat.lt_of_lt_of_le (Heap.lt_size ho) (Nat.le_trans I.sz h)) (Nat.lt_irrefl _)
theorem aO.cne (I:aO X pins σ H s):∀x c,X.env.cells.lookup x=some c->c≠X.env.locals:=fun x c e z=>by obtain⟨v,o,ho,hd⟩:=I.cell x c e;obtain⟨m,⟨B,G,L,j,q,_⟩,_⟩:=I.loc;rw[z,j]at ho;cases ho;rw[q]at hd;cases hd
theorem aO.funs (I:aO X pins σ H s):s.heap.FunFrames X.base X.outer:=by
 have all:∀(l:List Env),(∀b∈frs l,b∈X.fs)->X.s₀.heap.FunFrames X.base l->s.heap.FunFrames X.base l:=by
  intro l
  induction l with
  | nil=>intro _ _;trivial
  | cons env r G =>
   intro B U;obtain⟨Z,⟨L,o,j,S,ho,hd⟩,N⟩:=U;have hL:L∈X.fs:=B L (by unfold frs;rw[List.filterMap_cons,j];exact List.mem_cons_self);obtain⟨sl,e⟩:=I.base.slot L o ho (I.ok.frf L hL) hL fun z=>I.ok.exfs L z hL;exact⟨Z,⟨L,_,j,S,e,hd⟩,G (fun b q=>B b (by unfold frs;rw[List.filterMap_cons,j];exact List.mem_cons_of_mem _ q)) N⟩
 exact all X.outer (fun _ q=>q) I.ok.funs
theorem aO.stack (I:aO X pins σ H s):s.heap.FunFrames X.base X.stack:=by
 rcases I.ok.stk with e|⟨e,q⟩
 ·rw[e];exact I.funs
 ·rw[e];obtain⟨m,j,_⟩:=I.loc;refine .cons (by rw[I.ok.kind];decide) q j ?_ I.funs;exact Heap.get?_none_of_le (Nat.le_trans I.ok.bsz I.ok.above)
theorem aO.stkSub (I:aO X pins σ H s):∀b∈frs X.stack,b∈X.env.locals::X.fs:=fun b j=>by
 rcases I.ok.stk with e|⟨e,q⟩
 ·rw[e]at j;exact List.mem_cons_of_mem _ j
 ·rw[e]at j;unfold frs at j;rw[List.filterMap_cons,q]at j;exact j
theorem aO.stkFree (I:aO X pins σ H s):∀b∈frs X.stack,H b=none:=fun b j=>by
 rcases List.mem_cons.mp (I.stkSub b j)with e|j
 ·rw[e];exact I.free
 ·obtain⟨_,o,ho,_⟩:=I.ok.funs.mem j;exact I.base.free b o ho (I.ok.frf b j) fun z=>I.ok.exfs b z j
theorem aO.step {g':Array GenState}{t':Nat}{d':Drawn}{ch:List Addr}(I:aO X pins σ H s)
  (G:∀b∈ch,(b∈X.ex∨X.s₀.heap.objs.size<=b)/\b≠X.env.locals/\(∀x c,X.env.cells.lookup x=some c->c≠b)/\∀p∈X.pn++pins,p.1≠b)
  (keep:∀b o,b≠X.env.locals->b∉X.fs->b∉ch->s.heap.get? b=some o->H b=none->h'.get? b=some o)
  (slot:∀b o,b≠X.env.locals->b∈X.fs->b∉ch->s.heap.get? b=some o->H b=none->∃sl,h'.get? b=some {o with slots:=sl}) (free:∀b o,b∉ch->s.heap.get? b=some o->H b=none->H' b=none)
  (there:∀b o,b∉ch->s.heap.get? b=some o->∃Z,h'.get? b=some Z)
  (tups:∀b xs,H b=some (.tup xs)->H' b=some (.tup xs)) (frzs:∀b o u,H b=some (.frz o u)->H' b=some (.frz o u)) (tbls:∀b ps,H b=some (.tbl ps)->∃more,H' b=some (.tbl (ps++more)))
  (ns:∀m,s.heap.Ns X.env.locals m->h'.Ns X.env.locals m) (hok:gR X.prog X.w H' h') (hg:AllBare g') :
  aO X pins σ H' {s with heap:=h',gens:=g',drawn:=d',toks:=t'}:=by
 have neL:∀b o,X.s₀.heap.get? b=some o->b≠X.env.locals:=fun b o e=>Nat.ne_of_lt (Nat.lt_of_lt_of_le (Heap.lt_size e) I.ok.above);have N:∀b o,X.s₀.heap.get? b=some o->b∉X.ex->b∉ch:=fun b o e j U=>by
  rcases(G b U).1 with z|z
  ·exact j z
  ·exact absurd (Nat.lt_of_lt_of_le (Heap.lt_size e) z) (Nat.lt_irrefl _)
 have L:∀x c,X.env.cells.lookup x=some c->∀v,s.heap.IsCell c v->h'.IsCell c v:=fun x c e v ⟨o,ho,hd⟩=>by
  have B:c∉ch:=fun z=>(G c z).2.2.1 x c e rfl;by_cases hc:c∈X.fs
  ·obtain⟨sl,q⟩:=slot c o (I.cne x c e) hc B ho (I.freeC x c e);exact⟨_,q,hd⟩
  ·exact⟨o,keep c o (I.cne x c e) hc B ho (I.freeC x c e),hd⟩
 refine⟨I.ok,I.os,hg,⟨fun b o e n U j=>?_,fun b o e n U j=>?_,fun b o e n j=>?_,fun b o e j=>?_,fun b xs e=>tups b xs (I.base.tups b xs e),fun b o xs e=>frzs b o xs (I.base.frzs b o xs e),fun b ps e=>?_⟩,?_,fun x c e=>?_,?_,fun x c e=>?_,fun p hp=>?_,hok,I.len⟩
 ·exact keep b o (neL b o e) U (N b o e j) (I.base.keep b o e n U j) (I.base.free b o e n j)
 ·obtain⟨sl,S⟩:=I.base.slot b o e n U j;obtain⟨sl',e2⟩:=slot b _ (neL b o e) U (N b o e j) S (I.base.free b o e n j);exact⟨sl',e2⟩
 ·obtain⟨Z,S⟩:=I.base.there b o e j;exact free b Z (N b o e j) S (I.base.free b o e n j)
 ·obtain⟨Z,S⟩:=I.base.there b o e j;exact there b Z (N b o e j) S
 ·obtain⟨m1,S⟩:=I.base.tbls b ps e;obtain⟨m2,e2⟩:=tbls b _ S;exact⟨m1++m2,by rw[e2,Array.append_assoc]⟩
 ·obtain⟨m,hn,hl⟩:=I.loc;refine⟨m,ns m hn,fun i x v S e2 e3=>?_⟩;obtain⟨u,r,l⟩:=hl i x v S e2 e3;refine⟨u,r,?_⟩;rcases l with l|⟨k,c,e,z⟩
  ·exact .inl l
  ·exact .inr ⟨k,c,e,L x c e _ z⟩
 ·obtain⟨v,z⟩:=I.cell x c e;exact⟨v,L x c e v z⟩
 ·obtain⟨m,⟨o,_,_,ho,_⟩,_⟩:=I.loc;exact free _ o (fun z=>(G _ z).2.1 rfl) ho I.free
 ·obtain⟨v,o,ho,hd⟩:=I.cell x c e;exact free c o (fun z=>(G c z).2.2.1 x c e rfl) ho (I.freeC x c e)
 ·obtain⟨e,n,ne,nf,d⟩:=I.pin p hp;have B:p.1∉ch:=fun z=>(G p.1 z).2.2.2 p hp rfl;exact⟨keep p.1 p.2 ne nf B e n,free p.1 p.2 B e n,ne,nf,d⟩
theorem aO.un {t':Nat}(I:aO X pins σ H s)(u:Un X.fs [] H H' s.heap h')(hok:gR X.prog X.w H' h'):aO X pins σ H' {s with heap:=h',toks:=t'}:=by
 obtain⟨m,⟨o,es,ep,ho,r⟩,_⟩:=id I.loc;obtain⟨S,hL⟩:=u.any ho I.free (by simp)
 exact I.step (g':=s.gens) (d':=s.drawn) (ch:=[]) (fun _ z=>nomatch z) (fun b o _ q _ e n=>u.keep b o e n q (by simp)) (fun b o _ q _ e n=>u.slot b o e n q (by simp)) (fun b o _ e n=>u.free b o e n (by simp)) (fun b o _ e=>u.there b o e (by simp)) u.tups u.frzs u.tbls (fun Z N=>by
  obtain⟨U,B,G,j,L⟩:=N;rw[ho]at j;cases j
  exact⟨_,B,G,hL,L⟩) hok I.bare
theorem aO.call {g':Array GenState}{t':Nat}{d':Drawn}{ch:List Addr}(I:aO X pins σ H s)(u:Un (frs X.stack) ch H H' s.heap h')(hok:gR X.prog X.w H' h')(S:AllBare g')
  (q:∀b∈ch,(b∈X.ex∨X.s₀.heap.objs.size<=b)/\b≠X.env.locals/\(∀x c,X.env.cells.lookup x=some c->c≠b)/\∀p∈X.pn++pins,p.1≠b) :
  aO X pins σ H' {s with heap:=h',gens:=g',drawn:=d',toks:=t'}:=by
 obtain⟨m,⟨o,es,ep,ho,r⟩,_⟩:=id I.loc;obtain⟨Z,hL⟩:=u.any ho I.free fun z=>(q _ z).2.1 rfl
 exact I.step (ch:=ch) q (fun b o hL U hc e n=>u.keep b o e n (fun z=>(List.mem_cons.mp (I.stkSub b z)).elim hL U) hc) (fun b o _ _ hc e n=>u.any e n hc) (fun b o hc e n=>u.free b o e n hc) (fun b o hc e=>u.there b o e hc) u.tups u.frzs u.tbls (fun m' N=>by
  obtain⟨o',B,G,j,L⟩:=N;rw[ho]at j;cases j
  exact⟨_,B,G,hL,L⟩) hok S
theorem aO.turned {t':Nat}{it:Addr}(I:aO X pins σ H s)(k:∀b o,b≠it->s.heap.get? b=some o->h'.get? b=some o)(B:H it=none)(hL:it≠X.env.locals)
  (U:it∈X.ex∨X.s₀.heap.objs.size<=it) (S:∀x c,X.env.cells.lookup x=some c->c≠it) (N:∀p∈X.pn++pins,p.1≠it):aO X pins σ H {s with heap:=h',toks:=t'}:=by
 have j:∀b u,H b=some u->b≠it:=fun b u e z=>by rw[z,B]at e;cases e
 refine I.step (g':=s.gens) (d':=s.drawn) (ch:=[it]) (fun b L=>?_) (fun b o _ _ hc e _=>k b o (fun z=>hc (by simp[z])) e) (fun b o _ _ hc e _=>⟨o.slots,k b o (fun z=>hc (by simp[z])) e⟩) (fun _ _ _ _ n=>n)
  (fun b o hc e=>⟨o,k b o (fun z=>hc (by simp[z])) e⟩) (fun _ _ e=>e) (fun _ _ _ e=>e) (fun b ps e=>⟨#[],by rw[e];simp⟩) (fun m G=>?_) (fun b u e=>?_) I.bare
 ·have e:b=it:=by simpa using L
  subst e;exact⟨U,hL,S,N⟩
 ·obtain⟨o,Z,ep,ho,r⟩:=G;exact⟨o,Z,ep,k _ o (Ne.symm hL) ho,r⟩
 ·refine(I.hok b u e).stay (fun c v hc q=>k c v ?_ q) (fun _ q=>q) fun _ _ q=>q;rcases hc with z|z
  ·rw[z];exact j b u e
  ·exact j c _ z
theorem aO.tok (I:aO X pins σ H s)(t:Nat):aO X pins σ H {s with toks:=t}:=I.un (h':=s.heap) (t':=t) Un.refl I.hok
theorem aO.kept {t':Nat}(I:aO X pins σ H s)(k:∀b u,s.heap.get? b=some u->h'.get? b=some u):aO X pins σ H {s with heap:=h',toks:=t'}:=I.un (Un.kept k) (I.hok.kept k)
theorem aO.laid {a:Addr}{o:HO}{t':Nat}(I:aO X pins σ H s)(k:∀b u,s.heap.get? b=some u->h'.get? b=some u)(j:s.heap.objs.size<=a)(new:bY X.prog X.w (upd H a o) h' a o) :
  aO X pins σ (upd H a o) {s with heap:=h',toks:=t'}:=I.un (Un.laid k j (I.hok.fresh j)) (I.hok.laid k j new)
theorem aO.write {x e:Addr}{o:HO}{t':Nat}(I:aO X pins σ H s)(q:RE (H x))(B:e=x∨H e=some (.own x))(k:∀b u,b≠e->s.heap.get? b=some u->h'.get? b=some u)(j:∃u,h'.get? e=some u)
  (new:bY X.prog X.w (upd H x o) h' x o):aO X pins σ (upd H x o) {s with heap:=h',toks:=t'}:=I.un (Un.write q B k j) (I.hok.write q B k j new)
theorem aO.pins_of {j:cW}(I:aO X pins σ H s)(h:∀p∈j,s.heap.get? p.1=some p.2/\H p.1=none/\p.1≠X.env.locals/\p.1∉X.fs/\∀v,p.2.data≠.cell v):aO X j σ H s :=
 ⟨I.ok,I.os,I.bare,I.base,I.loc,I.cell,I.free,I.freeC,fun p q=>(List.mem_append.mp q).elim (fun z=>I.pin p (List.mem_append_left _ z)) (h p),I.hok,I.len⟩
theorem AA {N:aW}(q:N.Nodup){i j:Nat}{x:Str}(a:N[i]?=some x)(b:N[j]?=some x):i=j:=by obtain⟨L,G⟩:=List.getElem?_eq_some_iff.mp a;obtain⟨I,B⟩:=List.getElem?_eq_some_iff.mp b;exact(List.getElem_inj q).mp (G.trans B.symm)
theorem vA {M:Model}{A:Around}{E:cE}{i:Nat}{x:Str}{v:V}{u:Value}{Q:Unit->Shared->Prop}(I:aO X pins σ H s)(hN:X.N.Nodup)(hi:X.N[i]?=some x)(S:RK X.env.scope x)(r:aT v u)
  (h:∀s',aO X pins (σ.set i (some v)) H s'->(∃a,Heap.SameBut a s.heap s'.heap/\(a=X.env.locals∨X.env.cells.lookup x=some a))->Q () s') (hf:X.fn x=true∨X.env.scope.names.lookup x=some .local:=by first|exact .inl rfl|exact .inr rfl|assumption):wpAny M A (storeName X.env x u) Q E s:=by
 obtain⟨m,hn,hl⟩:=id I.loc;have hcls:(X.env.scope.kind == .class || (X.env.scope.kind == .module && X.env.locals != X.env.globals))=false:=by rw[I.ok.kind];rfl
 have hiσ:i<σ.length:=by rw[I.len];exact(List.getElem?_eq_some_iff.mp hi).1
 have cne:=I.cne;have G:∀{a:Addr} {h':Heap},(∃o,s.heap.get? a=some o/\H a=none)->Heap.SameBut a s.heap h'->gR X.prog X.w H h':=fun {a h'} ha B b ob e=>by
  obtain⟨_,_,U⟩:=ha;refine(I.hok b ob e).stay (fun c w' hc q=>(B.2 c ?_).trans q) (fun _ q=>q) fun _ _ q=>q;rintro rfl;rcases hc with rfl|hc
  ·rw[U]at e;cases e
  ·rw[U]at hc;cases hc
 rcases S with hk|hk
 ·refine wpAny_storeName_local hk hn (fun h' hn' B=>?_) hcls;obtain⟨oL,_,_,hoL,_⟩:=id hn;refine h _ ⟨I.ok,I.os,I.bare,⟨fun b o e n hb S=>?_,fun b o e n hb S=>?_,I.base.free,fun b o e S=>?_,I.base.tups,I.base.frzs,I.base.tbls⟩,⟨_,hn',fun j y v' L Z e3=>?_⟩,fun y c e=>?_,I.free,I.freeC,fun p hp=>?_,G ⟨oL,hoL,I.free⟩ B,by simpa using I.len⟩ ⟨_,B,.inl rfl⟩
  ·exact(B.2 b (Nat.ne_of_lt (Nat.lt_of_lt_of_le (Heap.lt_size e) I.ok.above))).trans (I.base.keep b o e n hb S)
  ·obtain⟨sl,L⟩:=I.base.slot b o e n hb S;exact⟨sl,(B.2 b (Nat.ne_of_lt (Nat.lt_of_lt_of_le (Heap.lt_size e) I.ok.above))).trans L⟩
  ·obtain⟨o',L⟩:=I.base.there b o e S;exact⟨o',(B.2 b (Nat.ne_of_lt (Nat.lt_of_lt_of_le (Heap.lt_size e) I.ok.above))).trans L⟩
  ·by_cases hj:j=i
   ·subst hj;rw[hi]at L;cases L;rw[List.getElem?_set_self hiσ]at Z;cases Z;exact⟨u,r,.inl ⟨hk,by simp⟩⟩
   ·rw[List.getElem?_set_ne (Ne.symm hj)]at Z;obtain⟨u',r',q⟩:=hl j y v' L Z e3;refine⟨u',r',?_⟩;rcases q with⟨k,e⟩|⟨k,c,e,z⟩
    ·refine .inl ⟨k,?_⟩;have:y≠x:=fun e=>hj (AA hN L (e ▸ hi));simp[this,e]
    ·exact .inr ⟨k,c,e,z.sameBut B (cne y c e)⟩
  ·obtain⟨w',z⟩:=I.cell y c e;exact⟨w',z.sameBut B (cne y c e)⟩
  ·obtain⟨e,n,ne,nf,d⟩:=I.pin p hp;exact⟨(B.2 p.1 ne).trans e,n,ne,nf,d⟩
 ·have hfn:X.fn x=true:=by
   rcases hf with z|z
   ·exact z
   ·rw[z]at hk;cases hk
  obtain⟨c,hc⟩:=I.ok.has x (.inl hk);obtain⟨w',z⟩:=I.cell x c hc;refine wpAny_storeName_cell I.ok.kind hk hc z (fun h' hc' B=>?_);obtain⟨oc,hoc,hocd⟩:=id z;refine h {s with heap:=h'} ⟨I.ok,I.os,I.bare,⟨fun b o e n hb S=>?_,fun b o e n hb S=>?_,I.base.free,fun b o e S=>?_,I.base.tups,I.base.frzs,I.base.tbls⟩,⟨m,hn.sameBut B (Ne.symm (cne x c hc)),fun j y v' L Z e3=>?_⟩,fun y c' e=>?_,I.free,I.freeC,fun p hp=>?_,G ⟨oc,hoc,I.freeC x c hc⟩ B,by simpa using I.len⟩ ⟨c,B,.inr hc⟩
  ·exact(B.2 b (Nat.ne_of_lt (Nat.lt_of_lt_of_le (Heap.lt_size e) (I.ok.cab x c hfn hc)))).trans (I.base.keep b o e n hb S)
  ·obtain⟨sl,L⟩:=I.base.slot b o e n hb S;exact⟨sl,(B.2 b (Nat.ne_of_lt (Nat.lt_of_lt_of_le (Heap.lt_size e) (I.ok.cab x c hfn hc)))).trans L⟩
  ·obtain⟨o',L⟩:=I.base.there b o e S;exact⟨o',(B.2 b (Nat.ne_of_lt (Nat.lt_of_lt_of_le (Heap.lt_size e) (I.ok.cab x c hfn hc)))).trans L⟩
  ·by_cases hj:j=i
   ·subst hj;rw[hi]at L;cases L;rw[List.getElem?_set_self hiσ]at Z;cases Z;exact⟨u,r,.inr ⟨.inl hk,c,hc,hc'⟩⟩
   ·rw[List.getElem?_set_ne (Ne.symm hj)]at Z;obtain⟨u',r',q⟩:=hl j y v' L Z e3;refine⟨u',r',?_⟩;rcases q with q|⟨k,c',e,z'⟩
    ·exact .inl q
    ·refine .inr ⟨k,c',e,z'.sameBut B ?_⟩;rintro rfl;exact hj (AA hN L (I.ok.inj _ _ _ e hc ▸ hi))
  ·by_cases hcc:c'=c
   ·subst hcc;exact⟨_,hc'⟩
   ·obtain⟨w2,z2⟩:=I.cell y c' e;exact⟨w2,z2.sameBut B hcc⟩
  ·obtain⟨e,n,ne,nf,d⟩:=I.pin p hp;refine⟨(B.2 p.1 ?_).trans e,n,ne,nf,d⟩;intro q;rw[q,hoc]at e;have q':oc=p.2:=Option.some.inj e;exact d w' (by rw[←q'];exact hocd)
theorem zI {M:Model}{A:Around}{E:cE}{i:Nat}{x:Str}{v:V}{u:Value}{Q:Unit->Shared->Prop}(I:aO X pins σ H s)(L:X.N.Nodup)(B:X.N[i]?=some x)(q:RK X.env.scope x)(r:aT v u)
  (h:∀j,aO X pins (σ.set i (some v)) H j->Q () j) (G:X.fn x=true∨X.env.scope.names.lookup x=some .local:=by first|exact .inl rfl|exact .inr rfl|assumption):wpAny M A (storeName X.env x u) Q E s :=
 vA I L B q r (fun j S _=>h j S) G
theorem aO.call' {j:Shared}{ch:List Addr}(I:aO X pins σ H s)(ho:j.os=s.os)(u:Un (frs X.stack) ch H H' s.heap j.heap)(hok:gR X.prog X.w H' j.heap)(G:AllBare j.gens)
  (q:∀b∈ch,(b∈X.ex∨X.s₀.heap.objs.size<=b)/\b≠X.env.locals/\(∀x c,X.env.cells.lookup x=some c->c≠b)/\∀p∈X.pn++pins,p.1≠b):aO X pins σ H' j:=by
 obtain⟨h',g',d',t',B⟩:=j;have e:B=s.os:=ho;subst e;exact I.call (g':=g') (t':=t') (d':=d') u hok G q
end
noncomputable abbrev XK:=Value->Option Addr->Hp->Prop
noncomputable abbrev St:=List (Option V)
noncomputable abbrev VK:=V->Hp->Prop
noncomputable abbrev TE:=St->Hp->VK->Prop
noncomputable abbrev TT:=St->Hp->(Bool->Hp->Prop)->Prop
noncomputable abbrev TA:=St->Hp->(List V->Hp->Prop)->Prop
structure iN where
 nx:St->Hp->Prop
 rt:VK
 bk:St->Hp->Prop:=fun _ _=>False
 ct:St->Hp->Prop:=fun _ _=>False
noncomputable abbrev TS:=iN->St->Hp->Prop
noncomputable def EP (X:Cx)(j:cW)(σ:St)(Q:VK)(u:Value)(q:Shared):Prop:=∃v H',aO X j σ H' q/\aT v u/\Q v H'
noncomputable def TP (X:Cx)(j:cW)(σ:St)(Q:Bool->Hp->Prop)(b:Bool)(q:Shared):Prop:=∃H',aO X j σ H' q/\Q b H'
noncomputable def AP (X:Cx)(j:cW)(σ:St)(Q:List V->Hp->Prop)(us:bZ)(q:Shared):Prop:=∃vs H',aO X j σ H' q/\aR vs us/\Q vs H'
noncomputable def SP (X:Cx)(j:cW)(D:iN)(f:Flow)(B:Shared):Prop :=
 match f with
 | .next=>∃q H',aO X j q H' B/\D.nx q H'
 | .brk=>∃q H',aO X j q H' B/\D.bk q H'
 | .cont=>∃q H',aO X j q H' B/\D.ct q H'
 | .ret u=>∃v q H',aO X j q H' B/\aT v u/\D.rt v H'
noncomputable def PE (X:Cx)(e:Expr)(t:TE):Prop :=
 ∀(j:cW) (s:Shared) (σ:St) (H:Hp) (Q:VK),aO X j σ H s->t σ H Q->wpAny (model X.prog X.w) X.A (eval e X.env) (EP X j σ Q) X.xe s
noncomputable def PT (X:Cx)(e:Expr)(t:TT):Prop :=
 ∀(j:cW) (s:Shared) (σ:St) (H:Hp) (Q:Bool->Hp->Prop),aO X j σ H s->t σ H Q->wpAny (model X.prog X.w) X.A (isTrue e X.env (eval e X.env)) (TP X j σ Q) X.xe s
noncomputable def PW (X:Cx)(e:Expr)(t:TT):Prop :=
 ∀(j:Sem Value) (pins:cW) (s:Shared) (σ:St) (H:Hp) (Q:Bool->Hp->Prop),aO X pins σ H s->t σ H Q->wpAny (model X.prog X.w) X.A (isTrue e X.env j) (TP X pins σ Q) X.xe s
theorem PW.pt {X:Cx}{e:Expr}{t:TT}(h:PW X e t):PT X e t:=h _
noncomputable def PA (X:Cx)(q:kU)(t:TA):Prop :=
 ∀(j:Pos) (pins:cW) (s:Shared) (σ:St) (H:Hp) (Q:List V->Hp->Prop),aO X pins σ H s->t σ H Q->wpAny (model X.prog X.w) X.A (spliced (backTo j (starEach q X.env))) (AP X pins σ Q) X.xe s
noncomputable def PS (X:Cx)(st:Stmt)(t:TS):Prop :=
 ∀(j:cW) (s:Shared) (σ:St) (H:Hp) (D:iN),aO X j σ H s->t D σ H->wpAny (model X.prog X.w) X.A (exec st X.env) (SP X j D) X.xe s
noncomputable def BJ (X:Cx)(st:List Stmt)(t:TS):Prop :=
 ∀(j:cW) (s:Shared) (σ:St) (H:Hp) (D:iN),aO X j σ H s->t D σ H->wpAny (model X.prog X.w) X.A (execs st X.env) (SP X j D) X.xe s
theorem thn {α:Type}{t:Sem α}{Q j:α->Shared->Prop}{M:Model}{A:Around}{E:cE}{s:Shared}(h:wpAny M A t Q E s)(q:∀a s,Q a s->j a s):wpAny M A t j E s:=wpAny_mono h q fun _ _ x=>x
section
variable {X:Cx}
theorem bin {a b:Expr}{L G:TE}(ha:PE X a L)(hb:PE X b G){j:cW}{s:Shared}{σ:St}{H:Hp}{R:V->V->Hp->Prop}(I:aO X j σ H s)(h:L σ H fun x B=>G σ B fun y q=>R x y q)
  {α:Type} {Q:α->Shared->Prop} {f:Value->Value->Sem α}
  (hf:∀v u s2 x y q,aO X j σ q s2->aT x v->aT y u->R x y q->wpAny (model X.prog X.w) X.A (f v u) Q X.xe s2) :
  wpAny (model X.prog X.w) X.A (eval a X.env) (fun v S=>wpAny (model X.prog X.w) X.A (eval b X.env) (fun u N=>wpAny (model X.prog X.w) X.A (f v u) Q X.xe N) X.xe S) X.xe s:=by
 refine thn (ha j s σ H _ I h) fun v U ⟨x,B,I1,r1,q1⟩=>?_;refine thn (hb j U σ B _ I1 q1) fun u s2 ⟨y,q,I2,Z,q2⟩=>?_;exact hf v u s2 x y q I2 r1 Z q2
noncomputable def tVar (i:Nat):TE:=fun σ H Q=>∃v,σ[i]?=some (some v)/\Q v H
noncomputable def tC (v:V):TE:=fun _ H Q=>Q v H
theorem IJ {i:Nat}{x:Str}{G:Pos}(hN:X.N[i]?=some x)(S:RI X.env.scope x)(hd:(x == ("__debug__" : Str))=false:=by decide)(L:(x == ("__classdict__" : Str))=false:=by decide):PE X (.Name x G) (tVar i):=by
 intro B s σ H Q I h;obtain⟨v,e,h⟩:=h;obtain⟨m,U,hl⟩:=I.loc;obtain⟨u,r,l⟩:=hl i x v hN e S;have fin:EP X B σ Q u s:=⟨v,H,I,r,h⟩
 rcases l with⟨q,Z⟩|⟨q,c,hc,j⟩
 ·exact wpAny_Name (wpAny_loadName_local I.ok.kind q U Z fin) hd
 ·rcases q with q|q
  ·exact wpAny_Name (wpAny_loadName_cell I.ok.kind q hc j fin) hd
  ·exact wpAny_Name (wpAny_loadName_free I.ok.kind q hc j fin L) hd
theorem aJ {i j pos}:PE X (.Constant (.int i) j pos) (tC (.int i)):=fun _ _ _ H _ I h=>wpAny_Constant_int ⟨.int i,H,I.tok _,⟨_,rfl⟩,h⟩
theorem qH {b j pos}:PE X (.Constant (.bool b) j pos) (tC (.bl b)):=fun _ _ _ H _ I h=>Constant_bool ⟨.bl b,H,I,rfl,h⟩
theorem xS {j pos}:PE X (.Constant .none j pos) (tC .non):=fun _ _ _ H _ I h=>Constant_none ⟨.non,H,I,rfl,h⟩
theorem gM {x j pos}:PE X (.Constant (.str x) j pos) (tC (.str x)):=fun _ _ _ H _ I h=>Calls.Constant_str ⟨.str x,H,I.tok _,⟨_,rfl⟩,h⟩
noncomputable def Gl (X:Cx)(x:Str):Prop:=X.env.kindOf x=some .globalImplicit
theorem n9 {E:cE}{j:cW}{s:Shared}{σ:St}{H:Hp}{x:Str}{u:Value}{q:Pos}{Q:cE}(I:aO X j σ H s)(G:Gl X x)(B:X.mg x=some u)(h:Q u s)
  (hd:(x == ("__debug__" : Str))=false:=by decide):wpAny (model X.prog X.w) X.A (eval (.Name x q) X.env) Q E s :=
 Calls.Name_function_global I.ok.kind G (Calls.loadGlobal_global (by rw[I.ok.glob];exact I.mod.glob.keeps I.bk) B h) hd
theorem mX {E:cE}{j:cW}{s:Shared}{σ:St}{H:Hp}{x:Str}{u:Value}{q:Pos}{Q:cE}(I:aO X j σ H s)(N:Gl X x)(L:X.mg x=none)(B:bootBuiltins x=some u)(h:Q u s)
  (G:x≠"__name__":=by decide) (hd:(x == ("__debug__" : Str))=false:=by decide):wpAny (model X.prog X.w) X.A (eval (.Name x q) X.env) Q E s:=by
 obtain⟨Z,U,S⟩:=I.mod.blt;exact Calls.Name_function_global I.ok.kind N (Calls.loadGlobal_builtin (by rw[I.ok.glob];exact I.mod.glob.keeps I.bk) L (by rw[I.ok.blt];exact U.keeps I.bk) ((S x G).trans B) h) hd
theorem LV {x:Str}{v:V}{u:Value}{j:Pos}(B:Gl X x)(q:X.mg x=some u)(r:aT v u)(hd:(x == ("__debug__" : Str))=false:=by decide):PE X (.Name x j) (tC v) :=
 fun _ _ _ H _ I h=>n9 I B q ⟨v,H,I,r,h⟩ hd
theorem bU {x:Str}{v:V}{u:Value}{j:Pos}(L:Gl X x)(G:X.mg x=none)(q:bootBuiltins x=some u)(r:aT v u)(B:x≠"__name__":=by decide)(hd:(x == ("__debug__" : Str))=false:=by decide):PE X (.Name x j) (tC v) :=
 fun _ _ _ H _ I h=>mX I L G q ⟨v,H,I,r,h⟩ B hd
variable {a b:Expr}{ta tb:TE}{pos:Pos}
variable {tA tB':TT}{rest:kU}
noncomputable def tAnd (t u:TT):TT:=fun σ H Q=>t σ H fun c j=>if c=true then u σ j Q else Q false j
noncomputable def tOr (t u:TT):TT:=fun σ H Q=>t σ H fun c j=>if c=true then Q true j else u σ j Q
noncomputable def tNot (t:TT):TT:=fun σ H Q=>t σ H fun c j=>Q (!c) j
theorem nU (q:PT X a tA):PW X (.BoolOp .And [a] pos) tA:=by
 intro B j s σ H Q I h;refine isTrue_and (thn (q j s σ H Q I h) fun c G e=>?_);cases c with
 | true=>exact isTrue_and_nil e
 | false=>exact e
theorem h8 (q:PT X a tA):PW X (.BoolOp .Or [a] pos) tA:=by
 intro B j s σ H Q I h;refine isTrue_or (thn (q j s σ H Q I h) fun c G e=>?_);cases c with
 | false=>exact isTrue_or_nil e
 | true=>exact e
theorem rZ (U:PT X a tA)(S:PW X (.BoolOp .And (b::rest) pos) tB'):PW X (.BoolOp .And (a::b::rest) pos) (tAnd tA tB'):=by
 intro L j s σ H Q I h;refine isTrue_and (thn (U j s σ H _ I h) fun c N ⟨G,B,q⟩=>?_);cases c with
 | true=>exact S L j N σ G Q B q
 | false=>exact⟨G,B,q⟩
theorem iU (U:PT X a tA)(S:PW X (.BoolOp .Or (b::rest) pos) tB'):PW X (.BoolOp .Or (a::b::rest) pos) (tOr tA tB'):=by
 intro L j s σ H Q I h;refine isTrue_or (thn (U j s σ H _ I h) fun c N ⟨G,B,q⟩=>?_);cases c with
 | true=>exact⟨G,B,q⟩
 | false=>exact S L j N σ G Q B q
theorem dC (q:PT X a tA):PT X (.UnaryOp .Not a pos) (tNot tA):=by intro j s σ H Q I h;exact isTrue_not (q j s σ H (fun c B=>Q (!c) B) I h)
noncomputable def tAndV (B q:TE):TE:=fun σ H Q=>B σ H fun x j=>∃c,x = .bl c/\if c=true then q σ j Q else Q (.bl false) j
noncomputable def tOrV (B q:TE):TE:=fun σ H Q=>B σ H fun x j=>∃c,x = .bl c/\if c=true then Q (.bl true) j else q σ j Q
noncomputable def tNotV (j:TE):TE:=fun σ H Q=>j σ H fun x q=>∃c,x = .bl c/\Q (.bl (!c)) q
theorem CA {op}{t:TE}(h:PE X a t):PE X (.BoolOp op [a] pos) t:=fun j s σ H Q I q=>BoolOp_one (h j s σ H Q I q)
theorem IO (S:PE X a ta)(N:PE X (.BoolOp .And (b::rest) pos) tb):PE X (.BoolOp .And (a::b::rest) pos) (tAndV ta tb):=by
 intro j s σ H Q I h;refine BoolOp_and (thn (S j s σ H _ I h) fun v L ⟨x,G,B,r1,q⟩=>?_);obtain⟨c,rfl,q⟩:=q;cases r1;refine wpAny_truthy_bool ?_;cases c with
 | true=>exact N j L σ G Q B q
 | false=>exact⟨.bl false,G,B,rfl,q⟩
theorem QX (S:PE X a ta)(N:PE X (.BoolOp .Or (b::rest) pos) tb):PE X (.BoolOp .Or (a::b::rest) pos) (tOrV ta tb):=by
 intro j s σ H Q I h;refine BoolOp_or (thn (S j s σ H _ I h) fun v L ⟨x,G,B,r1,q⟩=>?_);obtain⟨c,rfl,q⟩:=q;cases r1;refine wpAny_truthy_bool ?_;cases c with
 | false=>exact N j L σ G Q B q
 | true=>exact⟨.bl true,G,B,rfl,q⟩
theorem O5 (B:PE X a ta):PE X (.UnaryOp .Not a pos) (tNotV ta):=by intro j s σ H Q I h;refine UnaryOp_ (thn (B j s σ H _ I h) fun v N ⟨x,L,G,r1,q⟩=>?_);obtain⟨c,rfl,q⟩:=q;cases r1;exact not_of (wpAny_truthy_bool ⟨.bl (!c),L,G,rfl,q⟩)
noncomputable def tIf (t:TT)(B q:TE):TE:=fun σ H Q=>t σ H fun c j=>if c=true then B σ j Q else q σ j Q
theorem sC {c:Expr}(hc:PT X c tA)(S:PE X a ta)(N:PE X b tb):PE X (.IfExp c a b pos) (tIf tA ta tb):=by
 intro j s σ H Q I h;refine wpAny_IfExp (thn (hc j s σ H _ I h) fun d q ⟨L,G,B⟩=>?_);cases d with
 | true=>exact S j q σ L Q G B
 | false=>exact N j q σ L Q G B
end
noncomputable def fA (K:PySem.W.Frag)(H:Hp)(a:Addr)(xs:List V):Prop :=
 Rd H a (.lst xs) ∨
  ∃(o:Obj) (its:i4) (n:Nat),K.lookup a=some o/\o.cls = .type "list"/\o.dict=none/\o.data = .seq its n/\its.size<=sizeLine/\aR xs its.toList
noncomputable def hZ (K:PySem.W.Frag)(H:Hp)(a:Addr)(xs:List V):Prop :=
 Rd H a (.tup xs) ∨
  ∃(o:Obj) (its:i4) (n:Nat),K.lookup a=some o/\o.cls = .type "tuple"/\o.data = .seq its n/\its.size<=sizeLine/\aR xs its.toList
noncomputable def absV:Value->Option V
 | .none=>some .non
 | .bool b=>some (.bl b)
 | .int i _=>some (.int i)
 | .str x _=>some (.str x)
 | .bytes b _=>some (.byt b)
 | .float b _=>some (.flt b)
 | .ref a=>some (.ref a)
 | .type n=>some (.ty n)
 | _=>none
theorem aT.abs {x:V}{u:Value}(r:aT x u):absV u=some x:=by
 cases x with
 | non=>cases r;rfl
 | bl _=>cases r;rfl
 | int _=>obtain⟨t,rfl⟩:=r;rfl
 | str _=>obtain⟨t,rfl⟩:=r;rfl
 | byt _=>obtain⟨t,rfl⟩:=r;rfl
 | flt _=>obtain⟨t,rfl⟩:=r;rfl
 | ref _=>cases r;rfl
 | ty _=>cases r;rfl
theorem aT.inj {x y:V}{u:Value}(r:aT x u)(q:aT y u):x=y:=Option.some.inj (r.abs.symm.trans q.abs)
theorem aR.inj:∀{xs ys:List V} {us:bZ},aR xs us->aR ys us->xs=ys
 | _,_,_,.nil,.nil=>rfl
 | _,_,_,.cons r t,.cons j t'=>by rw[r.inj j,aR.inj t t']
section
variable {X:Cx}{pins:cW}{σ:St}{H:Hp}{s:Shared}{a:Addr}{xs ys:List V}
theorem fA.of {K:PySem.W.Frag}(h:H a=some (.lst xs)):fA K H a xs:=.inl (.inl h)
theorem hZ.of {K:PySem.W.Frag}(h:H a=some (.tup xs)):hZ K H a xs:=.inl (.inl h)
theorem aO.list (I:aO X pins σ H s)(h:fA X.K H a xs):∃its:bZ,aR xs its/\PlainL s.heap a its.toArray/\xs.length<=sizeLine:=by
 rcases h with h|⟨o,its,n,q,hc,hd,j,hz,r⟩
 ·obtain⟨z,its,n,r,e⟩:=h.ok I.hok;exact⟨its,r,⟨_,n,e,rfl,rfl,rfl⟩,z⟩
 ·refine⟨its.toList,r,⟨o,n,I.kIn a o q,hc,hd,by simpa using j⟩,?_⟩;have e:=r.length;simp only[Array.length_toList]at e;omega
theorem aO.tuple (I:aO X pins σ H s)(h:hZ X.K H a xs):∃its:bZ,aR xs its/\IsTup s.heap a its.toArray/\xs.length<=sizeLine:=by
 rcases h with h|⟨o,its,n,q,hc,j,hz,r⟩
 ·obtain⟨z,its,r,p⟩:=h.ok I.hok;exact⟨its,r,p,z⟩
 ·refine⟨its.toList,r,⟨o,I.kIn a o q,hc,n,by simpa using j⟩,?_⟩;have e:=r.length;simp only[Array.length_toList]at e;omega
theorem aO.list_inj (I:aO X pins σ H s)(h:fA X.K H a xs)(h':fA X.K H a ys):xs=ys:=by
 obtain⟨its,r,⟨o,n,e,_,_,d⟩,_⟩:=I.list h;obtain⟨its',q,⟨G,L,j,_,_,d'⟩,_⟩:=I.list h';rw[e]at j;cases j;rw[d]at d';injection d' with B _;have:its=its':=by simpa using congrArg Array.toList B
 subst this;exact r.inj q
theorem aO.tuple_inj (I:aO X pins σ H s)(h:hZ X.K H a xs)(h':hZ X.K H a ys):xs=ys:=by
 obtain⟨its,r,⟨o,e,_,n,d⟩,_⟩:=I.tuple h;obtain⟨its',q,⟨G,j,_,L,d'⟩,_⟩:=I.tuple h';rw[e]at j;cases j;rw[d]at d';injection d' with B _;have:its=its':=by simpa using congrArg Array.toList B
 subst this;exact r.inj q
end
noncomputable abbrev Cx.wish (X:Cx)(E:cE):Cx:={X with xe:=E}
noncomputable abbrev Cx.nox (X:Cx):Cx:=X.wish fun _ _=>False
theorem Cx.Ok.wish {X:Cx}(ok:X.Ok)(E:cE):(X.wish E).Ok :=
 ⟨ok.mod,ok.kind,ok.glob,ok.blt,ok.above,ok.inj,ok.has,ok.cab,ok.hd,ok.frames,ok.stk,ok.exf,ok.bs,ok.bsz,ok.noex,ok.exfs,ok.funs,ok.frf⟩
theorem Cx.Ok.unwish {X:Cx}{E:cE}(ok:(X.wish E).Ok):X.Ok :=
 ⟨ok.mod,ok.kind,ok.glob,ok.blt,ok.above,ok.inj,ok.has,ok.cab,ok.hd,ok.frames,ok.stk,ok.exf,ok.bs,ok.bsz,ok.noex,ok.exfs,ok.funs,ok.frf⟩
section
variable {X:Cx}{pins:cW}{σ:St}{H:Hp}{s:Shared}{E:cE}
theorem aO.wish (I:aO X pins σ H s)(E:cE):aO (X.wish E) pins σ H s:=⟨I.ok.wish E,I.os,I.bare,I.base,I.loc,I.cell,I.free,I.freeC,I.pin,I.hok,I.len⟩
theorem aO.unwish (I:aO (X.wish E) pins σ H s):aO X pins σ H s:=⟨I.ok.unwish,I.os,I.bare,I.base,I.loc,I.cell,I.free,I.freeC,I.pin,I.hok,I.len⟩
theorem SP.unwish {D:iN}{f:Flow}{B:Shared}(h:SP (X.wish E) pins D f B):SP X pins D f B:=by
 cases f with
 | next=>obtain⟨j,H',I,q⟩:=h;exact⟨j,H',I.unwish,q⟩
 | brk=>obtain⟨j,H',I,q⟩:=h;exact⟨j,H',I.unwish,q⟩
 | cont=>obtain⟨j,H',I,q⟩:=h;exact⟨j,H',I.unwish,q⟩
 | ret u=>obtain⟨v,j,H',I,r,q⟩:=h;exact⟨v,j,H',I.unwish,r,q⟩
theorem BJ.nox {st:List Stmt}{t:TS}(h:BJ X.nox st t):BJ X st t:=fun j s σ H D I B =>
 wpAny_mono (h j s σ H D (I.wish _) B) (fun _ _ q=>q.unwish) fun _ _ z=>False.elim z
end
section
variable {X:Cx}{st:Stmt}{rest:List Stmt}{t u:TS}{e:Expr}{te:TE}{pos:Pos}
noncomputable def tNext:TS:=fun D σ H=>D.nx σ H
noncomputable def tSeq (t u:TS):TS:=fun D σ H=>t {D with nx:=u D} σ H
theorem aU:BJ X [] tNext:=fun _ _ σ H _ I h=>wpAny_execs_nil ⟨σ,H,I,h⟩
theorem aF (N:PS X st t)(L:BJ X rest u):BJ X (st::rest) (tSeq t u):=by
 intro j s σ H D I h;refine wpAny_execs_cons (thn (N j s σ H {D with nx:=u D} I h) fun f G q=>?_);cases f with
 | next =>
  obtain⟨B,H',S,q⟩:=q;exact L j G B H' D S q
 | ret v=>exact q
 | brk=>exact q
 | cont=>exact q
theorem aG (B:PS X st t):BJ X [st] t:=by
 intro j s σ H D I h;refine wpAny_execs_cons (thn (B j s σ H D I h) fun f G q=>?_);cases f with
 | next=>exact wpAny_execs_nil q
 | ret v=>exact q
 | brk=>exact q
 | cont=>exact q
theorem aO.quiet {j:cW}{σ:St}{H:Hp}{s:Shared}(I:aO X j σ H s):interactive X.env=false:=by simp[interactive,I.ok.kind]
noncomputable def tDrop (j:TE):TS:=fun D σ H=>j σ H fun _ q=>D.nx σ q
theorem cJ (G:PE X e te)(B:swapsWith e none pos.line X.env=pure false:=by rfl):PS X (.Expr e pos) (tDrop te):=by intro j s σ H D I h;exact wpAny_Expr_any (thn (G j s σ H _ I h) fun v S ⟨x,N,L,r1,q⟩=>⟨σ,N,L,q⟩) I.quiet B
noncomputable def tRet (j:TE):TS:=fun D σ H=>j σ H D.rt
theorem aQ (B:PE X e te):PS X (.Return (some e) pos) (tRet te):=by intro j s σ H D I h;exact wpAny_Return_some (thn (B j s σ H _ I h) fun v N ⟨x,L,G,r1,q⟩=>⟨x,σ,L,G,r1,q⟩)
noncomputable def tIfS (c:TT)(t u:TS):TS:=fun D σ H=>c σ H fun b j=>if b=true then t D σ j else u D σ j
theorem bK {c:Expr}{a b:List Stmt}{q:TT}(hc:PT X c q)(U:BJ X a t)(S:BJ X b u):PS X (.If c a b pos) (tIfS q t u):=by
 intro j s σ H D I h;refine wpAny_If (thn (hc j s σ H _ I h) fun d B ⟨N,L,G⟩=>?_);cases d with
 | true=>exact U j B σ N D L G
 | false=>exact S j B σ N D L G
noncomputable def tNever:TS:=fun _ _ _=>False
theorem eN:PS X st tNever:=fun _ _ _ _ _ _ h=>h.elim
end
noncomputable abbrev TG:=V->St->Hp->(St->Hp->Prop)->Prop
noncomputable abbrev QI:=List V->St->Hp->(St->Hp->Prop)->Prop
noncomputable def PG (X:Cx)(j:Expr)(t:TG):Prop :=
 ∀(q:cW) (s:Shared) (σ:St) (H:Hp) (v:V) (u:Value) (Q:St->Hp->Prop),aO X q σ H s->aT v u->t v σ H Q ->
  wpAny (model X.prog X.w) X.A (assign j X.env u) (fun _ G=>∃B H',aO X q B H' G/\Q B H') X.xe s
noncomputable def RJ (X:Cx)(ts:kU)(t:QI):Prop :=
 ∀(j:cW) (s:Shared) (σ:St) (H:Hp) (vs:List V) (us:bZ) (Q:St->Hp->Prop),aO X j σ H s->aR vs us->t vs σ H Q ->
  wpAny (model X.prog X.w) X.A (assignInOrder ((assignEach ts X.env).map (·.2)) us) (fun _ B=>∃q H',aO X j q H' B/\Q q H') X.xe s
noncomputable abbrev QH:=V->V->V->Hp->(Hp->Prop)->Prop
noncomputable def RB (X:Cx)(t:QH):Prop :=
 ∀(j:cW) (s:Shared) (σ:St) (H:Hp) (o i v:V) (ov iv u:Value) (Q:Hp->Prop),aO X j σ H s->aT o ov->aT i iv->aT v u->t o i v H Q ->
  wpAny (model X.prog X.w) X.A (setItem ov iv u) (fun _ q=>∃H',aO X j σ H' q/\Q H') X.xe s
section
variable {X:Cx}{pos:Pos}
noncomputable def gName (i:Nat):TG:=fun v σ H Q=>Q (σ.set i (some v)) H
theorem bQ {i:Nat}{x:Str}(L:X.N.Nodup)(B:X.N[i]?=some x)(q:RK X.env.scope x)(G:X.fn x=true∨X.env.scope.names.lookup x=some .local:=by first|exact .inl rfl|exact .inr rfl|assumption):PG X (.Name x pos) (gName i):=by intro j s σ H v u Q I r h;exact wpAny_assign_Name (zI I L B q r (fun U S=>⟨_,H,S,h⟩) G)
noncomputable def gNil:QI:=fun vs σ H Q=>vs=[]/\Q σ H
noncomputable def gCons (t:TG)(u:QI):QI:=fun vs σ H Q=>∃v r,vs=v::r/\t v σ H fun j H'=>u r j H' Q
theorem D2:RJ X [] gNil:=by intro j s σ H vs us Q I r h;obtain⟨e,h⟩:=h;subst e;cases r;exact assignInOrder_nil ⟨σ,H,I,h⟩
theorem nX {e:Expr}{q:kU}{t:TG}{u:QI}(Z:PG X e t)(U:RJ X q u)
  (S:(assignEach (e::q) X.env).map (·.2)=assign e X.env::(assignEach q X.env).map (·.2):=by rfl):RJ X (e::q) (gCons t u):=by
 intro j s σ H vs us Q I r h;obtain⟨v,vr,e1,h⟩:=h;subst e1;cases r with
 | cons r L =>
  rw[S];refine assignInOrder_cons (thn (Z j s σ H _ _ _ I r h) fun _ G ⟨B,H1,I1,N⟩=>?_);exact U j G B H1 _ _ Q I1 L N
noncomputable def gTup (K:PySem.W.Frag)(n:Nat)(t:QI):TG:=fun v σ H Q=>∃a xs,v = .ref a/\hZ K H a xs/\xs.length=n/\t xs σ H Q
theorem IH {q:kU}{k:Nat}{t:QI}{n:Nat}(hc:X.calm=true)(h:RJ X q t)
  (Z:(assignEach q X.env).length=n:=by rfl) (G:(assignEach q X.env).findIdx? (·.1)=none:=by rfl):PG X (.Tuple q k pos) (gTup X.K n t):=by
 intro j s σ H v u Q I r B;obtain⟨a,xs,e1,U,hl,B⟩:=B;subst e1;cases r;obtain⟨its,L,S,hz⟩:=I.tuple U;refine assign_Tuple_tuple (I.ok.hd hc) S (by simp[Z,←hl,L.length]) G fun h' N=>?_;have I1:aO X j σ H {s with heap:=h'}:=I.kept (t':=s.toks) fun b o e=>N b o (Nat.ne_of_lt (Heap.lt_size e)) e;exact h j _ σ H xs _ Q I1 (by simpa using L) B
noncomputable def gSub (j q:TE)(t:QH):TG:=fun v σ H Q=>j σ H fun o I=>q σ I fun i G=>t o i v G fun B=>Q σ B
theorem II {o i:Expr}{G L:TE}{t:QH}(ho:PE X o G)(hi:PE X i L)(hs:RB X t)
  (ha:∀v,assign (.Subscript o i pos) X.env v=(do
   let q ←holding [v] (eval o X.env)
   let B ←holding [v,q] (eval i X.env)
   standAt pos
   holding [v,q,B] (setItem q B v)
   release [v,q,B] []):=by intro _;rfl):PG X (.Subscript o i pos) (gSub G L t):=by
 intro j s σ H v u Q I r h;rw[ha];refine wpAny_bind (wpAny_holding (thn (ho j s σ H _ I h) fun q N ⟨x,H1,I1,r1,q1⟩=>?_));refine wpAny_bind (wpAny_holding (thn (hi j N σ H1 _ I1 q1) fun B s2 ⟨y,H2,I2,S,Z⟩=>?_));refine wpAny_bind (wpAny_standAt (wpAny_bind (wpAny_holding (thn (hs j s2 σ H2 x y v q B u _ I2 r1 S r Z) fun _ s3 ⟨H3,I3,U⟩=>?_))));exact wpAny_release ⟨σ,H3,I3,U⟩
noncomputable def tAsg (j:TE)(g:TG):TS:=fun D σ H=>j σ H fun x q=>g x σ q D.nx
theorem sA {B e:Expr}{G:TE}{g:TG}(he:PE X e G)(Z:PG X B g)(U:swapsWithSole [B] e pos.line X.env=pure false:=by rfl)(S:swappedStores [B] e X.env=pure none:=by rfl)
  (h1:(assignEach [B] X.env).map (·.2)=[assign B X.env]:=by rfl):PS X (.Assign [B] e pos) (tAsg G g):=by
 intro j s σ H D I h;refine wpAny_Assign_stores (thn (he j s σ H _ I h) fun v L ⟨x,H1,I1,r1,N⟩=>?_) U S;rw[h1];exact thn (Z j L σ H1 x v _ I1 r1 N) fun _ s2 q=>q
theorem aY {i:Nat}{x:Str}{e:Expr}{B:TE}{j:Pos}(hN:X.N.Nodup)(U:X.N[i]?=some x)(L:RK X.env.scope x)(he:PE X e B)(S:swapsWith e (some (.Name x j)) pos.line X.env=pure false:=by rfl)(Z:X.fn x=true∨X.env.scope.names.lookup x=some .local:=by first|exact .inl rfl|exact .inr rfl|assumption) :
  PS X (.Assign [.Name x j] e pos) (tAsg B (gName i)):=by
 intro q s σ H D I h;refine wpAny_Assign_Name (thn (he q s σ H _ I h) fun v s1 ⟨y,H1,I1,r1,G⟩=>?_) S;exact zI I1 hN U L r1 (fun s2 I2=>⟨_,H1,I2,G⟩) Z
noncomputable def wX (c:TT)(G:TS):TS:=fun D σ H=>∃W:Nat->St->Hp->Prop,(∃m,W m σ H)/\∀m σ H,W m σ H ->
 c σ H fun b B=>if b=true then ∃N:St->Hp->Prop,(∀j H',N j H'->∃q,q<m/\W q j H')/\G {D with nx:=N,ct:=N,bk:=D.nx} σ B else D.nx σ B
theorem nV {c:Expr}{body:List Stmt}{tc:TT}{tb:TS}(hp:PassesOwn (model X.prog X.w) X.A X.env X.xe)(hc:PT X c tc)(hb:BJ X body tb):PS X (.While c body [] pos) (wX tc tb):=by
 intro j s σ H D I h;obtain⟨W,⟨m0,w0⟩,turn⟩:=h;refine wpAny_While (codeAny_whileLoop (fun n s'=>∃σ' H',aO X j σ' H' s'/\W n σ' H') ?_ m0 ⟨σ,H,I,w0⟩);rintro n s1 ⟨G,H1,I1,w1⟩;refine wpAny_passesOwn hp (thn (hc j s1 G H1 _ I1 (turn n G H1 w1)) fun b s2 ⟨H2,I2,S⟩=>?_);cases b with
 | true =>
  obtain⟨N,hN,S⟩:=S;rw[if_pos rfl];refine wpAny_passesOwn hp (thn (hb j s2 G H2 _ I2 S) fun f s3 L=>?_);cases f with
  | next =>
   obtain⟨q,B,I3,n3⟩:=L;obtain⟨Z,hm,U⟩:=hN q B n3;exact⟨Z,hm,q,B,I3,U⟩
  | cont =>
   obtain⟨q,B,I3,n3⟩:=L;obtain⟨Z,hm,U⟩:=hN q B n3;exact⟨Z,hm,q,B,I3,U⟩
  | brk=>exact L
  | ret v=>exact L
 | false =>
  rw[if_neg Bool.false_ne_true];exact wpAny_execs_nil ⟨G,H2,I2,S⟩
end
structure It where
 go:Nat->Hp->Prop
 yld:Nat->Hp->V->Hp->Prop
 stop:Nat->Hp->Prop
noncomputable def fK (X:Cx)(j:cW)(H:Hp)(b:Addr):Prop :=
 H b=none/\b≠X.env.locals/\b∉X.fs/\(b∈X.ex∨X.s₀.heap.objs.size<=b)/\(∀x c,X.env.cells.lookup x=some c->c≠b)/\∀p∈X.pn++j,p.1≠b
theorem aO.fpOk {X:Cx}{j:cW}{σ:St}{H H':Hp}{s:Shared}{b:Addr}(I:aO X j σ H s)(B:s.heap.objs.size<=b)(L:H' b=none):fK X j H' b:=by
 refine⟨L,Nat.ne_of_gt (Nat.lt_of_lt_of_le I.lt B),I.nofs B,.inr (Nat.le_trans I.sz B),fun x c e z=>?_,fun p G z=>?_⟩
 ·obtain⟨v,q⟩:=I.cell x c e;exact absurd (Nat.lt_of_lt_of_le q.lt (by rw[z];exact B)) (Nat.lt_irrefl _)
 ·exact absurd (Nat.lt_of_lt_of_le (Heap.lt_size (I.pin p G).1) (by rw[z];exact B)) (Nat.lt_irrefl _)
structure m8 (P:Program)(w:World)(K:PySem.W.Frag)(tg:Expr)(J:It)(fp:List Addr)(it:Addr)(tn:KN):Prop where
 mem:it∈fp
 obj:∀i h,tn i h->∀b∈fp,∃o,h.get? b=some o/\∀v,o.data≠.cell v
 keep:∀i h h',tn i h->(∀b∈fp,∀o,h.get? b=some o->h'.get? b=some o)->tn i h'
 item:∀(X:Cx),X.prog=P->X.w=w->X.K=K->X.calm=true->∀(i:Nat) (pins:cW) (s:Shared) (σ:St) (H:Hp) (E:cE),aO X pins σ H s->(∀b∈fp,fK X pins H b)->tn i s.heap->J.go i H ->
  wpAny (model P w) X.A (pyNext (.ref it)) (fun r s1=>∃u,r=some u /\
   wpAny (model P w) X.A (letOwnedTupleGo tg (.ref it) u) (fun _ s2=>∃x H',aO X pins σ H' s2/\aT x u/\J.yld i H x H'/\tn (i+1) s2.heap/\∀b∈fp,H' b=none) E s1) E s
 done:∀(X:Cx),X.prog=P->X.w=w->X.K=K->X.calm=true->∀(i:Nat) (pins:cW) (s:Shared) (σ:St) (H:Hp) (E:cE),aO X pins σ H s->(∀b∈fp,fK X pins H b)->tn i s.heap->J.stop i H ->
  wpAny (model P w) X.A (pyNext (.ref it)) (fun r s1=>r=none/\aO X pins σ H s1) E s
 self:∀(A:Around) (i:Nat) (s:Shared) (Q:cE) (E:cE),tn i s.heap->Q (.ref it) s->wpAny (model P w) A (pyIter (.ref it)) Q E s
noncomputable abbrev TI:=St->Hp->(It->Hp->Prop)->Prop
noncomputable def R3 (X:Cx)(j:cW)(σ:St)(B:Expr)(R:It->Hp->Prop)(q:Value)(s2:Shared):Prop :=
 ∃(it:Addr) (fp:List Addr) (tn:KN) (J:It) (H':Hp),q = .ref it/\aO X j σ H' s2/\m8 X.prog X.w X.K B J fp it tn/\tn 0 s2.heap/\(∀b∈fp,fK X j H' b)/\R J H'
noncomputable def PI (X:Cx)(B iter:Expr)(q:TI):Prop :=
 ∀(j:cW) (s:Shared) (σ:St) (H:Hp) (R:It->Hp->Prop),aO X j σ H s->q σ H R ->
  wpAny (model X.prog X.w) X.A (eval iter X.env) (fun v G=>wpAny (model X.prog X.w) X.A (pyIter v) (R3 X j σ B R) X.xe G) X.xe s
theorem vZ {M:Model}{A:Around}{E:cE}{s:Shared}{q:Expr}{it:Addr}{u:Value}{o:Obj}{n:String}{vs:i4}{Q:Unit->Shared->Prop}(ho:s.heap.get? it=some o)(hc:o.cls = .type n)(hd:o.data = .fields vs)
  (B:["enumerate","zip","dict_itemiterator","dict_reverseitemiterator","odict_iterator","itertools.zip_longest","itertools.pairwise"].contains n=false) (j:Q () s):wpAny M A (letOwnedTupleGo q (.ref it) u) Q E s:=by
 unfold letOwnedTupleGo;cases q <;> first
  | exact wpAny_pure j
  | (cases u <;> first
    | exact wpAny_pure j
    | (refine wpAny_bind (wpAny_load ho ?_);rw[hc,hd];show wpAny M A (if (["enumerate","zip","dict_itemiterator","dict_reverseitemiterator","odict_iterator","itertools.zip_longest","itertools.pairwise"].contains n && vs[0]? == some (rawInt _))=true then _ else _) Q E s;rw[if_neg (by intro h;rw[B,Bool.false_and]at h;cases h)];exact wpAny_pure j))
noncomputable def OA (K:PySem.W.Frag)(a:Addr):It :=
 ⟨fun i H=>∃xs x,fA K H a xs/\xs[i]?=some x,fun i H x H'=>H'=H/\∀xs,fA K H a xs->xs[i]?=some x,fun i H=>∃xs,fA K H a xs/\xs.length<=i⟩
noncomputable def N9 (K:PySem.W.Frag)(a:Addr):It :=
 ⟨fun i H=>∃xs x,hZ K H a xs/\xs[i]?=some x,fun i H x H'=>H'=H/\∀xs,hZ K H a xs->xs[i]?=some x,fun i H=>∃xs,hZ K H a xs/\xs.length<=i⟩
noncomputable def KY (j:Int)(n:Nat):It:=⟨fun i _=>i<n,fun i H x H'=>H'=H/\x = .int (j+i),fun i _=>n<=i⟩
theorem E6 {P:Program}{w:World}{K:PySem.W.Frag}{tg:Expr}(a it:Addr):m8 P w K tg (OA K a) [it] it (fun i h=>h.IsListIter it a i) where
 mem:=by simp
 obj:=fun i h st b q=>by
  have e:b=it:=by simpa using q
  subst e;obtain⟨o,e,c,d⟩:=st;exact⟨o,e,fun v z=>by rw[d]at z;cases z⟩
 keep:=fun i h h' st k=>st.at fun o e=>k it (by simp) o e
 item:=by intro X hP U hK hc i j s σ H E I L st Z;subst hP U hK;obtain⟨xs,x,G,S⟩:=Z;obtain⟨its,N,p,hz⟩:=I.list G;obtain⟨u,hu,ru⟩:=N.get S;obtain⟨f0,f1,f2,f3,f4,f5⟩:=L it (by simp);refine wpAny_pyNext_list_item st p.isList (x:=u) (by simpa using hu) fun h' B sb=>?_;have I1:aO X j σ H {s with heap:=h'}:=I.turned (t':=s.toks) (fun b o q e=>(sb.2 b q).trans e) f0 f1 f3 f4 f5;obtain⟨o,e,c,d⟩:=id B;exact⟨u,rfl,vZ (s:={s with heap:=h'}) e c d (by decide) ⟨x,H,I1,ru,⟨rfl,fun ys hy=>by rw[I.list_inj hy G];exact S⟩,B,fun b q=>(L b q).1⟩⟩
 done:=by intro X hP U hK hc i j s σ H E I L st Z;subst hP U hK;obtain⟨xs,G,S⟩:=Z;obtain⟨its,N,p,hz⟩:=I.list G;obtain⟨f0,f1,f2,f3,f4,f5⟩:=L it (by simp);have hl:=N.length;exact wpAny_pyNext_list_end (I.ok.hd hc) st p.isList (by simp;omega) fun h' eb=>⟨rfl,I.turned (t':=s.toks) (fun b o q e=>eb b o q e) f0 f1 f3 f4 f5⟩
 self:=fun _ _ _ _ _ st h=>wpAny_pyIter_listiter st h
theorem BO {P:Program}{w:World}{K:PySem.W.Frag}{tg:Expr}(a it:Addr):m8 P w K tg (N9 K a) [it] it (fun i h=>h.IsTupleIter it a i) where
 mem:=by simp
 obj:=fun i h st b q=>by
  have e:b=it:=by simpa using q
  subst e;obtain⟨o,e,c,d⟩:=st;exact⟨o,e,fun v z=>by rw[d]at z;cases z⟩
 keep:=fun i h h' st k=>st.at fun o e=>k it (by simp) o e
 item:=by intro X hP U hK hc i j s σ H E I L st Z;subst hP U hK;obtain⟨xs,x,G,S⟩:=Z;obtain⟨its,N,p,hz⟩:=I.tuple G;obtain⟨u,hu,ru⟩:=N.get S;obtain⟨f0,f1,f2,f3,f4,f5⟩:=L it (by simp);refine wpAny_pyNext_tuple_item st (show s.heap.IsTuple a its.toArray from p) (x:=u) (by simpa using hu) fun h' B sb=>?_;have I1:aO X j σ H {s with heap:=h'}:=I.turned (t':=s.toks) (fun b o q e=>(sb.2 b q).trans e) f0 f1 f3 f4 f5;obtain⟨o,e,c,d⟩:=id B;exact⟨u,rfl,vZ (s:={s with heap:=h'}) e c d (by decide) ⟨x,H,I1,ru,⟨rfl,fun ys hy=>by rw[I.tuple_inj hy G];exact S⟩,B,fun b q=>(L b q).1⟩⟩
 done:=by intro X hP U hK hc i j s σ H E I L st Z;subst hP U hK;obtain⟨xs,G,S⟩:=Z;obtain⟨its,N,p,hz⟩:=I.tuple G;obtain⟨f0,f1,f2,f3,f4,f5⟩:=L it (by simp);have hl:=N.length;exact wpAny_pyNext_tuple_end (I.ok.hd hc) st (show s.heap.IsTuple a its.toArray from p) (by simp;omega) fun h' eb=>⟨rfl,I.turned (t':=s.toks) (fun b o q e=>eb b o q e) f0 f1 f3 f4 f5⟩
 self:=fun _ _ _ _ _ st h=>wpAny_pyIter_tupleiter st h
theorem BP {P:Program}{w:World}{K:PySem.W.Frag}{tg:Expr}(it:Addr)(G:Int)(n:Nat):m8 P w K tg (KY G n) [it] it (fun i h=>IsRangeIter h it (G+(i:Nat) * 1) ((n:Int) - (i:Nat)) 1) where
 mem:=by simp
 obj:=fun i h st b q=>by
  have e:b=it:=by simpa using q
  subst e
  exact⟨_,st,fun v z=>by
   have z':Data.fields _=Data.cell v:=z
   cases z'⟩
 keep:=fun i h h' st k=>k it (by simp) _ st
 item:=by intro X U N Z hc i j s σ H E I L st S;subst U N Z;obtain⟨f0,f1,f2,f3,f4,f5⟩:=L it (by simp);have W:=Walks.range (prog:=X.prog) (w:=X.w) (I.ok.hd hc) it G 1 n;refine W.item i s _ _ S st fun v h' tk hv B kk=>?_;obtain⟨t,rfl⟩:=hv;have I1:aO X j σ H {s with heap:=h',toks:=tk}:=I.turned (fun b o q e=>kk b o (by simpa using q) e) f0 f1 f3 f4 f5;refine⟨_,rfl,vZ (s:={s with heap:=h',toks:=tk}) (n:="range_iterator") B rfl rfl (by decide) ⟨.int (G+i),H,I1,⟨t,?_⟩,⟨rfl,rfl⟩,B,fun b q=>(L b q).1⟩⟩;rw[Int.mul_one]
 done:=by intro X U N Z hc i j s σ H E I L st S;subst U N Z;obtain⟨f0,f1,f2,f3,f4,f5⟩:=L it (by simp);exact wpAny_pyNext_range_end (I.ok.hd hc) st (by have:n<=i:=S;omega) fun h' eb=>⟨rfl,I.turned (t':=s.toks) (fun b o q e=>eb b o q e) f0 f1 f3 f4 f5⟩
 self:=fun _ _ _ _ _ st h=>wpAny_pyIter_rangeiter st h
section
variable {X:Cx}{tg:Expr}
theorem IC {G:cW}{σ:St}{H:Hp}{s:Shared}{R:It->Hp->Prop}{E:cE}{j B:Int}{t u v:Tok}{tk:Nat}(I:aO X G σ H s)(h1 : -(2 ^ 62)<=j)(Z:j<2 ^ 62)(U : -(2 ^ 62)<=B)(S:B<2 ^ 62)
  (q:R (KY j (B - j).toNat) H):wpAny (model X.prog X.w) X.A (pyIter (.ref s.heap.objs.size)) (R3 X G σ tg R) E {s with heap:=s.heap.push {cls:=.type "range",data:=.fields #[.int j t,.int B u,.int 1 v]},toks:=tk}:=by
 refine wpAny_pyIter_range (IsRange.new ..) (small_one h1 Z U S) ?_;have L:aO X G σ H {s with heap:=s.heap.push {cls:=.type "range",data:=.fields #[.int j t,.int B u,.int 1 v]},toks:=tk}:=I.kept fun b o e=>Heap.get?_push_of_some _ e
 refine⟨(s.heap.push {cls:=.type "range",data:=.fields #[.int j t,.int B u,.int 1 v]}).objs.size,[(s.heap.push {cls:=.type "range",data:=.fields #[.int j t,.int B u,.int 1 v]}).objs.size],_,_,H,rfl,
  L.kept (t':=tk) fun b o e=>Heap.get?_push_of_some _ e,BP _ j (B - j).toNat,?_,fun b N=>?_,q⟩
 ·have e1:j+((0:Nat):Int) * 1=j:=by simp
  have e2:(((B - j).toNat:Nat):Int) - ((0:Nat):Int)=Builtin.Range.rangeSize j B 1:=by rw[rangeSize_one];split <;> omega
  show IsRangeIter _ _ (j+((0:Nat):Int) * 1) ((((B - j).toNat:Nat):Int) - ((0:Nat):Int)) 1;rw[e1,e2];exact Heap.get?_push_size _ rfl
 ·have e:b=(s.heap.push {cls:=.type "range",data:=.fields #[.int j t,.int B u,.int 1 v]}).objs.size:=by simpa using N
  subst e;exact L.fpOk (Nat.le_refl _) (L.hok.fresh (Nat.le_refl _))
noncomputable def iRng1 (q:TA):TI:=fun σ H R=>q σ H fun vs B=>∃j:Int,vs=[.int j]/\-(2 ^ 62)<=j/\j<2 ^ 62/\R (KY 0 j.toNat) B
noncomputable def iRng2 (q:TA):TI:=fun σ H R=>q σ H fun vs B=>∃i j:Int,vs=[.int i,.int j]/\(-(2 ^ 62)<=i/\i<2 ^ 62/\-(2 ^ 62)<=j/\j<2 ^ 62)/\R (KY i (j - i).toNat) B
theorem fZ {a:Expr}{N:TA}{p B:Pos}(hg:Gl X "range")(hm:X.mg "range" = none)(ha:PA X [a] N)(Z:starEach [a] X.env=[(false,eval a X.env)]:=by rfl):PI X tg (.Call (.Name "range" p) [a] [] B) (iRng1 N):=by
 intro G s σ H R I h;refine Call_ (mX I hg hm boot_range (PyProof.Rows.callWith_type1 (thn (ha B G s σ H _ I h) fun us s1 ⟨vs,H1,I1,r1,L⟩=>?_) Z rfl));obtain⟨j,e,L,U,q⟩:=L;subst e;cases r1 with
 | cons r S =>
  cases S;obtain⟨t,rfl⟩:=r;exact call_range_1 (IC I1 (by omega) (by omega) L U (by simpa using q))
noncomputable def tFor (G:TI)(g:TG)(I:TS):TS:=fun D σ H=>G σ H fun J S=>∃W:Nat->Nat->St->Hp->Prop,(∃m,W 0 m σ S)/\∀i m σ H,W i m σ H ->
 (J.stop i H/\D.nx σ H)∨(J.go i H/\∃N:St->Hp->Prop,(∀j H',N j H'->∃q,q<m/\W (i+1) q j H')/\∀x H',J.yld i H x H'->g x σ H' fun B L=>I {D with nx:=N,ct:=N,bk:=D.nx} B L)
noncomputable def sB (fp:List Addr)(h:Heap):cW:=fp.filterMap fun b=>(h.get? b).map fun o=>(b,o)
theorem mW {fp:List Addr}{h:Heap}{b:Addr}{o:Obj}(j:b∈fp)(e:h.get? b=some o):(b,o)∈sB fp h:=List.mem_filterMap.mpr ⟨b,j,by rw[e];rfl⟩
theorem vH {fp:List Addr}{h:Heap}{p:Addr×Obj}(j:p∈sB fp h):p.1∈fp/\h.get? p.1=some p.2:=by
 obtain⟨b,B,e⟩:=List.mem_filterMap.mp j;cases q:h.get? b with
 | none=>rw[q]at e;cases e
 | some o =>
  rw[q]at e;have e':(b,o)=p:=Option.some.inj e;subst e';exact⟨B,q⟩
theorem aO.pinned {j:cW}{σ:St}{H:Hp}{s:Shared}{fp:List Addr}(I:aO X j σ H s)(L:∀b∈fp,fK X j H b)(ho:∀b∈fp,∃o,s.heap.get? b=some o/\∀v,o.data≠.cell v):aO X (j++sB fp s.heap) σ H s :=
 I.pins_of fun p G=>(List.mem_append.mp G).elim (fun z=>I.pin p (List.mem_append_right _ z)) fun z=>by obtain⟨q,e⟩:=vH z;obtain⟨f0,f1,f2,_⟩:=L p.1 q;obtain⟨o,B,d⟩:=ho p.1 q;rw[e]at B;cases B;exact⟨e,f0,f1,f2,d⟩
theorem aO.unpinned {j pl:cW}{σ:St}{H:Hp}{s:Shared}(I:aO X (j++pl) σ H s):aO X j σ H s:=I.pins_of fun p q=>I.pin p (List.mem_append_right _ (List.mem_append_left _ q))
theorem eI {iter:Expr}{body:List Stmt}{wi:TI}{g:TG}{tb:TS}{pos:Pos}(hp:PassesOwn (model X.prog X.w) X.A X.env X.xe)(hc:X.calm=true)(hi:PI X tg iter wi)(hg:PG X tg g)(G:BJ X body tb)
  (hs:∀x,foldedSetIterable iter X.env x=pure x:=by intro _;rfl):PS X (.For tg iter body [] pos) (tFor wi g tb):=by
 intro j s σ H D I h;refine wpAny_For (thn (hi j s σ H _ I h) fun v s1 h1=>thn h1 fun itv s2 h2=>?_) hs;obtain⟨it,fp,tn,J,H2,e,I2,T,st2,f2,W,⟨m0,w0⟩,turn⟩:=h2;subst e
 -- what stays true of the iterator's objects through the loop
 have B:∀{H':Hp},(∀b∈fp,H' b=none)->∀b∈fp,fK X j H' b:=fun hn b G=>⟨hn b G,(f2 b G).2⟩
 refine codeAny_forLoop_any (fun n s'=>∃i σ' H',aO X j σ' H' s'/\tn i s'.heap/\(∀b∈fp,H' b=none)/\W i n σ' H') ?_ m0 ⟨0,σ,H2,I2,st2,fun b G=>(f2 b G).1,w0⟩;rintro n s3 ⟨i,σ3,H3,I3,st3,fr3,w3⟩;rcases turn i n σ3 H3 w3 with⟨stop,qn⟩|⟨go,N,hN,step⟩
 ·refine wpAny_passesOwn hp (thn (T.done X rfl rfl rfl hc i j s3 σ3 H3 X.xe I3 (B fr3) st3 stop) fun r s4 ⟨hr,I4⟩=>?_);subst hr;exact wpAny_execs_nil ⟨σ3,H3,I4,qn⟩
 ·refine wpAny_passesOwn hp (thn (T.item X rfl rfl rfl hc i j s3 σ3 H3 X.xe I3 (B fr3) st3 go) fun r s4 ⟨u,hr,h4⟩=>?_);subst hr;refine wpAny_passesOwn hp (thn h4 fun _ s5 ⟨x,H5,I5,r5,y5,st5,fr5⟩=>?_);have I5':=I5.pinned (B fr5) (T.obj _ _ st5);refine wpAny_passesOwn hp (thn (hg _ s5 σ3 H5 x u _ I5' r5 (step x H5 y5)) fun _ s6 ⟨σ6,H6,I6,q6⟩=>?_);refine wpAny_passesOwn hp (thn (G _ s6 σ6 H6 _ I6 q6) fun f s7 Z=>?_);have L:∀{q:St} {U:Hp},aO X (j++sB fp s5.heap) q U s7->N q U->∃m,m<n/\∃i σ' H',aO X j σ' H' s7/\tn i s7.heap/\(∀b∈fp,H' b=none)/\W i m σ' H':=fun {q U} S n7=>by obtain⟨m',hm,w7⟩:=hN q U n7;refine⟨m',hm,i+1,q,U,S.unpinned,T.keep _ _ _ st5 fun b G o e=>(S.pin (b,o) (List.mem_append_right _ (List.mem_append_right _ (mW G e)))).1,fun b G=>?_,w7⟩;obtain⟨o,e,d⟩:=T.obj _ _ st5 b G;exact(S.pin (b,o) (List.mem_append_right _ (List.mem_append_right _ (mW G e)))).2.1
  cases f with
  | next=>obtain⟨q,U,S,n7⟩:=Z;exact L S n7
  | cont=>obtain⟨q,U,S,n7⟩:=Z;exact L S n7
  | brk=>obtain⟨q,U,S,Z⟩:=Z;exact⟨q,U,S.unpinned,Z⟩
  | ret v=>obtain⟨x7,q,U,S,r7,Z⟩:=Z;exact⟨x7,q,U,S.unpinned,r7,Z⟩
end
theorem JX {K:PySem.W.Frag}{a:Addr}{xs:List V}{g:TG}{L:TS}{D:iN}{σ:St}{H:Hp}(Pv:Nat->St->Hp->Prop)(h0:Pv 0 σ H)(hl:∀i σ H,i<=xs.length->Pv i σ H->fA K H a xs)
  (Z:∀i x σ H,xs[i]?=some x->Pv i σ H->g x σ H fun B I=>L {D with nx:=Pv (i+1),ct:=Pv (i+1),bk:=D.nx} B I) (hd:∀σ H,Pv xs.length σ H->D.nx σ H) :
  ∃W:Nat->Nat->St->Hp->Prop,(∃m,W 0 m σ H)/\∀i m σ H,W i m σ H ->
   ((OA K a).stop i H/\D.nx σ H)∨((OA K a).go i H/\∃N:St->Hp->Prop,(∀G H',N G H'->∃S,S<m/\W (i+1) S G H')/\∀x H',(OA K a).yld i H x H'->g x σ H' fun B I=>L {D with nx:=N,ct:=N,bk:=D.nx} B I):=by
 refine⟨fun i m σ H=>m=xs.length - i/\i<=xs.length/\Pv i σ H,⟨xs.length,by simp,Nat.zero_le _,h0⟩,?_⟩;rintro i m σ H ⟨rfl,hi,p⟩;have q:=hl i σ H hi p;by_cases j:i<xs.length
 ·refine .inr ⟨⟨xs,xs[i],q,by simp[j]⟩,Pv (i+1),fun G H' U=>⟨xs.length - (i+1),by omega,rfl,j,U⟩,fun x H' y=>?_⟩;obtain⟨e,y⟩:=y;subst e;exact Z i x σ _ (y xs q) p
 ·have e:i=xs.length:=by omega
  subst e;exact .inl ⟨⟨xs,q,Nat.le_refl _⟩,hd σ H p⟩
theorem M4 {K:PySem.W.Frag}{a:Addr}{xs:List V}{g:TG}{L:TS}{D:iN}{σ:St}{H:Hp}(Pv:Nat->St->Hp->Prop)(h0:Pv 0 σ H)(hl:∀i σ H,i<=xs.length->Pv i σ H->hZ K H a xs)
  (Z:∀i x σ H,xs[i]?=some x->Pv i σ H->g x σ H fun B I=>L {D with nx:=Pv (i+1),ct:=Pv (i+1),bk:=D.nx} B I) (hd:∀σ H,Pv xs.length σ H->D.nx σ H) :
  ∃W:Nat->Nat->St->Hp->Prop,(∃m,W 0 m σ H)/\∀i m σ H,W i m σ H ->
   ((N9 K a).stop i H/\D.nx σ H)∨((N9 K a).go i H/\∃N:St->Hp->Prop,(∀G H',N G H'->∃S,S<m/\W (i+1) S G H')/\∀x H',(N9 K a).yld i H x H'->g x σ H' fun B I=>L {D with nx:=N,ct:=N,bk:=D.nx} B I):=by
 refine⟨fun i m σ H=>m=xs.length - i/\i<=xs.length/\Pv i σ H,⟨xs.length,by simp,Nat.zero_le _,h0⟩,?_⟩;rintro i m σ H ⟨rfl,hi,p⟩;have q:=hl i σ H hi p;by_cases j:i<xs.length
 ·refine .inr ⟨⟨xs,xs[i],q,by simp[j]⟩,Pv (i+1),fun G H' U=>⟨xs.length - (i+1),by omega,rfl,j,U⟩,fun x H' y=>?_⟩;obtain⟨e,y⟩:=y;subst e;exact Z i x σ _ (y xs q) p
 ·have e:i=xs.length:=by omega
  subst e;exact .inl ⟨⟨xs,q,Nat.le_refl _⟩,hd σ H p⟩
theorem GM {q:Int}{n:Nat}{g:TG}{L:TS}{D:iN}{σ:St}{H:Hp}(Pv:Nat->St->Hp->Prop)(h0:Pv 0 σ H)
  (Z:∀i σ H,i<n->Pv i σ H->g (.int (q+i)) σ H fun B I=>L {D with nx:=Pv (i+1),ct:=Pv (i+1),bk:=D.nx} B I) (hd:∀σ H,Pv n σ H->D.nx σ H) :
  ∃W:Nat->Nat->St->Hp->Prop,(∃m,W 0 m σ H)/\∀i m σ H,W i m σ H ->
   ((KY q n).stop i H/\D.nx σ H)∨((KY q n).go i H/\∃N:St->Hp->Prop,(∀G H',N G H'->∃S,S<m/\W (i+1) S G H')/\∀x H',(KY q n).yld i H x H'->g x σ H' fun B I=>L {D with nx:=N,ct:=N,bk:=D.nx} B I):=by
 refine⟨fun i m σ H=>m=n - i/\i<=n/\Pv i σ H,⟨n,by simp,Nat.zero_le _,h0⟩,?_⟩;rintro i m σ H ⟨rfl,hi,p⟩;by_cases j:i<n
 ·refine .inr ⟨j,Pv (i+1),fun G H' U=>⟨n - (i+1),by omega,rfl,j,U⟩,fun x H' y=>?_⟩;obtain⟨e,y⟩:=y;subst e y;exact Z i σ _ j p
 ·have e:i=n:=by omega
  subst e;exact .inl ⟨Nat.le_refl _,hd σ H p⟩
noncomputable abbrev R2:=V->V->Hp->VK->Prop
noncomputable def i5 (X:Cx)(f:Value->Value->Sem Value)(r:R2):Prop :=
 ∀(j:cW) (s:Shared) (σ:St) (H:Hp) (x y:V) (v u:Value) (Q:VK),aO X j σ H s->aT x v->aT y u->r x y H Q ->
  wpAny (model X.prog X.w) X.A (f v u) (EP X j σ Q) X.xe s
noncomputable def RM (X:Cx)(f:Value->Sem Value)(r:V->Hp->VK->Prop):Prop :=
 ∀(j:cW) (s:Shared) (σ:St) (H:Hp) (x:V) (v:Value) (Q:VK),aO X j σ H s->aT x v->r x H Q ->
  wpAny (model X.prog X.w) X.A (f v) (EP X j σ Q) X.xe s
noncomputable def cT (X:Cx)(f:Value)(r:List V->Hp->VK->Prop):Prop :=
 ∀(j:cW) (s:Shared) (σ:St) (H:Hp) (xs:List V) (us:bZ) (Q:VK),aO X j σ H s->aR xs us->r xs H Q ->
  wpAny (model X.prog X.w) X.A (call f us) (EP X j σ Q) X.xe s
noncomputable def RN (X:Cx)(r:V->Hp->(Bool->Hp->Prop)->Prop):Prop :=
 ∀(j:cW) (s:Shared) (σ:St) (H:Hp) (x:V) (v:Value) (Q:Bool->Hp->Prop),aO X j σ H s->aT x v->r x H Q ->
  wpAny (model X.prog X.w) X.A (truthy v) (TP X j σ Q) X.xe s
noncomputable def tOp (r:R2)(q j:TE):TE:=fun σ H Q=>q σ H fun x G=>j σ G fun y B=>r x y B Q
noncomputable def tUn (r:V->Hp->VK->Prop)(j:TE):TE:=fun σ H Q=>j σ H fun x q=>r x q Q
noncomputable def rI (C:Int->Int->Prop)(g:Int->Int->V):R2:=fun x y H Q=>∃i j,x = .int i/\y = .int j/\C i j/\Q (g i j) H
noncomputable def rI0 (g:Int->Int->V):R2:=fun x y H Q=>∃i j,x = .int i/\y = .int j/\Q (g i j) H
noncomputable def rU (g:Int->V):V->Hp->VK->Prop:=fun x H Q=>∃i,x = .int i/\Q (g i) H
section
variable {X:Cx}{a b c:Expr}{ta tb tc:TE}{pos:Pos}
theorem binT (ha:PE X a ta)(hb:PE X b tb){j:cW}{s:Shared}{σ:St}{H:Hp}{R:V->V->Hp->Prop}(I:aO X j σ H s)
  (h:ta σ H fun x B=>tb σ B fun y q=>R x y q) {Q:cE} {f:Value->Value->Sem Value}
  (hf:∀v u s2 x y q,aO X j σ q s2->aT x v->aT y u->R x y q->wpAny (model X.prog X.w) X.A (f v u) Q X.xe s2) :
  wpAny (model X.prog X.w) X.A (eval a X.env) (fun v L=>wpAny (model X.prog X.w) X.A (eval b X.env) (fun u G=>wpAny (model X.prog X.w) X.A (f v u) Q X.xe G) X.xe L) X.xe s:=by
 refine thn (ha j s σ H _ I h) fun v N ⟨x,B,I1,r1,Z⟩=>?_;refine thn (hb j N σ B _ I1 Z) fun u s2 ⟨y,q,I2,S,U⟩=>?_;exact hf v u s2 x y q I2 r1 S U
theorem bO {op:Operator}{r:R2}(ho:i5 X (binaryOp op) r)(N:PE X a ta)(L:PE X b tb):PE X (.BinOp a op b pos) (tOp r ta tb):=by intro j s σ H Q I h;exact wpAny_BinOp (binT N L I h fun v u s2 x y U S G B q=>ho j s2 σ U x y v u Q S G B q)
theorem NZ {op:UnaryOp}{r:V->Hp->VK->Prop}(ho:RM X (unaryOp op) r)(G:PE X a ta):PE X (.UnaryOp op a pos) (tUn r ta):=by intro j s σ H Q I h;exact UnaryOp_ (thn (G j s σ H _ I h) fun v q ⟨x,N,L,r1,B⟩=>ho j q σ N x v Q L r1 B)
theorem opI {f:Value->Value->Sem Value}{C:Int->Int->Prop}{g:Int->Int->Int}
  (B:∀(i j:Int) (t u:Tok) (s:Shared) (Q:cE) (E:cE),C i j->Q (.int (g i j) s.toks) {s with toks:=s.toks+1}->wpAny (model X.prog X.w) X.A (f (.int i t) (.int j u)) Q E s) :
  i5 X f (rI C fun i j=>.int (g i j)):=by
 intro G s σ H x y v u Q I N L h;obtain⟨i,j,rfl,rfl,hc,q⟩:=h;obtain⟨t,rfl⟩:=N;obtain⟨t',rfl⟩:=L;exact B i j t t' s _ _ hc ⟨.int (g i j),H,I.tok _,⟨_,rfl⟩,q⟩
theorem opI0 {f:Value->Value->Sem Value}{g:Int->Int->Int}
  (B:∀(i j:Int) (t u:Tok) (s:Shared) (Q:cE) (E:cE),Q (.int (g i j) s.toks) {s with toks:=s.toks+1}->wpAny (model X.prog X.w) X.A (f (.int i t) (.int j u)) Q E s) :
  i5 X f (rI0 fun i j=>.int (g i j)):=by
 intro G s σ H x y v u Q I N L h;obtain⟨i,j,rfl,rfl,q⟩:=h;obtain⟨t,rfl⟩:=N;obtain⟨t',rfl⟩:=L;exact B i j t t' s _ _ ⟨.int (g i j),H,I.tok _,⟨_,rfl⟩,q⟩
theorem opB0 {f:Value->Value->Sem Value}{g:Int->Int->Bool}
  (B:∀(i j:Int) (t u:Tok) (s:Shared) (Q:cE) (E:cE),Q (.bool (g i j)) s->wpAny (model X.prog X.w) X.A (f (.int i t) (.int j u)) Q E s) :
  i5 X f (rI0 fun i j=>.bl (g i j)):=by
 intro G s σ H x y v u Q I N L h;obtain⟨i,j,rfl,rfl,q⟩:=h;obtain⟨t,rfl⟩:=N;obtain⟨t',rfl⟩:=L;exact B i j t t' s _ _ ⟨.bl (g i j),H,I,rfl,q⟩
noncomputable def RZ (i j:Int):Prop:=0<j/\j<1073741824
noncomputable def RG (i j:Int):Prop:=0<=j/\j<=1000000/\i.natAbs<2 ^ 64
noncomputable def HB (i j:Int):Prop:=(-(2 ^ 64)<i/\i<2 ^ 64)∨(-(2 ^ 64)<j/\j<2 ^ 64)
theorem HB.ok {i j:Int}(h:HB i j):IntMulOk i j:=by
 rcases h with⟨B,q⟩|⟨B,q⟩
 ·exact .of_left (intBits_le_64 B q)
 ·exact .of_right (intBits_le_64 B q)
theorem PH:i5 X (binaryOp .Add) (rI0 fun i j=>.int (i+j)):=opI0 fun _ _ _ _ _ _ _ q=>add_int q
theorem pG:i5 X (binaryOp .Sub) (rI0 fun i j=>.int (i - j)):=opI0 fun _ _ _ _ _ _ _ q=>sub_int q
theorem pI:i5 X (binaryOp .Mult) (rI HB fun i j=>.int (i * j)):=opI fun _ _ _ _ _ _ _ hc q=>mul_int q hc.ok
theorem rA:i5 X (binaryOp .FloorDiv) (rI RZ fun i j=>.int (i / j)):=opI fun i j _ _ _ _ _ hc q=>by have G:(0:Int)<j:=hc.1;have B:j<1073741824:=hc.2;exact floordiv_int (by omega) (by rw[Int.fdiv_eq_ediv_of_nonneg i (by omega)];exact q) (.inl (PyProof.noPylong_small (by omega)))
theorem sI:i5 X (binaryOp .Mod) (rI (fun _ j=>0<j) fun i j=>.int (i % j)):=opI fun i j _ _ _ _ _ hc q=>by have B:(0:Int)<j:=hc;exact mod_int' (by omega) (by rw[Int.fmod_eq_emod_of_nonneg i (by omega)];exact q)
theorem PB:i5 X (binaryOp .Pow) (rI RG fun i j=>.int (i ^ j.toNat)):=opI fun _ _ _ _ _ _ _ hc q=>pow_int_small hc.1 hc.2.1 hc.2.2 q
theorem unI {f:Value->Sem Value}{g:Int->Int}
  (j:∀(i:Int) (t:Tok) (s:Shared) (Q:cE) (E:cE),Q (.int (g i) s.toks) {s with toks:=s.toks+1}->wpAny (model X.prog X.w) X.A (f (.int i t)) Q E s) :
  RM X f (rU fun i=>.int (g i)):=by
 intro B s σ H x v Q I G h;obtain⟨i,rfl,q⟩:=h;obtain⟨t,rfl⟩:=G;exact j i t s _ _ ⟨.int (g i),H,I.tok _,⟨_,rfl⟩,q⟩
theorem HG:RM X (unaryOp .USub) (rU fun i=>.int (-i)):=unI fun _ _ _ _ _ q=>neg_int q
theorem yQ {j:cW}{σ:St}{H:Hp}{s:Shared}{Q:VK}{k B:Bool}(I:aO X j σ H s)(q:Q (.bl k) H)(e:k=B):EP X j σ Q (.bool B) s:=by subst e;exact⟨.bl k,H,I,rfl,q⟩
theorem Q0:i5 X (compareOp .Lt) (rI0 fun i j=>.bl (decide (i<j))):=opB0 fun _ _ _ _ _ _ _ q=>lt_int q
theorem n6:i5 X (compareOp .LtE) (rI0 fun i j=>.bl (decide (i<=j))):=opB0 fun _ _ _ _ _ _ _ q=>le_int q
theorem zV:i5 X (compareOp .Gt) (rI0 fun i j=>.bl (decide (j<i))):=opB0 fun _ _ _ _ _ _ _ q=>gt_int q
theorem N0:i5 X (compareOp .GtE) (rI0 fun i j=>.bl (decide (j<=i))):=opB0 fun _ _ _ _ _ _ _ q=>ge_int q
theorem FO:i5 X (compareOp .Lt) (fun x y H Q=>∃i j,x = .str i/\y = .str j/\Q (.bl (decide (i.cps.toList<j.cps.toList))) H):=by intro B s σ H x y v u Q I L G h;obtain⟨i,j,rfl,rfl,q⟩:=h;obtain⟨t,rfl⟩:=L;obtain⟨t',rfl⟩:=G;exact lt_str (yQ I q rfl)
theorem pJ:i5 X (compareOp .In) (fun x y H Q=>∃i j,x = .str i/\y = .str j/\Q (.bl (!(Builtin.Str.occurrences j i 0 j.length 1).isEmpty)) H):=by intro B s σ H x y v u Q I L G h;obtain⟨i,j,rfl,rfl,q⟩:=h;obtain⟨t,rfl⟩:=L;obtain⟨t',rfl⟩:=G;exact in_str (yQ I q rfl)
theorem PD:i5 X (compareOp .Is) (fun x y H Q=>y = .non/\Q (.bl (decide (x = .non))) H):=by
 intro B s σ H x y v u Q I j G h;obtain⟨rfl,q⟩:=h;cases G;refine is_none_gen (yQ I q ?_);cases x <;> first
  | (cases j;rfl)
  | (obtain⟨t,rfl⟩:=j;rfl)
theorem L6:i5 X (compareOp .IsNot) (fun x y H Q=>y = .non/\Q (.bl (!decide (x = .non))) H):=by
 intro B s σ H x y v u Q I j G h;obtain⟨rfl,q⟩:=h;cases G;refine isnot_none_gen (yQ I q ?_);cases x <;> first
  | (cases j;rfl)
  | (obtain⟨t,rfl⟩:=j;rfl)
theorem i5.or {f:Value->Value->Sem Value}{r L:R2}(h:i5 X f r)(h':i5 X f L):i5 X f (fun x y H Q=>r x y H Q∨L x y H Q):=by
 intro j s σ H x y v u Q I G B q;rcases q with q|q
 ·exact h j s σ H x y v u Q I G B q
 ·exact h' j s σ H x y v u Q I G B q
theorem nomark (b:Expr){op:CmpOp}(h:op≠.In:=by decide)(j:op≠.NotIn:=by decide):behindInMarks op b=false:=by
 have B:(op == CmpOp.In)=false:=by cases op <;> first|rfl|exact absurd rfl h
 have q:(op == CmpOp.NotIn)=false:=by cases op <;> first|rfl|exact absurd rfl j
 cases b <;> simp[behindInMarks,B,q]
theorem dY {op:CmpOp}{r:R2}(ho:i5 X (compareOp op) r)(S:PE X a ta)(N:PE X b tb)(L:behindInMarks op b=false):PE X (.Compare a [op] [b] pos) (tOp r ta tb):=by intro j s σ H Q I h;exact wpAny_Compare1 (binT S N I h fun v u s2 x y Z U G B q=>ho j s2 σ Z x y v u Q U G B q) L
noncomputable def tTest (t:TE):TT:=fun σ H Q=>t σ H fun x H'=>∃k,x = .bl k/\Q k H'
theorem aV {op:CmpOp}{r:R2}(ho:i5 X (compareOp op) r)(ha:PE X a ta)(Z:PE X b tb)(U:behindInMarks op b=false):PT X (.Compare a [op] [b] pos) (tTest (tOp r ta tb)):=by
 intro j s σ H Q I h
 refine wpAny_isTrue_Compare1 (thn (ha j s σ H _ I h) fun v q ⟨x,H1,I1,r1,S⟩=>thn (Z j q σ H1 _ I1 S) fun u s2 ⟨y,H2,I2,G,N⟩ =>
  thn (ho j s2 σ H2 x y v u _ I2 r1 G N) fun c s3 ⟨z,H3,I3,B,k,e,L⟩=>?_) U
 subst e;cases B;exact wpAny_truthy_bool ⟨H3,I3,L⟩
noncomputable def tChain (r L:R2)(I G B:TE):TE:=fun σ H Q=>I σ H fun x U=>G σ U fun y S=>r x y S fun z j=>∃k,z = .bl k /\
 (if k=true then B σ j fun q N=>L y q N Q else Q (.bl false) j)
theorem lC {op q:CmpOp}{r L:R2}(ho:i5 X (compareOp op) r)(B:i5 X (compareOp q) L)(ha:PE X a ta)(hb:PE X b tb)(hc:PE X c tc)
  (hm:lastMarks [op,q] [b,c]=false:=by with_unfolding_all rfl):PT X (.Compare a [op,q] [b,c] pos) (tTest (tChain r L ta tb tc)):=by
 intro j s σ H Q I h
 refine isTrue_chain (thn (ha j s σ H _ I h) fun v s1 ⟨x,H1,I1,r1,q1⟩=>test_link (thn (hb j s1 σ H1 _ I1 q1) fun u s2 ⟨y,H2,I2,G,q2⟩ =>
  thn (ho j s2 σ H2 x y v u _ I2 r1 G q2) fun d s3 ⟨z,U,S,r3,k,e,N⟩=>?_)) hm
 subst e;cases r3;refine wpAny_truthy_bool ?_;cases k with
 | false =>
  obtain⟨k',e',q'⟩:=N;cases e';exact ite_ff ⟨U,S,q'⟩
 | true =>
  refine ite_tt (test_last (thn (hc j s3 σ U _ S N) fun w' s4 ⟨Z,H4,I4,r4,q4⟩=>thn (B j s4 σ H4 y Z u w' _ I4 G r4 q4) fun d' s5 ⟨z2,H5,I5,r5,k2,e2,q5⟩=>?_));subst e2;cases r5;exact wpAny_truthy_bool ⟨H5,I5,q5⟩
noncomputable def NM (K:PySem.W.Frag)(x:V)(H:Hp)(k:Bool):Prop :=
 match x with
 | .non=>k=false
 | .bl b=>k=b
 | .int i=>k=(i != 0)
 | .str y=>y.length<=sizeLine/\k=((y.length:Int) != 0)
 | .byt y=>y.size<=sizeLine/\k=((y.size:Int) != 0)
 | .ref p=>(∃xs,fA K H p xs/\k=!xs.isEmpty)∨(∃xs,hZ K H p xs/\k=!xs.isEmpty)∨∃j,H p=some (.dK j)/\k=!j.isEmpty
 | _=>False
theorem C6 {κ:Type}{j:List (κ×V)}{vs:List (κ×Value)}(r:KV j vs):(!vs.isEmpty)=!j.isEmpty:=by cases r <;> rfl
theorem sZ {xs:List V}{its:bZ}(r:aR xs its):(!its.toArray.isEmpty)=!xs.isEmpty:=by cases r <;> simp
theorem line63:(sizeLine:Nat)<2 ^ 63:=by rw[sizeLine_eq];decide
theorem OM:RN X (fun x H Q=>∃k,NM X.K x H k/\Q k H):=by
 intro S s σ H x v Q I L h;obtain⟨k,e,q⟩:=h;have Z:=line63;have U:sizeLine=16777216:=sizeLine_eq;cases x with
 | non =>
  cases L;have j:k=false:=e;subst j;exact truthy_none ⟨H,I,q⟩
 | bl b =>
  cases L;have j:k=b:=e;subst j;exact wpAny_truthy_bool ⟨H,I,q⟩
 | int i =>
  obtain⟨t,rfl⟩:=L;have j:k=(i != 0):=e;subst j;exact PySem.P.truthy_int ⟨H,I,q⟩
 | str y =>
  obtain⟨t,rfl⟩:=L;obtain⟨hy,j⟩:y.length<=sizeLine/\k=((y.length:Int) != 0):=e;subst j;exact PySem.P.truthy_str (by omega) ⟨H,I.tok _,q⟩
 | byt y =>
  obtain⟨t,rfl⟩:=L;obtain⟨hy,j⟩:y.size<=sizeLine/\k=((y.size:Int) != 0):=e;subst j;exact PySem.W.truthy_bytes (by omega) ⟨H,I.tok _,q⟩
 | ref p =>
  cases L;have j:(∃xs,fA X.K H p xs/\k=!xs.isEmpty)∨(∃xs,hZ X.K H p xs/\k=!xs.isEmpty)∨∃B,H p=some (.dK B)/\k=!B.isEmpty:=e;rcases j with⟨xs,N,j⟩|⟨xs,N,j⟩|⟨B,N,j⟩
  ·subst j;obtain⟨its,r,pl,hz⟩:=I.list N;have G:=r.length;exact wpAny_truthy_list pl.isList (by simp only[List.size_toArray];omega) ⟨H,I.tok _,by rw[sZ r];exact q⟩
  ·subst j;obtain⟨its,r,pl,hz⟩:=I.tuple N;have G:=r.length;exact truthy_tuple pl (by simp only[List.size_toArray];omega) ⟨H,I.tok _,by rw[sZ r];exact q⟩
  ·subst j;obtain⟨hz,hS,vs,r,m⟩:B.length<=sizeLine/\(p == sysModules)=false/\∃vs,KV B vs/\s.heap.DictOf (bF X.prog X.w) p vs:=I.hok p _ N;have G:B.length=vs.length:=Paired.length r;exact wpAny_truthy_dict hS m (by omega) ⟨H,I.tok _,by rw[C6 r];exact q⟩
 | _=>exact(show False from e).elim
theorem IE (N:PE X a ta)(L:∀j,isTrue a X.env j=(do let v ←j;standAt a.pos;holding [v] (truthy v))) :
  PT X a (fun σ H Q=>ta σ H fun x H'=>∃k,NM X.K x H' k/\Q k H'):=by
 intro q s σ H Q I h;exact isTrue_plain (thn (N q s σ H _ I h) fun v B ⟨x,U,S,r1,G⟩=>OM q B σ U x v Q S r1 G) (L _)
theorem CC:i5 X (binaryOp .Add) (fun x y H Q=>∃i j,x = .str i/\y = .str j/\i.length+j.length<=sizeLine/\Q (.str (i++j)) H):=by intro B s σ H x y v u Q I L G h;obtain⟨i,j,rfl,rfl,hz,q⟩:=h;obtain⟨t,rfl⟩:=L;obtain⟨t',rfl⟩:=G;exact add_str (fun t' tk=>⟨.str (i++j),H,I.tok _,⟨_,rfl⟩,q⟩) hz
theorem vals1 {x:V}{us:bZ}(r:aR [x] us):∃u,us=[u]/\aT x u:=by
 cases r with
 | cons r1 j=>cases j;exact⟨_,rfl,r1⟩
theorem vals2 {x y:V}{us:bZ}(r:aR [x,y] us):∃u j,us=[u,j]/\aT x u/\aT y j:=by
 cases r with
 | cons r1 G =>
  cases G with
  | cons B q=>cases q;exact⟨_,_,rfl,r1,B⟩
theorem KI:cT X (.builtin "abs") (fun xs H Q=>∃i,xs=[.int i]/\Q (.int (if i<0 then -i else i)) H):=by intro j s σ H xs us Q I r h;obtain⟨i,rfl,q⟩:=h;obtain⟨u,rfl,t,rfl⟩:=vals1 r;exact call_abs_int fun u tk=>⟨.int (if i<0 then -i else i),H,I.tok _,⟨_,rfl⟩,q⟩
theorem G1 (hc:X.calm=true):cT X (.builtin "max") (fun xs H Q=>∃i j,xs=[.int i,.int j]/\Q (.int (if j > i then j else i)) H):=by
 intro G s σ H xs us Q I r h;obtain⟨i,j,rfl,q⟩:=h;obtain⟨u,L,rfl,⟨t,rfl⟩,⟨t',rfl⟩⟩:=vals2 r;refine max_two_ints (I.ok.hd hc) fun h' tk k=>⟨_,H,I.kept k,?_,q⟩
 by_cases B:j > i
 ·rw[if_pos B,if_pos B];exact⟨_,rfl⟩
 ·rw[if_neg B,if_neg B];exact⟨_,rfl⟩
theorem GZ (hc:X.calm=true):cT X (.builtin "min") (fun xs H Q=>∃i j,xs=[.int i,.int j]/\Q (.int (if j<i then j else i)) H):=by
 intro G s σ H xs us Q I r h;obtain⟨i,j,rfl,q⟩:=h;obtain⟨u,L,rfl,⟨t,rfl⟩,⟨t',rfl⟩⟩:=vals2 r;refine min_two_ints (I.ok.hd hc) fun h' tk k=>⟨_,H,I.kept k,?_,q⟩
 by_cases B:j<i
 ·rw[if_pos B,if_pos B];exact⟨_,rfl⟩
 ·rw[if_neg B,if_neg B];exact⟨_,rfl⟩
theorem G3:cT X (.type "int") (fun xs H Q=>(∃i,xs=[.int i]/\Q (.int i) H)∨∃k,xs=[.bl k]/\Q (.int (if k then 1 else 0)) H):=by
 intro j s σ H xs us Q I r h;rcases h with⟨i,rfl,q⟩|⟨k,rfl,q⟩
 ·obtain⟨u,rfl,t,rfl⟩:=vals1 r;exact call_int_int ⟨.int i,H,I,⟨_,rfl⟩,q⟩
 ·obtain⟨u,rfl,r1⟩:=vals1 r;cases r1;exact call_int_bool ⟨.int (if k then 1 else 0),H,I.tok _,⟨_,rfl⟩,q⟩
end
structure DL (h:Heap)(x dx C:Addr)(mA:fM):Prop where
 obj:h.get? x=some (PySem.W.instObj C dx)
 ns:h.Ns1 dx mA
 ne:dx≠x
theorem GC {h:Heap}{I:Addr}{B:fM}(n:h.Ns1 I B):∃od,h.get? I=some od/\∀name,PySem.W.lookIn name od=some (B name):=by
 obtain⟨o,G,U,ho,hd,S,_,N⟩:=n;refine⟨o,ho,fun name=>?_⟩;have e:=N name;unfold nsFind findBy at e;rw[←Array.find?_toList]at e;unfold PySem.W.lookIn;rw[hd];dsimp only;split
 ·rename_i y q;rw[q]at e;exact congrArg some e
 ·rename_i q;rw[q]at e;have a:G.toList.any (·.refKey)=false:=by rw[List.any_eq_false];intro y L;obtain⟨z,t,j⟩:=S y (Array.mem_toList_iff.mp L);simp[DictEntry.refKey,j]
  have a':¬G.toList.any (·.refKey)=true:=by rw[a];exact Bool.false_ne_true
  rw[if_neg a'];exact congrArg some e
theorem DL.look {h:Heap}{x q C:Addr}{j:fM}(I:DL h x q C j):∃od,PySem.W.InstAt h x (PySem.W.instObj C q) C (some od)/\∀name,PySem.W.lookIn name od=some (j name) :=
 let⟨od,ho,hl⟩:=GC I.ns
 ⟨od,⟨I.obj,rfl,rfl,ho⟩,hl⟩
section
variable {prog:Program}{w:World}{A:Around}{E:cE}{s:Shared}{K:PySem.W.Frag}{x dx C f:Addr}{mA:fM}{name:Str}{v:Value}
theorem M0 {j:Bool}{Q:cE}(X:K.In s.heap)(I:DL s.heap x dx C mA)(N:PySem.W.plainGet K C name=true)(L:PySem.W.hasDictIn K C=true)
  (S:PySem.W.findIn K (.ref C) name=some none) (B:mA name=some v) (q:PySem.W.handedIn v=true) (h:Q v {s with toks:=s.toks+1}) :
  wpAny (model prog w) A (getAttr (.ref x) name j) Q E s:=by
 obtain⟨od,J,G⟩:=I.look;exact PySem.W.get_value X J (PySem.W.plainGet_of N).1 (PySem.W.findObj_own L S rfl (by rw[G,B])) q h
theorem JW {pl:Sem Bool}{Q:Value×bZ->Shared->Prop}(X:K.In s.heap)(I:DL s.heap x dx C mA)(j:PySem.W.plainGet K C name=true)
  (L:PySem.W.findIn K (.ref C) name=some (some (.ref f))) (B:PySem.W.isFn K (.ref f)=true) (q:mA name=none) (h:Q (.ref f,[.ref x]) s) :
  wpAny (model prog w) A (getMethod (.ref x) name pl) Q E s:=by
 obtain⟨od,J,G⟩:=I.look;exact PySem.W.method_fn X J (PySem.W.plainGet_of j).1 (PySem.W.plainGet_of j).2 L (beq_iff_eq.mp B) (by show(PySem.W.lookIn name od).map (·.isSome)=some false;rw[G,q];rfl) h
theorem K9 {ns:aW}{Q:Unit->Shared->Prop}(X:K.In s.heap)(I:DL s.heap x dx C mA)
  (hs:PySem.W.findIn K (.ref C) "__setattr__" = some (some (.builtin "object.__setattr__"))) (hp:PySem.W.plainOver K C=true) (Z:PySem.W.takerIn K C name=some none) (hh:PySem.W.hasDictIn K C=true)
  (U:PySem.Within mA ns) (hsz:ns.length<=sizeLine)
  (h:∀h',DL h' x dx C (fun y=>if y=name then some v else mA y)->Heap.SameBut dx s.heap h'->Q () {s with heap:=h',toks:=s.toks+2}) :
  wpAny (model prog w) A (setAttr (.ref x) name v) Q E s:=by
 obtain⟨od,J,hl⟩:=I.look;refine PySem.W.set_plain X J hs (PySem.W.osa_open (s:={s with toks:=s.toks+1}) (r:=none) X J hp Z fun b=>?_);obtain⟨cd,hc,L⟩:=PySem.W.any_some hh;have S:s.heap.get? x=some ⟨.ref C,some dx,.plain,#[]⟩:=I.obj;refine wpAny_bind (wpAny_pure (wpAny_bind (wpAny_bind (wpAny_loadPart S (wpAny_bind (PySem.W.Looks.here (s:={s with toks:=s.toks+1}) (PySem.W.looks_clsIn X hc) ?_))))));rw[L];refine wpAny_pure (a:=some dx) (wpAny_bind (wpAny_pure (wpAny_bind ?_)));refine wpAny_nsSet1 (s:={s with toks:=s.toks+1}) I.ns fun h' q j=>?_;obtain⟨oD,esD,epD,B,G,N⟩:=q.count (PySem.Within.cons name v U);refine wpAny_bind (wpAny_lookBehind B (by rw[G];exact pastItsLine_dict (Nat.le_trans N (by rw[List.length_cons];omega))) ?_);exact wpAny_pure (h _ ⟨(j.2 _ (Ne.symm I.ne)).trans I.obj,q,I.ne⟩ j)
theorem JN {R:Result->Shared->Prop}{vs:bZ}{j:List (Str×Value)}(X:K.In s.heap)(q:PySem.W.makesIn K C=true)
  (B:PySem.W.findIn K (.ref C) "__init__" = some (some (.ref f))) (G:PySem.W.typeIn K (.ref f)=some (.type "function"))
  (h:codeAny (model prog w) (A.under (.builtin "type.__call__" ⟨.ref C::vs,j⟩)) (.call (.ref f) ⟨.ref (s.heap.objs.size+1)::vs,j⟩) (PySem.W.InitBack (s.heap.objs.size+1) R)
   {s with heap:=(s.heap.push PySem.W.emptyDict).push (PySem.W.instObj C s.heap.objs.size)}) :
  codeAny (model prog w) A (.call (.ref C) ⟨vs,j⟩) R s:=by
 obtain⟨I,g,d,t,os⟩:=s;exact PySem.W.make_core (PySem.W.makes_of X q) (PySem.W.looks_findIn X B) (fun self=>PySem.W.bind_fn X self G) (.inl rfl) h
end
noncomputable def putF (f:Str)(v:V):List (Str×V)->List (Str×V)
 | []=>[(f,v)]
 | (g,x)::r=>if g=f then(g,v)::r else(g,x)::putF f v r
theorem cD (f g:Str)(v:V):∀fs:List (Str×V),(putF f v fs).lookup g=if g=f then some v else fs.lookup g
 | []=>by
  show List.lookup g [(f,v)]=_;by_cases h:g=f
  ·have j:(g == f)=true:=beq_iff_eq.mpr h;simp only[List.lookup,j,if_pos h]
  ·have j:(g == f)=false:=beq_eq_false_iff_ne.mpr h;simp only[List.lookup,j,if_neg h]
 | (k,x)::r=>by
  have B:=cD f g v r;rw[show putF f v ((k,x)::r)=(if k=f then(k,v)::r else(k,x)::putF f v r)from rfl];by_cases q:k=f
  ·rw[if_pos q];by_cases h:g=k
   ·have j:(g == k)=true:=beq_iff_eq.mpr h;simp only[List.lookup,j,if_pos (h.trans q)]
   ·have j:(g == k)=false:=beq_eq_false_iff_ne.mpr h;simp only[List.lookup,j,if_neg (fun e:g=f=>h (e.trans q.symm))]
  ·rw[if_neg q];by_cases h:g=k
   ·have j:(g == k)=true:=beq_iff_eq.mpr h;simp only[List.lookup,j,if_neg (fun e:g=f=>q (h.symm.trans e))]
   ·have j:(g == k)=false:=beq_eq_false_iff_ne.mpr h;simp only[List.lookup,j];exact B
theorem pP (f:Str)(v:V):∀fs:List (Str×V),f∈(putF f v fs).map (·.1)/\∀g,g∈fs.map (·.1)->g∈(putF f v fs).map (·.1)
 | []=>⟨by simp[putF],fun g h=>by simp at h⟩
 | (k,x)::r=>by
  obtain⟨B,q⟩:=pP f v r;rw[show putF f v ((k,x)::r)=(if k=f then(k,v)::r else(k,x)::putF f v r)from rfl];by_cases j:k=f
  ·rw[if_pos j];subst j;exact⟨by simp,fun g h=>by simpa using h⟩
  ·rw[if_neg j];refine⟨?_,fun g h=>?_⟩
   ·rw[List.map_cons];exact List.mem_cons_of_mem _ B
   ·rw[List.map_cons]at h⊢;rcases List.mem_cons.mp h with e|e
    ·exact List.mem_cons.mpr (.inl e)
    ·exact List.mem_cons_of_mem _ (q g e)
theorem gA (f:Str)(v:V):∀fs:List (Str×V),(putF f v fs).length<=fs.length+1
 | []=>by simp[putF]
 | (k,x)::r=>by
  have q:=gA f v r;rw[show putF f v ((k,x)::r)=(if k=f then(k,v)::r else(k,x)::putF f v r)from rfl];by_cases j:k=f
  ·rw[if_pos j,List.length_cons,List.length_cons];omega
  ·rw[if_neg j,List.length_cons,List.length_cons];omega
theorem kI.some_of {v:V}{o:Option Value}(r:kI (some v) o):∃u,o=some u/\aT v u:=by
 cases o with
 | none=>exact(show False from r).elim
 | some u=>exact⟨u,rfl,r⟩
theorem kI.none_of {o:Option Value}(r:kI none o):o=none:=by
 cases o with
 | none=>rfl
 | some u=>exact(show False from r).elim
theorem GL {v:V}{u:Value}(r:aT v u):PySem.W.handedIn u=true:=by
 cases v with
 | non=>cases (show u=Value.none from r);rfl
 | bl b=>cases (show u=Value.bool b from r);rfl
 | int i=>obtain⟨t,e⟩:=(show ∃t,u=Value.int i t from r);cases e;rfl
 | str x=>obtain⟨t,e⟩:=(show ∃t,u=Value.str x t from r);cases e;rfl
 | byt b=>obtain⟨t,e⟩:=(show ∃t,u=Value.bytes b t from r);cases e;rfl
 | flt b=>obtain⟨t,e⟩:=(show ∃t,u=Value.float b t from r);cases e;rfl
 | ref a=>cases (show u=Value.ref a from r);rfl
 | ty n=>cases (show u=Value.type n from r);rfl
section
variable {P:Program}{w:World}{H H':Hp}{h h':Heap}{a C dx:Addr}{fs fs':List (Str×V)}
theorem yK (hok:gR P w H h)(e:H a=some (.ins C dx fs)):∃j,DL h a dx C j/\(∀f,kI (fs.lookup f) (j f))/\PySem.Within j (fs.map (·.1))/\fs.length<=1000/\H dx=some (.own a):=by
 obtain⟨d,z,ne,B,j,n,r,q⟩:=(show bY P w H h a (.ins C dx fs)from hok a _ e)
 exact⟨j,⟨B,n,ne⟩,r,q,z,d⟩
end
structure HA (K:PySem.W.Frag)(C:Addr):Prop where
 pg:PySem.W.plainGet K C Str.empty=true
 hd:PySem.W.hasDictIn K C=true
 po:PySem.W.plainOver K C=true
 sa:PySem.W.findIn K (.ref C) "__setattr__" = some (some (.builtin "object.__setattr__"))
theorem HA.get {K:PySem.W.Frag}{C:Addr}(c:HA K C)(f:Str):PySem.W.plainGet K C f=true:=c.pg
noncomputable def iE (K:PySem.W.Frag)(C:Addr)(f:Str):Prop:=PySem.W.findIn K (.ref C) f=some none
theorem iE.taker {K:PySem.W.Frag}{C:Addr}{f:Str}(n:iE K C f):PySem.W.takerIn K C f=some none:=by unfold PySem.W.takerIn;rw[show PySem.W.findIn K (.ref C) f=some none from n];rfl
structure NR (K:PySem.W.Frag)(C:Addr)(m:Str)(f:Addr):Prop where
 at_:PySem.W.findIn K (.ref C) m=some (some (.ref f))
 fn:PySem.W.isFn K (.ref f)=true
 kp:PySem.W.keepIn K (.ref f)=true
section
variable {X:Cx}{pins:cW}{σ:St}{H:Hp}{s:Shared}{a C dx:Addr}{fs:List (Str×V)}{f:Str}{v:V}{A:Around}{E:cE}
theorem C7 {b:Bool}{Q:cE}(I:aO X pins σ H s)(e:H a=some (.ins C dx fs))(c:HA X.K C)(n:iE X.K C f)(l:fs.lookup f=some v)
  (h:∀u j,aO X pins σ H j->aT v u->Q u j):wpAny (model X.prog X.w) A (getAttr (.ref a) f b) Q E s:=by
 obtain⟨B,O,r,_,_,_⟩:=yK I.hok e;obtain⟨u,G,q⟩:=kI.some_of (v:=v) (o:=B f) (by rw[←l];exact r f);exact M0 I.kIn O (c.get f) c.hd n G (GL q) (h u _ (I.tok _) q)
theorem tG {m:Str}{g:Addr}{pl:Sem Bool}{Q:Value×bZ->Shared->Prop}(I:aO X pins σ H s)(e:H a=some (.ins C dx fs))(c:HA X.K C)(k:NR X.K C m g)(l:fs.lookup m=none)
  (h:Q (.ref g,[.ref a]) s):wpAny (model X.prog X.w) A (getMethod (.ref a) m pl) Q E s:=by
 obtain⟨j,O,r,_,_,_⟩:=yK I.hok e;have q:j m=none:=kI.none_of (by rw[←l];exact r m);exact JW I.kIn O (c.get m) k.at_ k.fn q h
theorem B4 {y:V}{u:Value}{Q:Unit->Shared->Prop}(I:aO X pins σ H s)(e:H a=some (.ins C dx fs))(c:HA X.K C)(n:iE X.K C f)(hl:fs.length<1000)(S:aT y u)
  (h:∀G,aO X pins σ (upd H a (.ins C dx (putF f y fs))) G->Q () G):wpAny (model X.prog X.w) A (setAttr (.ref a) f u) Q E s:=by
 obtain⟨L,O,r,B,_,ho⟩:=yK I.hok e;have hz:(fs.map (·.1)).length<=sizeLine:=by rw[List.length_map,sizeLine_eq];omega
 refine K9 I.kIn O c.sa c.po n.taker c.hd B hz fun h' j N=>h _ ?_;have hd:∃o,h'.get? dx=some o:=let⟨o,_,_,e',_⟩:=j.ns;⟨o,e'⟩;refine I.write (x:=a) (e:=dx) (by rw[e];exact True.intro) (.inr ho) (fun b q Z z=>(N.2 b Z).trans z) hd ?_;refine⟨by rw[aB O.ne];exact ho,?_,O.ne,j.obj,_,j.ns,fun g=>?_,fun g U=>?_⟩
 ·have:=gA f y fs;omega
 ·show kI ((putF f y fs).lookup g) (if g=f then some u else L g);rw[cD];by_cases q:g=f
  ·rw[if_pos q,if_pos q];exact S
  ·rw[if_neg q,if_neg q];exact r g
 ·by_cases q:g=f
  ·rw[q];exact(pP f y fs).1
  ·refine(pP f y fs).2 g (B g fun z=>U ?_);show(if g=f then some u else L g)=none;rw[if_neg q];exact z
theorem aO.made (I:aO X pins σ H s):aO X pins σ (upd (upd H s.heap.objs.size (.own (s.heap.objs.size+1))) (s.heap.objs.size+1) (.ins C s.heap.objs.size []))
  {s with heap:=(s.heap.push PySem.W.emptyDict).push (PySem.W.instObj C s.heap.objs.size)}:=by
 have j:(s.heap.push PySem.W.emptyDict).get? s.heap.objs.size=some PySem.W.emptyDict:=Heap.get?_push_size s.heap rfl;have N:((s.heap.push PySem.W.emptyDict).push (PySem.W.instObj C s.heap.objs.size)).get? (s.heap.objs.size+1)=some (PySem.W.instObj C s.heap.objs.size):=by
  have:=Heap.get?_push_size (s.heap.push PySem.W.emptyDict) (o:=PySem.W.instObj C s.heap.objs.size) rfl
  rwa [Heap.size_push]at this
 have L:(s.heap.push PySem.W.emptyDict).Ns s.heap.objs.size (fun _=>none):=⟨PySem.W.emptyDict,#[],_,j,rfl,(fun e G=>absurd G (by simp)),fun _=>rfl⟩
 have S:=I.laid (a:=s.heap.objs.size) (o:=.own (s.heap.objs.size+1)) (h':=s.heap.push PySem.W.emptyDict) (t':=s.toks) (fun b u q=>Heap.get?_push_of_some _ q) (Nat.le_refl _) ⟨_,j⟩;refine S.laid (a:=s.heap.objs.size+1) (o:=.ins C s.heap.objs.size []) (t':=s.toks) (fun b u q=>Heap.get?_push_of_some _ q) (Nat.le_of_eq (Heap.size_push _ _)) ?_;have ne:s.heap.objs.size≠s.heap.objs.size+1:=Nat.ne_of_lt (Nat.lt_succ_self _);refine⟨by rw[aB ne,upd_same],Nat.zero_le _,ne,N,fun _=>none,(Heap.Ns1.of_empty L).at fun o q=>Heap.get?_push_of_some _ q,fun _=>True.intro,fun y B=>absurd rfl B⟩
theorem NH {prog:Program}{w:World}{env:Env}{e:Expr}{f:Str}{j:Pos}{s:Shared}{Q:cE}(B:attributeBase e f env (eval e env)=eval e env)
  (h:wpAny (model prog w) A (eval e env) (fun o q=>wpAny (model prog w) A (getAttr o f true) Q E q) E s):wpAny (model prog w) A (eval (.Attribute e f j) env) Q E s :=
 Attribute_any_ h (by rw[arm_eval_Attribute,B])
end
noncomputable def tFld (K:PySem.W.Frag)(q:TE)(f:Str):TE:=fun σ H Q=>q σ H fun x j=>∃a C B fs v,x = .ref a/\j a=some (.ins C B fs)/\HA K C/\iE K C f/\fs.lookup f=some v/\Q v j
noncomputable def sFld (K:PySem.W.Frag)(B tv:TE)(f:Str):TS:=fun D σ H=>tv σ H fun y G=>B σ G fun x q=>∃a C j fs,x = .ref a/\q a=some (.ins C j fs)/\HA K C/\iE K C f/\fs.length<1000 /\
 D.nx σ (upd q a (.ins C j (putF f y fs)))
section
variable {X:Cx}{o e value:Expr}{f:Str}{pos pos' tpos:Pos}{ta tv:TE}
theorem IL (L:PE X e ta)(N:attributeBase e f X.env (eval e X.env)=eval e X.env):PE X (.Attribute e f pos) (tFld X.K ta f):=by intro j s σ H Q I h;refine NH N (thn (L j s σ H _ I h) fun u s1 ⟨x,H1,Z,B,a,C,dx,fs,v,ex,S,c,n,l,q⟩=>?_);subst ex;obtain rfl:u=Value.ref a:=B;exact C7 Z S c n l fun u' s2 U G=>⟨v,H1,U,G,q⟩
theorem xO (ha:PE X o ta)(U:PE X value tv)(Z:swapsWith value (some (.Attribute o f pos')) pos.line X.env=pure false):PS X (.Assign [.Attribute o f pos'] value pos) (sFld X.K ta tv f):=by intro j s σ H D I h;refine plainObj_wpAny_Assign_Attribute (thn (U j s σ H _ I h) fun u B ⟨y,H1,I1,G,q⟩=>thn (ha j B σ H1 _ I1 q) fun S s2 ⟨x,H2,I2,L,a,C,dx,fs,ex,ea,c,n,l,N⟩=>?_) Z;subst ex;obtain rfl:S=Value.ref a:=L;exact B4 I2 ea c n l G fun s3 I3=>⟨σ,_,I3,N⟩
theorem N2 {pl:Sem Bool}{m:Str}{B:Pos}{args:kU}{j:cW}{s:Shared}{σ:St}{H:Hp}{Q:cE}{N:TE}(he:PE X e N)(I:aO X j σ H s)
  (h:N σ H fun x L=>∃a C S fs g,x = .ref a/\L a=some (.ins C S fs)/\HA X.K C/\NR X.K C m g/\fs.lookup m=none /\
   ∀G,aO X j σ L G->wpAny (model X.prog X.w) X.A (callWith pos (.ref g) [.ref a] (backTo pos (starEach args X.env)) (backToKw pos (keywordEach [] X.env))) Q X.xe G)
  (ht:eval (.Call (.Attribute e m B) args [] pos) X.env=(do
   let ov ←eval e X.env
   standAt B.atName
   let(f,first) ←holding [ov] (getMethod ov m pl)
   callWith pos f first (backTo pos (starEach args X.env)) (backToKw pos (keywordEach [] X.env)))) :
  wpAny (model X.prog X.w) X.A (eval (.Call (.Attribute e m B) args [] pos) X.env) Q X.xe s:=by
 refine PySem.W.methodCall_KW (pl:=pl) (thn (he j s σ H _ I h) fun u G ⟨x,L,U,Z,a,C,S,fs,g,ex,ea,c,k,l,q⟩=>?_) ht;subst ex;obtain rfl:u=Value.ref a:=Z;exact tG U ea c k l (q G U)
end
structure eK (k:Nat)(A:Around):Prop where
 hd:A.handled=none
 dp:A.depth+3 * k+5<recursionLimit
 un:A.units+16 * k+200<cLine
theorem eK.mono {j k:Nat}{A:Around}(r:eK k A)(h:j<=k):eK j A:=⟨r.hd,by have:=r.dp;omega,by have:=r.un;omega⟩
theorem eK.deeper {k:Nat}{A:Around}(r:eK (k+1) A)(env:Env):eK k (A.deeper env) :=
 ⟨r.hd,by have:=r.dp;show A.depth+1+3 * k+5<_;omega,by have:=r.un;show A.units+3+16 * k+200<_;omega⟩
theorem eK.in1 {k:Nat}{A:Around}(r:eK (k+1) A):eK k A.in1 :=
 ⟨r.hd,by have:=r.dp;show A.depth+3 * k+5<_;omega,by have:=r.un;show A.units+1+16 * k+200<_;omega⟩
theorem CU {A:Around}{C:Addr}{us:bZ}{j:List (Str×Value)}:(A.under (.builtin "type.__call__" ⟨.ref C::us,j⟩)).depth=A.depth+1:=by
 first|rfl|simp[Around.under,Code.weight,Code.isCreation,Code.isGuard,Code.isCaller,Code.frames,Code.isFrame,guardIds]
theorem CT {A:Around}{C:Addr}{us:bZ}{j:List (Str×Value)}:(A.under (.builtin "type.__call__" ⟨.ref C::us,j⟩)).units=A.units+1:=by
 first|rfl|simp[Around.under,Code.cUnits,Code.frames,Code.isFrame]
theorem eK.make {k:Nat}{A:Around}(r:eK (k+1) A)(C:Addr)(us:bZ)(j:List (Str×Value)):eK k (A.under (.builtin "type.__call__" ⟨.ref C::us,j⟩)) :=
 ⟨r.hd,by have:=r.dp;rw[CU];omega,by have:=r.un;rw[CT];omega⟩
theorem eK.depth {k:Nat}{A:Around}(r:eK k A):A.depth<recursionLimit:=by have:=r.dp;omega
theorem eK.units {k:Nat}{A:Around}(r:eK k A):A.units+64<cLine:=by have:=r.un;omega
noncomputable def tNil:TA:=fun _ H Q=>Q [] H
noncomputable def tCons (j:TE)(tr:TA):TA:=fun σ H Q=>j σ H fun x B=>tr σ B fun xs q=>Q (x::xs) q
section
variable {X:Cx}{e:Expr}{es:kU}{te:TE}{t:TA}{pos:Pos}
theorem aC:PA X [] tNil:=fun _ _ _ _ H Q I h=>Calls.spliced_nil ⟨[],H,I,.nil,h⟩
theorem aA (Z:PE X e te)(U:PA X es t)(S:starEach (e::es) X.env=(false,eval e X.env)::starEach es X.env:=by rfl):PA X (e::es) (tCons te t):=by intro q j s σ H Q I h;rw[S];show wpAny _ _ (spliced ((false,eval e X.env)::backTo q (starEach es X.env))) _ _ s;refine Calls.spliced_cons (thn (Z j s σ H _ I h) fun u B ⟨x,H1,I1,r1,N⟩=>?_);exact thn (U q j B σ H1 _ I1 N) fun us s2 ⟨xs,H2,I2,G,L⟩=>⟨x::xs,H2,I2,.cons r1 G,L⟩
noncomputable def tTup (t:TA):TE:=fun σ H Q=>t σ H fun xs j=>xs.length<=sizeLine/\∀p,j p=none->Q (.ref p) (upd j p (.tup xs))
noncomputable def tLst (t:TA):TE:=fun σ H Q=>t σ H fun xs j=>xs.length<=sizeLine/\∀p,j p=none->Q (.ref p) (upd j p (.lst xs))
theorem fI {x1}(h:PA X es t):PE X (.Tuple es x1 pos) (tTup t):=by intro j s σ H Q I N;refine wpAny_Tuple_spliced (thn (h pos j s σ H _ I N) fun us B ⟨xs,L,G,r,z,q⟩=>⟨by rw[←r.length];exact z,?_⟩);have S:L B.heap.objs.size=none:=G.hok.fresh (Nat.le_refl _);refine⟨.ref B.heap.objs.size,upd L B.heap.objs.size (.tup xs),G.laid (t':=B.toks) (fun b u e=>Heap.get?_push_of_some _ e) (Nat.le_refl _) ?_,rfl,q _ S⟩;exact⟨z,us,r,⟨_,Heap.get?_push_size _ rfl,rfl,_,rfl⟩⟩
theorem cI (h:PA X es t):PE X (.List es pos) (tLst t):=by intro j s σ H Q I N;refine wpAny_List_spliced (thn (h pos j s σ H _ I N) fun us B ⟨xs,L,G,r,z,q⟩=>⟨by rw[←r.length];exact z,?_⟩);have S:L B.heap.objs.size=none:=G.hok.fresh (Nat.le_refl _);refine⟨.ref B.heap.objs.size,upd L B.heap.objs.size (.lst xs),G.laid (t':=B.toks) (fun b u e=>Heap.get?_push_of_some _ e) (Nat.le_refl _) ?_,rfl,q _ S⟩;exact⟨z,us,0,r,Heap.get?_push_size _ rfl⟩
end
noncomputable abbrev Sp:=List V->Hp->VK->XK->Prop
noncomputable abbrev zB:=List Env->Hp->Shared->XK->cE
structure uS (P:Program)(w:World)(K:PySem.W.Frag)(mg:fM)(base:Heap)(A:Around)(outer:List Env)(s:Shared)(H:Hp):Prop where
 frames:A.frames=some outer
 mod:Mod K mg base
 bs:∀b o,base.get? b=some o->s.heap.get? b=some o/\H b=none
 bsz:base.objs.size<=s.heap.objs.size
 funs:s.heap.FunFrames base outer
 frf:∀b∈frs outer,H b=none
 hok:gR P w H s.heap
 bare:AllBare s.gens
noncomputable def CE (outer:List Env)(P:Program)(w:World)(H:Hp)(s:Shared)(Q:VK)(u:Value)(j:Shared):Prop :=
 ∃v H',j.os=s.os/\AllBare j.gens/\Un (frs outer) [] H H' s.heap j.heap/\gR P w H' j.heap/\aT v u/\Q v H'
noncomputable def CR (CX:zB)(outer:List Env)(P:Program)(w:World)(H:Hp)(s:Shared)(Q:VK)(E:XK)(r:Result)(j:Shared):Prop :=
 match r with
 | .ok (.ret u)=>CE outer P w H s Q u j
 | .ok _=>False
 | .error e=>CX outer H s E e j
structure cA (P:Program)(w:World)(K:PySem.W.Frag)(mg:fM)(base:Heap)(CX:zB)(k:Nat)(f:Addr)(fd:FuncData)(ps:aW)(sp:Sp):Prop where
 len:∀vs H Q E,sp vs H Q E->vs.length=ps.length
 run:∀(A:Around) (outer:List Env) (s:Shared) (H:Hp) (args:Args) (us:bZ) (vs:List V) (Q:VK) (E:XK),eK k A->uS P w K mg base A outer s H->BindsTo s fd args (ps.zip us)->aR vs us->sp vs H Q E ->
  codeAny (model P w) A (.call (.ref f) args) (CR CX outer P w H s Q E) s
theorem cA.mono {P:Program}{w:World}{K:PySem.W.Frag}{mg:fM}{base:Heap}{CX:zB}{j k:Nat}{f:Addr}{q:FuncData}{ps:aW}{sp:Sp}(F:cA P w K mg base CX j f q ps sp)(h:j<=k) :
  cA P w K mg base CX k f q ps sp:=⟨F.len,fun A outer s H args us vs Q E B=>F.run A outer s H args us vs Q E (B.mono h)⟩
theorem uS.make {P:Program}{w:World}{K:PySem.W.Frag}{mg:fM}{base:Heap}{A:Around}{outer:List Env}{s:Shared}{H:Hp}(e:uS P w K mg base A outer s H)(C:Addr)(us:bZ)(j:List (Str×Value)) :
  uS P w K mg base (A.under (.builtin "type.__call__" ⟨.ref C::us,j⟩)) outer s H:=⟨by first|exact e.frames|(simpa [Around.under,Code.envs,Code.isFrame,pushEnvs] using e.frames),e.mod,e.bs,e.bsz,e.funs,e.frf,e.hok,e.bare⟩
section
variable {X:Cx}{pins:cW}{σ:St}{H:Hp}{s s':Shared}
theorem aO.env0 (I:aO X pins σ H s):uS X.prog X.w X.K X.mg X.base X.A X.stack s H :=
 ⟨I.ok.frames,I.ok.mod,I.bs,Nat.le_trans I.ok.bsz I.sz,I.stack,I.stkFree,I.hok,I.bare⟩
theorem aO.after {Q:VK}{u:Value}(I:aO X pins σ H s)(h:CE X.stack X.prog X.w H s Q u s'):EP X pins σ Q u s':=by obtain⟨v,H',os,bare,un,hok,r,q⟩:=h;obtain⟨B,g,d,t,j⟩:=s';obtain rfl:j=s.os:=os;exact⟨v,H',I.call (h':=B) (g':=g) (d':=d) (t':=t) (ch:=[]) un hok bare (fun b z=>absurd z (by simp)),r,q⟩
end
noncomputable def tCall (sp:Sp)(j:List V)(E:XK)(t:TA):TE:=fun σ H Q=>t σ H fun vs q=>sp (vs++j) q Q E
noncomputable def tMeth (C:Addr)(m:Str)(sp:Sp)(j:List V)(E:XK)(B:TE)(t:TA):TE:=fun σ H Q=>B σ H fun x q=>∃a G fs,x = .ref a/\q a=some (.ins C G fs)/\fs.lookup m=none /\
 t σ q fun vs I=>sp (x::(vs++j)) I Q E
noncomputable def tMake (C:Addr)(sp:Sp)(q:List V)(E:XK)(t:TA):TE:=fun σ H Q=>t σ H fun vs B=>∀x j,B x=none->B j=none->j≠x ->
 sp (.ref x::(vs++q)) (upd (upd B j (.own x)) x (.ins C j [])) (fun v G=>v = .non/\Q (.ref x) G) E
noncomputable def fN (K:PySem.W.Frag)(j:FuncData)(ps:aW)(ds:bZ):Prop :=
 ∀(s:Shared) (us:bZ),K.In s.heap->(us++ds).length=ps.length->BindsTo s j ⟨us,[]⟩ (ps.zip (us++ds))
theorem fN.all {K:PySem.W.Frag}{q:FuncData}{ps:aW}(h:∀us:bZ,us.length=ps.length->bindArgs q ⟨us,[]⟩=pure (ps.zip us)):fN K q ps []:=fun s us _ j=>by rw[List.append_nil]at j⊢;exact .of_eq (h us j)
noncomputable def jO (CX:zB)(X:Cx)(E:XK):Prop:=∀(j:cW) (σ:St) (H:Hp) (s:Shared) (e:Value) (s':Shared),aO X j σ H s->CX X.stack H s E e s'->X.xe e s'
section
variable {X:Cx}{CX:zB}{k:Nat}{f C:Addr}{fd:FuncData}{ps:aW}{sp:Sp}{dvs:List V}{ds:bZ}{E:XK}{x m:Str}{p pos apos:Pos}{e o:Expr}{es:kU}{ta:TE}{t:TA}
theorem IB {j:cW}{σ:St}{H:Hp}{s:Shared}{Q:VK}{us:bZ}{vs:List V}(F:cA X.prog X.w X.K X.mg X.base CX k f fd ps sp)(N:eK k X.A)(U:fN X.K fd ps ds)(hd:aR dvs ds)(L:jO CX X E)
  (I:aO X j σ H s) (r:aR vs us) (h:sp (vs++dvs) H Q E):wpAny (model X.prog X.w) X.A (call (.ref f) us) (EP X j σ Q) X.xe s:=by
 have B:aR (vs++dvs) (us++ds):=r.append hd;have S:(us++ds).length=ps.length:=by rw[←B.length];exact F.len _ _ _ _ h
 refine wpAny_call (codeAny_mono (F.run X.A X.stack s H ⟨us,[]⟩ (us++ds) (vs++dvs) Q E N I.env0 (U s us I.kIn S) B h) fun r G q=>?_);cases r with
 | error e=>exact L j σ H s e G I q
 | ok Z =>
  cases Z with
  | ret u=>exact I.after q
  | next=>exact False.elim q
  | brk=>exact False.elim q
  | cont=>exact False.elim q
theorem LW (F:cA X.prog X.w X.K X.mg X.base CX k f fd ps sp)(S:eK k X.A)(hg:Gl X x)(U:X.mg x=some (.ref f))(Z:PySem.W.keepIn X.K (.ref f)=true)(hb:fN X.K fd ps ds)(hd:aR dvs ds)(N:jO CX X E)
  (ha:PA X (e::es) t) (G:(x == ("__debug__" : Str))=false:=by decide) (he:starEach (e::es) X.env=(false,eval e X.env)::starEach es X.env:=by rfl) (B:(backTo pos (starEach es X.env)).any (·.1)=false:=by rfl) :
  PE X (.Call (.Name x p) (e::es) [] pos) (tCall sp dvs E t):=by
 intro j s σ H Q I h;refine wpAny_Call_Name_kw (n9 I hg U ?_ G);refine PySem.W.callWith_K (h₀:=X.base) I.ok.mod.kin Z (thn (ha pos j s σ H _ I h) fun us s1 ⟨vs,H1,L,r,q⟩=>⟨L.kIn,?_⟩) he B;exact IB F S hb hd N L r q
theorem LS {pl:Sem Bool}(he:PE X o ta)(c:HA X.K C)(L:NR X.K C m f)(F:cA X.prog X.w X.K X.mg X.base CX k f fd ps sp)(hr:eK k X.A)(hb:fN X.K fd ps ds)(hd:aR dvs ds)(hx:jO CX X E)(ha:PA X (e::es) t)
  (B:starEach (e::es) X.env=(false,eval e X.env)::starEach es X.env:=by rfl) (G:(backTo pos (starEach es X.env)).any (·.1)=false:=by rfl)
  (ht:eval (.Call (.Attribute o m apos) (e::es) [] pos) X.env=(do
   let ov ←eval o X.env
   standAt apos.atName
   let(f,first) ←holding [ov] (getMethod ov m pl)
   callWith pos f first (backTo pos (starEach (e::es) X.env)) (backToKw pos (keywordEach [] X.env))):=by rfl) :
  PE X (.Call (.Attribute o m apos) (e::es) [] pos) (tMeth C m sp dvs E ta t):=by
 intro j s σ H Q I h;refine PySem.W.methodCall_KW (pl:=pl) (thn (he j s σ H _ I h) fun u U ⟨x,H1,S,Z,a,dx,fs,ex,ea,l,q⟩=>?_) ht;subst ex;obtain rfl:u=Value.ref a:=Z;refine tG S ea c L l ?_;refine PySem.W.callWith_K (first:=[.ref a]) (h₀:=X.base) I.ok.mod.kin L.kp (thn (ha pos j U σ H1 _ S q) fun us s2 ⟨vs,H2,N,r,q2⟩=>⟨N.kIn,?_⟩) B G;exact IB (us:=.ref a::us) (vs:=.ref a::vs) F hr hb hd hx N (.cons rfl r) q2
structure Mk (K:PySem.W.Frag)(C f:Addr):Prop where
 makes:PySem.W.makesIn K C=true
 init:PySem.W.findIn K (.ref C) "__init__" = some (some (.ref f))
 fn:PySem.W.isFn K (.ref f)=true
 kp:PySem.W.keepIn K (.ref C)=true
theorem IA {j:cW}{σ:St}{H:Hp}{s:Shared}{Q:VK}{us:bZ}{vs:List V}(M:Mk X.K C f)(F:cA X.prog X.w X.K X.mg X.base CX k f fd ps sp)(hr:eK (k+1) X.A)(hb:fN X.K fd ps ds)(hd:aR dvs ds)
  (hx:jO CX X E) (I:aO X j σ H s) (r:aR vs us)
  (h:∀x B,H x=none->H B=none->B≠x->sp (.ref x::(vs++dvs)) (upd (upd H B (.own x)) x (.ins C B [])) (fun v H2=>v = .non/\Q (.ref x) H2) E) :
  wpAny (model X.prog X.w) X.A (call (.ref C) us) (EP X j σ Q) X.xe s:=by
 have N:=h (s.heap.objs.size+1) s.heap.objs.size (I.hok.fresh (Nat.le_succ _)) (I.hok.fresh (Nat.le_refl _)) (Nat.ne_of_lt (Nat.lt_succ_self _));have G:=aO.made (C:=C) I;have L:aR (V.ref (s.heap.objs.size+1)::(vs++dvs)) (Value.ref (s.heap.objs.size+1)::(us++ds)):=.cons rfl (r.append hd);have hl:(Value.ref (s.heap.objs.size+1)::us++ds).length=ps.length:=by have e:=L.length;rw[F.len _ _ _ _ N]at e;exact e.symm
 refine wpAny_call (JN (f:=f) I.kIn M.makes M.init (beq_iff_eq.mp M.fn) (codeAny_mono (F.run _ X.stack _ _ ⟨Value.ref (s.heap.objs.size+1)::us,[]⟩ (Value.ref (s.heap.objs.size+1)::(us++ds)) _ _ E (hr.make C us [])
  (G.env0.make C us []) (hb _ (Value.ref (s.heap.objs.size+1)::us) G.kIn hl) L N) fun r S q=>?_))
 cases r with
 | error e=>exact hx j σ _ _ e S G q
 | ok fl =>
  cases fl with
  | ret u =>
   obtain⟨v,H',I3,U,ev,Z⟩:=G.after q;subst ev;exact⟨U,⟨V.ref (s.heap.objs.size+1),H',I3,rfl,Z⟩⟩
  | next=>exact False.elim q
  | brk=>exact False.elim q
  | cont=>exact False.elim q
theorem LU (M:Mk X.K C f)(F:cA X.prog X.w X.K X.mg X.base CX k f fd ps sp)(S:eK (k+1) X.A)(Z:Gl X x)(U:X.mg x=some (.ref C))(hb:fN X.K fd ps ds)(hd:aR dvs ds)(N:jO CX X E)
  (ha:PA X (e::es) t) (G:(x == ("__debug__" : Str))=false:=by decide) (he:starEach (e::es) X.env=(false,eval e X.env)::starEach es X.env:=by rfl) (B:(backTo pos (starEach es X.env)).any (·.1)=false:=by rfl) :
  PE X (.Call (.Name x p) (e::es) [] pos) (tMake C sp dvs E t):=by
 intro j s σ H Q I h;refine wpAny_Call_Name_kw (n9 I Z U ?_ G);refine PySem.W.callWith_K (h₀:=X.base) I.ok.mod.kin M.kp (thn (ha pos j s σ H _ I h) fun us s1 ⟨vs,H1,L,r,q⟩=>⟨L.kIn,?_⟩) he B;exact IA M F S hb hd N L r q
end
noncomputable def PK (X:Cx)(q:List Keyword)(t:TA):Prop :=
 ∀(j:Pos) (pins:cW) (s:Shared) (σ:St) (H:Hp) (Q:List V->Hp->Prop),aO X pins σ H s->t σ H Q->wpAny (model X.prog X.w) X.A (evalAll ((backToKw j (keywordEach q X.env)).map (·.2))) (AP X pins σ Q) X.xe s
section
variable {X:Cx}{CX:zB}{k:Nat}{f C:Addr}{fd:FuncData}{ps ks:aW}{sp:Sp}{E:XK}{x m:Str}{p pos apos kpos:Pos}{e o:Expr}{es:kU}{kws:List Keyword}{te ta:TE}{t tk:TA}{nm:Option Str}
theorem O3:PK X [] tNil:=fun _ _ _ _ H Q I h=>wpAny_evalAll_nil ⟨[],H,I,.nil,h⟩
theorem LN (U:PE X e te)(S:PK X kws t):PK X (⟨nm,e,kpos⟩::kws) (tCons te t):=by intro q j s σ H Q I h;show wpAny _ _ (evalAll ((do let v ←eval e X.env;standAt q;pure v)::(backToKw q (keywordEach kws X.env)).map (·.2))) _ _ s;refine wpAny_evalAll_cons (wpAny_bind (thn (U j s σ H _ I h) fun u B ⟨x,H1,I1,r1,N⟩=>wpAny_bind (wpAny_standAt (wpAny_pure ?_))));exact thn (S q j B σ H1 _ I1 N) fun us s2 ⟨xs,H2,Z,G,L⟩=>⟨x::xs,H2,Z,.cons r1 G,L⟩
variable {g:bZ->bZ->bZ}{gV:List V->List V->List V}
end
structure aS (N P:aW)(sc:Scope):Prop where
 kind:sc.kind = .function
 co:sc.isCoroutine=false
 gen:sc.isGenerator=false
 nd:N.Nodup
 pre:N.take P.length=P
 par:∀x∈P,sc.names.lookup x=some .local∨sc.names.lookup x=some .cell
 nofree:∀y∈sc.names,y.2≠.free
theorem wM {j:Str->Option NameKind}{x:Str}:∀{binds:List (Str×Value)} {m:fM},(∀v,(x,v)∉binds)->bindL j binds m x=m x
 | [],_,_=>rfl
 | (n,v)::r,m,h=>by
  unfold bindL;rw[wM fun w q=>h w (List.mem_cons_of_mem _ q)];split
  ·have:x≠n:=by rintro rfl;exact h v List.mem_cons_self
   simp[this]
  ·rfl
theorem wO {j:Str->Option NameKind}{x:Str}:∀{binds:List (Str×Value)} {m:fM},(∀v,(x,v)∉binds)->bindC j binds m x=m x
 | [],_,_=>rfl
 | (n,v)::r,m,h=>by
  unfold bindC;rw[wO fun w q=>h w (List.mem_cons_of_mem _ q)];split
  ·rfl
  ·have:x≠n:=by rintro rfl;exact h v List.mem_cons_self
   simp[this]
theorem wN {j:Str->Option NameKind}{x:Str}{v:Value}:∀{P:aW} {vs:bZ} {i:Nat} {m:fM},P.Nodup->P[i]?=some x->vs[i]?=some v->j x=some .local ->
  bindL j (P.zip vs) m x=some v
 | [],_,_,_,_,h,_,_=>by simp at h
 | _::_,[],_,_,_,_,h,_=>by simp at h
 | p::P,w::vs,0,m,nd,B,q,G=>by
  simp at B q;subst B;subst q;show bindL j ((p,w)::P.zip vs) m p=_;unfold bindL;rw[wM fun v I=>(List.nodup_cons.mp nd).1 (List.of_mem_zip I).1,if_pos G];simp
 | p::P,w::vs,i+1,m,nd,B,q,G=>by show bindL j ((p,w)::P.zip vs) m x=_;unfold bindL;exact wN (i:=i) (List.nodup_cons.mp nd).2 (by simpa using B) (by simpa using q) G
theorem wP {j:Str->Option NameKind}{x:Str}{v:Value}:∀{P:aW} {vs:bZ} {i:Nat} {m:fM},P.Nodup->P[i]?=some x->vs[i]?=some v->j x≠some .local ->
  bindC j (P.zip vs) m x=some v
 | [],_,_,_,_,h,_,_=>by simp at h
 | _::_,[],_,_,_,_,h,_=>by simp at h
 | p::P,w::vs,0,m,nd,B,q,G=>by
  simp at B q;subst B;subst q;show bindC j ((p,w)::P.zip vs) m p=_;unfold bindC;rw[wO fun v I=>(List.nodup_cons.mp nd).1 (List.of_mem_zip I).1,if_neg G];simp
 | p::P,w::vs,i+1,m,nd,B,q,G=>by show bindC j ((p,w)::P.zip vs) m x=_;unfold bindC;exact wP (i:=i) (List.nodup_cons.mp nd).2 (by simpa using B) (by simpa using q) G
noncomputable def start (N:aW)(vs:List V):St:=vs.map some++List.replicate (N.length - vs.length) none
noncomputable def cxOf (CX:zB)(P:Program)(w:World)(K:PySem.W.Frag)(mg:fM)(base:Heap)(N:aW)(j:Str)(scope:Scope)(f:Addr)(B:Value)(A:Around)(outer:List Env)(s:Shared)(H:Hp)(E:XK):Cx where
 prog:=P
 w:=w
 K:=K
 mg:=mg
 base:=base
 A:=A.deeper (envOfC j scope s.heap.objs.size f B)
 N:=N
 s₀:=s
 H₀:=H
 env:=envOfC j scope s.heap.objs.size f B
 outer:=outer
 stack:=envOfC j scope s.heap.objs.size f B::outer
 ex:=[]
 calm:=true
 fn:=fun _=>true
 pn:=[]
 xe:=fun e G=>wpAny (model P w) (A.deeper (envOfC j scope s.heap.objs.size f B)) (leaving (envOfC j scope s.heap.objs.size f B) e) (fun _ q=>CX outer H s E e q) (fun I q=>CX outer H s E I q) G
theorem A7 {j:Scope}{n:Nat}{x:Str}(h:j.names.lookup x=some .cell):∃c,(cellsFrom n j.names []).lookup x=some c:=by have q:=PySem.W.cellsFrom_some j.names n [] (.inl h);exact Option.isSome_iff_exists.mp q
theorem vW {CX:zB}{P:Program}{w:World}{K:PySem.W.Frag}{mg:fM}{base:Heap}{N ps:aW}{j:Str}{scope:Scope}{f:Addr}{cd:Value}{A:Around}{outer:List Env}{s s1:Shared}{H:Hp}{E:XK}{us:bZ}{vs:List V}
  (S:aS N ps scope) (hd:A.handled=none) (G:uS P w K mg base A outer s H) (hl:vs.length=ps.length) (r:aR vs us)
  (x:InCallC s s.heap.objs.size (bindL (envOfC j scope s.heap.objs.size f cd).kindOf (ps.zip us) fun _=>none) (cellsFrom (s.heap.objs.size+1) scope.names []) (bindC (envOfC j scope s.heap.objs.size f cd).kindOf (ps.zip us) fun _=>none) s1) :
  aO (cxOf CX P w K mg base N j scope f cd A outer s H E) [] (start N vs) H s1:=by
 have hpl:ps.length<=N.length:=by have:=congrArg List.length S.pre;rw[List.length_take]at this;omega
 obtain⟨h1,tk,rfl,hk⟩:=x.done;have I:∀b:Addr,b∉(cxOf CX P w K mg base N j scope f cd A outer s H E).ex:=fun b z=>absurd (show b∈([]:List Addr)from z) (by simp)
 refine⟨⟨G.mod,S.kind,rfl,rfl,Nat.le_refl _,fun y z c h1 B=>?_,fun y L=>?_,fun y c _ h=>?_,fun _=>hd,Around.frames_deeper G.frames,.inr ⟨rfl,rfl⟩,fun b z=>absurd z (I b),G.bs,G.bsz,fun b _ _=>I b,fun b z=>absurd z (I b),G.funs,G.frf⟩,
  rfl,G.bare,Un.kept hk,⟨_,x.toInCall.ns,fun i y v h1 B h3=>?_⟩,fun y c h=>⟨_,x.cell y c h⟩,G.hok.fresh (Nat.le_refl _),fun y c h=>?_,fun p Z=>absurd (show p∈([]:cW)from Z) (by simp),G.hok.kept hk,?_⟩
 ·exact name_of_addr x.apart (PySem.mem_of_lookup h1) (PySem.mem_of_lookup B)
 ·have L:scope.names.lookup y=some .cell∨scope.names.lookup y=some .free:=L;rcases L with L|L
  ·exact A7 L
  ·exact absurd rfl (S.nofree _ (PySem.mem_of_lookup L))
 ·exact Nat.le_of_lt (x.above y c (PySem.mem_of_lookup h))
 ·have hi:i<vs.length:=by
   unfold start at B;by_cases hi:i<vs.length
   ·exact hi
   ·rw[List.getElem?_append_right (by simpa using hi)]at B;rw[List.getElem?_replicate]at B;split at B <;> cases B
  have ha:vs[i]?=some v:=by
   unfold start at B;rw[List.getElem?_append_left (by simpa using hi),List.getElem?_map]at B;cases e:vs[i]? with
   | none=>rw[e]at B;cases B
   | some a=>rw[e]at B;cases B;rfl
  obtain⟨u,hu,rv⟩:=r.get ha;have Z:ps[i]?=some y:=by rw[←S.pre,List.getElem?_take_of_lt (by omega)];exact h1
  have U:ps.Nodup:=by rw[←S.pre];exact S.nd.sublist (List.take_sublist _ _)
  refine⟨u,rv,?_⟩;rcases S.par y (List.mem_of_getElem? Z)with k|k
  ·exact .inl ⟨k,wN U Z hu k⟩
  ·obtain⟨c,e⟩:=A7 (n:=s.heap.objs.size+1) k;refine .inr ⟨.inl k,c,e,?_⟩;have q:=x.cell y c e;rw[wP U Z hu (by show scope.names.lookup y≠_;rw[k];decide)]at q;exact q
 ·exact G.hok.fresh (Nat.le_of_lt (x.above y c (PySem.mem_of_lookup h)))
 ·unfold start;show _=N.length;rw[List.length_append,List.length_map,List.length_replicate];omega
theorem N4 {CX:zB}{P:Program}{w:World}{K:PySem.W.Frag}{mg:fM}{base:Heap}{k:Nat}{f:Addr}{name j:Str}{G:Arguments}{body:List Stmt}{scope:Scope}{dV kV doc pm B ct oc:Value}{an od:Option Addr}
  {osl:Array (Option Value)} {N ps:aW} {sp:Sp} (lk:K.lookup f=some ⟨oc,od,.func (PySem.W.fnOf name j G body scope dV kV doc pm an B ct),osl⟩) (hcd:PySem.W.codeIn K B j=true) (S:aS N ps scope)
  (len:∀vs H Q E,sp vs H Q E->vs.length=ps.length)
  (U:∀(A:Around) (outer:List Env) (s:Shared) (H:Hp) (vs:List V) (Q:VK) (E:XK),eK k (A.deeper (envOfC j scope s.heap.objs.size f B))->sp vs H Q E ->
   ∃t,BJ (cxOf CX P w K mg base N j scope f B A outer s H E) body t/\t {nx:=fun _ H'=>Q .non H',rt:=Q} (start N vs) H) :
  cA P w K mg base CX (k+1) f (PySem.W.fnOf name j G body scope dV kV doc pm an B ct) ps sp:=by
 refine⟨len,fun A outer s H args us vs Q E hr e0 hb r hsp=>?_⟩;have hl:=len _ _ _ _ hsp;have KX:K.In s.heap:=e0.mod.kin.keeps fun b o e=>(e0.bs b o e).1;have lim:s.heap.NoLimit:=e0.mod.nolimit.keeps fun b o e=>(e0.bs b o e).1;have L:∀y∈ps.zip us,scope.names.lookup y.1=some .local∨(scope.names.lookup y.1=some .cell/\((cellsFrom (s.heap.objs.size+1) scope.names []).lookup y.1).isSome=true):=fun⟨n,v⟩ hy=>by
  rcases S.par n (List.of_mem_zip hy).1 with q|q
  ·exact .inl q
  ·exact .inr ⟨q,PySem.W.cellsFrom_some _ _ _ (.inl q)⟩
 refine codeAny_call_function hr.depth (KX _ _ lk) rfl S.co S.gen rfl (PySem.W.codeRec_of KX hcd) (hb _ _ _ _ ?_);refine wpAny_newFunctionEnv_cells S.kind L fun env he s1 x=>?_;subst he;refine⟨lim.keeps x.toInCall.keep,codeAny_func ?_⟩;obtain⟨t,ht,hq⟩:=U A outer s H vs Q E (hr.deeper _) hsp;have I:aO (cxOf CX P w K mg base N j scope f B A outer s H E) [] (start N vs) H s1:=vW S hr.hd e0 hl r x;refine wpAny_mono (ht [] s1 (start N vs) H _ I hq) (fun fl s' Z=>?_) fun e s' Z=>Z;have fin:∀{σ':St} {H':Hp} {v:V} {u:Value},aO (cxOf CX P w K mg base N j scope f B A outer s H E) [] σ' H' s'->aT v u->Q v H'->CE outer P w H s Q u s' :=
  fun {σ' H' v u} J rv q=>⟨v,H',J.os,J.bare,J.base,J.hok,rv,q⟩
 cases fl with
 | ret u =>
  obtain⟨v,σ',H',J,rv,q⟩:=Z;exact fin J rv q
 | next =>
  obtain⟨σ',H',J,q⟩:=Z;exact fin (v:=V.non) (u:=Value.none) J rfl q
 | brk =>
  obtain⟨_,_,_,q⟩:=Z;exact False.elim q
 | cont =>
  obtain⟨_,_,_,q⟩:=Z;exact False.elim q
section
variable {X:Cx}{x:Str}{p pos:Pos}{e:Expr}{es:kU}{t:TA}{id T:String}{r:List V->Hp->VK->Prop}
noncomputable def tCB (r:List V->Hp->VK->Prop)(t:TA):TE:=fun σ H Q=>t σ H fun vs j=>r vs j Q
theorem aK (hc:cT X (.builtin id) r)(Z:Gl X x)(U:X.mg x=none)(N:bootBuiltins x=some (.builtin id))(ha:PA X (e::es) t)(S:x≠"__name__":=by decide)(B:(x == ("__debug__" : Str))=false:=by decide)
  (he:starEach (e::es) X.env=(false,eval e X.env)::starEach es X.env:=by rfl) (q:(backTo pos (starEach es X.env)).any (·.1)=false:=by rfl):PE X (.Call (.Name x p) (e::es) [] pos) (tCB r t):=by
 intro j s σ H Q I h;refine wpAny_Call_Name_kw (mX I Z U N ?_ S B);exact PyProof.Rows.callWith_builtin1 (thn (ha pos j s σ H _ I h) fun us G ⟨vs,H1,I1,r1,L⟩=>hc j G σ H1 vs us Q I1 r1 L) he q
theorem cC (hc:cT X (.type T) r)(Z:Gl X x)(U:X.mg x=none)(N:bootBuiltins x=some (.type T))(ha:PA X (e::es) t)(S:x≠"__name__":=by decide)(B:(x == ("__debug__" : Str))=false:=by decide)
  (he:starEach (e::es) X.env=(false,eval e X.env)::starEach es X.env:=by rfl) (q:(backTo pos (starEach es X.env)).any (·.1)=false:=by rfl):PE X (.Call (.Name x p) (e::es) [] pos) (tCB r t):=by
 intro j s σ H Q I h;refine wpAny_Call_Name_kw (mX I Z U N ?_ S B);exact PyProof.Rows.callWith_type1 (thn (ha pos j s σ H _ I h) fun us G ⟨vs,H1,I1,r1,L⟩=>hc j G σ H1 vs us Q I1 r1 L) he q
end
end L2
namespace HT
open PySem PyProof.Rows
noncomputable def lexLt:List Int->List Int->Bool
 | [],[]=>false
 | [],_::_=>true
 | _::_,[]=>false
 | x::xs,y::ys=>if x=y then lexLt xs ys else decide (x<y)
theorem lexLt_cons (x y:Int)(xs ys:List Int):lexLt (x::xs) (y::ys)=if x=y then lexLt xs ys else decide (x<y):=rfl
theorem eqAt_int (A:Around)(s:Shared)(a:Int)(t:Tok)(c:Int)(u:Tok):∃e,SeqAt.EqAt A s (.int a t) (.int c u) e/\(e=true ↔ a=c) :=
 ⟨(a == c),SeqAt.EqAt.int_int a t c u,by simp⟩
theorem rcLt_int (A:Around)(s:Shared)(a:Int)(t:Tok)(c:Int)(u:Tok)(prog:Program)(w:World)(E:cE)(Q:cE)(h:Q (.bool (decide (a<c))) s) :
  wpAny (model prog w) A (richCompare .Lt (.int a t) (.int c u)) Q E s :=
 (PyProof.Rows.lt_int h:wpAny (model prog w) A (compareOp .Lt (.int a t) (.int c u)) Q E s)
section
open PySem.SeqAt
open PySem.AutoSeq1 (wpAny_loadPart')
open PySem.MeetsSeq PySem.MeetsSeq2 PySem.MeetsSeq3
end
section
variable {prog:Program}{w:World}{A:Around}{E:cE}{s:Shared}
theorem cat_tup {t b:Addr}{vs j:bZ}{Q:cE}(ht:IsTup s.heap t vs.toArray)(hb:IsTup s.heap b j.toArray)(Z:vs≠[])
  (h1:j=[]->Q (.ref t) s) (h2:j≠[]->Q (.ref s.heap.objs.size) {s with heap:=s.heap.push {cls:=.type "tuple",data:=.seq (vs++j).toArray} })
  (hsz:vs.length+j.length<=sizeLine):wpAny (model prog w) A (binaryOp .Add (.ref t) (.ref b)) Q E s:=by
 obtain⟨⟨cls,dd,data,U⟩,ho,hc,n,hd⟩:=id ht;obtain⟨⟨cls2,L,S,B⟩,q,I,n2,G⟩:=id hb;simp only at hc hd I G;subst hc hd I G;have e:vs.toArray++j.toArray=(vs++j).toArray:=by simp
 by_cases N:j=[]
 ·exact concat_meets ⟨_,ho,rfl⟩ ⟨_,q,rfl⟩ noFill_tuple_add seq_tuple_add PySem.F.slot_tuple_add PySem.F.entry_tuple_add (PySem.F.args_tuple_add_2 _ _)
   (tuple_addW1 t b vs.toArray j.toArray n n2 dd L U B (by simpa using Z) (by simp[N])) ⟨ho,q,h1 N⟩
 ·refine concat_meets ⟨_,ho,rfl⟩ ⟨_,q,rfl⟩ noFill_tuple_add seq_tuple_add PySem.F.slot_tuple_add PySem.F.entry_tuple_add (PySem.F.args_tuple_add_2 _ _)
   (tuple_addW2 t b vs.toArray j.toArray n n2 dd L U B (by simpa using Z) (by simpa using N) (by rw[List.size_toArray,List.size_toArray];exact hsz)) ⟨ho,q,?_⟩
  rw[e];exact h2 N
noncomputable def sIx (n d:Nat):Option Int->Nat
 | none=>d
 | some v=>if v<0 then(v+(n:Int)).toNat else min v.toNat n
theorem sIx_none (n d:Nat):sIx n d none=d:=rfl
theorem sIx_nat (n d k:Nat):sIx n d (some (k:Int))=min k n:=by show(if (k:Int)<0 then((k:Int)+(n:Int)).toNat else min (k:Int).toNat n)=min k n;rw[if_neg (by omega),Int.toNat_natCast]
theorem O0 (n d:Nat)(hd:d<=n)(o:Option Int):sIx n d o<=n:=by
 cases o with
 | none=>exact hd
 | some v =>
  show(if v<0 then(v+(n:Int)).toNat else min v.toNat n)<=n;by_cases j:v<0
  ·rw[if_pos j];omega
  ·rw[if_neg j];exact Nat.min_le_right _ _
theorem EV (v:Int)(n d:Nat):(if v<0 then max (v+(n:Int)) 0 else min v (n:Int))=((sIx n d (some v):Nat):Int):=by
 show(if v<0 then max (v+(n:Int)) 0 else min v (n:Int))=(((if v<0 then(v+(n:Int)).toNat else min v.toNat n):Nat):Int);by_cases j:v<0
 ·simp only[if_pos j];omega
 ·simp only[if_neg j];omega
theorem DK (j q:Option Int)(n:Nat):Builtin.Slice.sliceAdjust j q 1 (n:Int)=(((sIx n 0 j:Nat):Int),((sIx n n q:Nat):Int)):=by
 have B:¬((1:Int)<0):=by omega
 unfold Builtin.Slice.sliceAdjust;simp only[B,if_false];refine Prod.ext ?_ ?_
 ·cases j with
  | none=>rfl
  | some v=>exact EV v n 0
 ·cases q with
  | none=>rfl
  | some v=>exact EV v n n
theorem B8 (i j:Nat):Builtin.Slice.slicePlaces (i:Int) (j:Int) 1=j - i:=by
 unfold Builtin.Slice.slicePlaces;have q:(1:Int) > 0:=by omega
 simp only[q,if_true,Int.ediv_one];split <;> omega
theorem slicePart_ {v:Value}{o:Option Int}{Q:Option Int->Shared->Prop}(p:IsPart v o)(h:Q o s):wpAny (model prog w) A (Builtin.Slice.slicePartIndex v) Q E s:=by
 cases p with
 | none=>exact slicePart_none h
 | int i t=>exact slicePart_int h
theorem pB {N:Addr}{L I:Value}{j B:Option Int}{n:Nat}{Q:Int×Int×Nat->Shared->Prop}(U:s.heap.IsSliceOf N L I .none)(pl:IsPart L j)(S:IsPart I B)
  (h:Q (((sIx n 0 j:Nat):Int),1,sIx n n B - sIx n 0 j) s):wpAny (model prog w) A (Builtin.Slice.sliceApplied (.ref N) (pure (n:Int))) Q E s:=by
 obtain⟨os,q,Z,G⟩:=id U;unfold Builtin.Slice.sliceApplied Builtin.Slice.sliceFields;refine wpAny_bind (wpAny_bind (wpAny_field q G (x:=L) rfl (wpAny_bind (wpAny_field q G (x:=I) rfl (wpAny_bind (wpAny_field q G (x:=.none) rfl (wpAny_pure ?_)))))));refine wpAny_bind (slicePart_none ?_);show wpAny _ _ (if ((1:Int) == 0)=true then _ else _) _ _ s;rw[if_neg (by decide)];refine wpAny_bind (slicePart_ pl (wpAny_bind (slicePart_ S (wpAny_bind (wpAny_pure ?_)))));show wpAny _ _ (match Builtin.Slice.sliceAdjust j B 1 (n:Int)with|(j,B)=>pure (j,(1:Int),Builtin.Slice.slicePlaces j B 1)) _ _ s;rw[DK j B n];show wpAny _ _ (pure (((sIx n 0 j:Nat):Int),(1:Int),Builtin.Slice.slicePlaces ((sIx n 0 j:Nat):Int) ((sIx n n B:Nat):Int) 1)) _ _ s;rw[B8];exact wpAny_pure h
theorem IF (xs:i4)(i k:Nat):((List.range k).filterMap fun(m:Nat)=>xs[((i:Int)+(m:Int) * 1).toNat]?).toArray=((xs.toList.drop i).take k).toArray:=by
 have e:(fun(m:Nat)=>xs[((i:Int)+(m:Int) * 1).toNat]?)=fun m=>xs[i+m]?:=by
  funext m;have:((i:Int)+(m:Int) * 1).toNat=i+m:=by omega
  rw[this]
 rw[e];have:=pick_run xs i k;rw[List.filterMap_map]at this;have j:((fun x=>xs[x]?) ∘ fun x=>i+x)=fun m=>xs[i+m]?:=rfl;rw[j]at this;rw[this]
theorem getItem_tuple_cut {t L:Addr}{items:i4}{vl vu:Value}{B G:Option Int}{Q:cE}(I:IsTup s.heap t items)(hs:s.heap.IsSliceOf L vl vu .none)(pl:IsPart vl B)(pu:IsPart vu G)
  (hw:¬(sIx items.size 0 B=0/\sIx items.size items.size G=items.size))
  (h:Q (.ref s.heap.objs.size) {s with heap:=s.heap.push {cls:=.type "tuple",data:=.seq ((items.toList.drop (sIx items.size 0 B)).take (sIx items.size items.size G - sIx items.size 0 B)).toArray} })
  (hsz:items.size<=sizeLine):wpAny (model prog w) A (getItem (.ref t) (.ref L)) Q E s:=by
 have j:sizeOk (.seq ((items.toList.drop (sIx items.size 0 B)).take (sIx items.size items.size G - sIx items.size 0 B)).toArray):=by show((items.toList.drop (sIx items.size 0 B)).take (sIx items.size items.size G - sIx items.size 0 B)).toArray.size<=sizeLine;rw[List.size_toArray,List.length_take,List.length_drop,Array.length_toList];omega
 have hj:sIx items.size items.size G<=items.size:=O0 _ _ (Nat.le_refl _) G;obtain⟨os,N,U,hds⟩:=id hs;have Z:s.TypeIs (.ref L) "slice":=⟨os,N,U⟩
 unfold getItem
 try with_reducible refine wpAny_holding ?_
 first|refine wpAny_bind (wpAny_pure ?_)|skip
 refine wpAny_bind (wpAny_sequenceKey I.typeIs (by decide) ?_)
 refine wpAny_bind (wpAny_callSpecial?_slot (name:=Str.ofString "__getitem__") I.typeIs PyProof.Rows.slot_tuple_getitem
  (wpAny_call_entry PyProof.Rows.slot_tuple_getitem I.typeIs entry_tuple_getitem ?_ (args_tuple_getitem _ _)))
 show wpAny _ _ (Builtin.Tuple.tupleItemsOf (.ref t) >>= _) _ _ s;refine wpAny_bind (tupleItemsOf_ I ?_);refine wpAny_bind (wpAny_typeOf Z ?_);rw[if_pos (by decide)];refine wpAny_bind (pB hs pl pu ?_);have S:¬((((sIx items.size 0 B:Nat):Int) == 0 && (1:Int) == 1 && (sIx items.size items.size G - sIx items.size 0 B) == items.size)=true):=by intro q;rw[Bool.and_eq_true,Bool.and_eq_true]at q;have q1:((sIx items.size 0 B:Nat):Int)=0:=eq_of_beq q.1.1;have q2:sIx items.size items.size G - sIx items.size 0 B=items.size:=eq_of_beq q.2;exact hw ⟨by omega,by omega⟩
 show wpAny _ _ (if (((sIx items.size 0 B:Nat):Int) == 0 && (1:Int) == 1 && (sIx items.size items.size G - sIx items.size 0 B) == items.size)=true then _ else _) _ _ s;rw[if_neg S,IF]
 first
  | exact wpAny_bind (m:=Builtin.Tuple.tupleExact _) (wpAny_newObj_type (wpAny_pure ⟨_,rfl,wpAny_pure h⟩) j)
  | exact wpAny_bind (m:=Builtin.Tuple.tupleExact _) (wpAny_newObj_type (wpAny_bind (wpAny_pure (wpAny_pure ⟨_,rfl,wpAny_pure h⟩))) j)
  | exact wpAny_bind (wpAny_bind (m:=Builtin.Tuple.tupleExact _) (wpAny_newObj_type (wpAny_pure (wpAny_pure ⟨_,rfl,wpAny_pure h⟩)) j))
  | exact wpAny_bind (wpAny_bind (m:=Builtin.Tuple.tupleExact _) (wpAny_newObj_type (wpAny_pure ⟨_,rfl,wpAny_pure h⟩) j))
end
end HT
namespace L2
open PySem PySem.Spec PyProof.Rows
noncomputable abbrev TO:=St->Hp->(Option Int->Hp->Prop)->Prop
noncomputable def PO (X:Cx)(e:Option Expr)(t:TO):Prop :=
 ∀(j:cW) (s:Shared) (σ:St) (H:Hp) (Q:Option Int->Hp->Prop),aO X j σ H s->t σ H Q ->
  wpAny (model X.prog X.w) X.A (evalPart e X.env) (fun u q=>∃o H',aO X j σ H' q/\IsPart u o/\Q o H') X.xe s
noncomputable def tNoPart:TO:=fun _ H Q=>Q none H
noncomputable def tPart (t:TE):TO:=fun σ H Q=>t σ H fun x j=>∃i,x = .int i/\Q (some i) j
theorem tB {ns:List Int}:∀{us:bZ},aR (ns.map V.int) us->IntsAre us ns:=by
 induction ns with
 | nil=>intro us r;rw[List.map_nil]at r;cases r;exact .nil
 | cons n ns q =>
  intro us r;rw[List.map_cons]at r;cases r with
  | cons r1 j =>
   obtain⟨t,e⟩:=r1;subst e;exact .cons n t (q j)
section
variable {X:Cx}{e:Expr}{te:TE}{lo hi:Option Expr}{tl th:TO}{pos p2:Pos}
theorem gK:PO X none tNoPart:=by intro j s σ H Q I h;rw[evalPart_none];exact wpAny_pure ⟨none,H,I,.none,h⟩
theorem fC (h:PE X e te):PO X (some e) (tPart te):=by intro j s σ H Q I G;rw[evalPart_some];refine thn (h j s σ H _ I G) fun u S ⟨x,N,L,r1,B⟩=>?_;obtain⟨i,rfl,q⟩:=B;obtain⟨t,rfl⟩:=r1;exact⟨some i,N,L,.int i t,q⟩
noncomputable def Q9 (X:Cx)(r:V->Option Int->Option Int->Hp->VK->Prop):Prop :=
 ∀(j:cW) (s:Shared) (σ:St) (H:Hp) (x:V) (v vl vu:Value) (lo hi:Option Int) (sl:Addr) (Q:VK),aO X j σ H s->aT x v->s.heap.IsSliceOf sl vl vu .none->IsPart vl lo->IsPart vu hi->r x lo hi H Q ->
  ∃T id,typeLookup (.type T) "__getitem__" = pure (some (.builtin id))/\s.TypeIs v T/\wpAny (model X.prog X.w) X.A (getItem v (.ref sl)) (EP X j σ Q) X.xe s
noncomputable def tSl (r:V->Option Int->Option Int->Hp->VK->Prop)(q:TE)(tl j:TO):TE:=fun σ H Q=>q σ H fun x I=>tl σ I fun l G=>j σ G fun u B=>r x l u B Q
theorem gN {r:V->Option Int->Option Int->Hp->VK->Prop}(hr:Q9 X r)(he:PE X e te)(hl:PO X lo tl)(hu:PO X hi th):PE X (.Subscript e (.Slice lo hi none p2) pos) (tSl r te tl th):=by intro j s σ H Q I h;refine Subscript_ (thn (he j s σ H _ I h) fun v S ⟨x,H1,I1,r1,q1⟩=>?_);refine wpAny_Slice (thn (hl j S σ H1 _ I1 q1) fun L s2 ⟨l,H2,I2,pl,Z⟩=>thn (hu j s2 σ H2 _ I2 Z) fun G B ⟨u,N,I3,pu,U⟩=>?_);rw[evalPart_none];refine wpAny_pure ?_;have I4:aO X j σ N {B with heap:=B.heap.push {cls:=.type "slice",data:=.fields #[L,G,.none]} }:=I3.kept (t':=B.toks) fun b ob q=>Heap.get?_push_of_some _ q;obtain⟨T,id,hT,ht,hg⟩:=hr j {B with heap:=B.heap.push {cls:=.type "slice",data:=.fields #[L,G,.none]} } σ N x v L G l u B.heap.objs.size Q I4 r1 (Heap.IsSliceOf.new ..) pl pu U;show wpAny (model X.prog X.w) X.A (subscriptTail e (.Slice lo hi none p2) v (.ref B.heap.objs.size)) (EP X j σ Q) X.xe {B with heap:=B.heap.push {cls:=.type "slice",data:=.fields #[L,G,.none]} };exact tail_any (ops:=[.ref B.heap.objs.size,v]) ht hT hg (by with_unfolding_all rfl)
noncomputable def cutV (xs:List V)(j q:Option Int):List V:=(xs.drop (HT.sIx xs.length 0 j)).take (HT.sIx xs.length xs.length q - HT.sIx xs.length 0 j)
theorem qN (xs:List V)(j q:Option Int):(cutV xs j q).length<=xs.length:=by unfold cutV;rw[List.length_take,List.length_drop];omega
noncomputable def rSlT (K:PySem.W.Frag):V->Option Int->Option Int->Hp->VK->Prop:=fun x j q H Q=>∃a xs,x = .ref a/\hZ K H a xs /\
 ¬(HT.sIx xs.length 0 j=0/\HT.sIx xs.length xs.length q=xs.length)/\∀p,H p=none->Q (.ref p) (upd H p (.tup (cutV xs j q)))
theorem OY:Q9 X (rSlT X.K):=by
 intro L s σ H x v vl vu B G sl Q I S hs pl U h;obtain⟨a,xs,rfl,Z,hw,q⟩:=h;cases S;obtain⟨its,r,N,hz⟩:=I.tuple Z;have j:its.toArray.size=xs.length:=by rw[List.size_toArray];exact r.length.symm
 refine⟨"tuple",_,PyProof.Rows.slot_tuple_getitem.lookup,N.typeIs,?_⟩;refine HT.getItem_tuple_cut N hs pl U (by rw[j];exact hw) ?_ (by rw[j];exact hz);rw[j];refine⟨.ref s.heap.objs.size,_,I.laid (t':=s.toks) (o:=.tup (cutV xs B G)) (fun b ob q=>Heap.get?_push_of_some _ q) (Nat.le_refl _) ?_,rfl,q _ (I.hok.fresh (Nat.le_refl _))⟩;exact⟨Nat.le_trans (qN xs B G) hz,_,(r.drop (HT.sIx xs.length 0 B)).take (HT.sIx xs.length xs.length G - HT.sIx xs.length 0 B),IsTup.new _ _⟩
noncomputable def rCatT (K:PySem.W.Frag):R2:=fun x y H Q=>∃a b xs ys,x = .ref a/\y = .ref b/\hZ K H a xs/\hZ K H b ys/\xs≠[]/\xs.length+ys.length<=sizeLine /\
 (ys=[]->Q (.ref a) H)/\(ys≠[]->∀p,H p=none->Q (.ref p) (upd H p (.tup (xs++ys))))
theorem aR.nil_iff {xs:List V}{us:bZ}(r:aR xs us):us=[] ↔ xs=[]:=by
 cases r with
 | nil=>simp
 | cons _ _=>simp
theorem L7:i5 X (binaryOp .Add) (rCatT X.K):=by intro B s σ H x y v u Q I L G h;obtain⟨a,b,xs,ys,rfl,rfl,ha,hb,hx,hz,S,N⟩:=h;cases L;cases G;obtain⟨its,r1,Z,_⟩:=I.tuple ha;obtain⟨its2,j,U,_⟩:=I.tuple hb;refine HT.cat_tup Z U (fun z=>hx (r1.nil_iff.mp z)) (fun z=>⟨.ref a,H,I,rfl,S (j.nil_iff.mp z)⟩) (fun z=>?_) (by rw[←r1.length,←j.length];exact hz);refine⟨.ref s.heap.objs.size,_,I.laid (t':=s.toks) (o:=.tup (xs++ys)) (fun b ob q=>Heap.get?_push_of_some _ q) (Nat.le_refl _) ?_,rfl,N (fun w=>z (j.nil_iff.mpr w)) _ (I.hok.fresh (Nat.le_refl _))⟩;exact⟨by rw[List.length_append];exact hz,_,r1.append j,IsTup.new _ _⟩
end
noncomputable def ixN (n:Nat)(i:Int):Option Nat:=if 0<=i then(if i<n then some i.toNat else none)else if -(n:Int)<=i then some (i+n).toNat else none
noncomputable def atI {α:Type}(xs:List α)(i:Int):Option α:=(ixN xs.length i).bind fun j=>xs[j]?
theorem EM {n:Nat}{i:Int}{j:Nat}(h:ixN n i=some j):seqIndex? i n=some j/\j<n/\-(n:Int)<=i/\i<n:=by
 unfold ixN at h;by_cases B:0<=i
 ·rw[if_pos B]at h;by_cases q:i<n
  ·rw[if_pos q]at h;have e:i.toNat=j:=Option.some.inj h;exact⟨by rw[seqIndex_of B q,e],by omega,by omega,q⟩
  ·rw[if_neg q]at h;cases h
 ·rw[if_neg B]at h;by_cases q : -(n:Int)<=i
  ·rw[if_pos q]at h;have e:(i+n).toNat=j:=Option.some.inj h;exact⟨by rw[seqIndex_neg (by omega) q,e],by omega,q,by omega⟩
  ·rw[if_neg q]at h;cases h
theorem yX {α:Type}{xs:List α}{i:Int}{v:α}(h:atI xs i=some v):∃j,seqIndex? i xs.length=some j/\xs[j]?=some v/\j<xs.length/\-(xs.length:Int)<=i/\i<xs.length:=by
 unfold atI at h;cases e:ixN xs.length i with
 | none=>rw[e]at h;cases h
 | some j =>
  rw[e]at h;obtain⟨I,G,B,q⟩:=EM e;exact⟨j,I,h,G,B,q⟩
theorem EW {α:Type}{xs:List α}{j:Nat}{v:α}(h:xs[j]?=some v):atI xs (j:Int)=some v:=by
 have q:j<xs.length:=(List.getElem?_eq_some_iff.mp h).1;have e:ixN xs.length (j:Int)=some j:=by unfold ixN;rw[if_pos (by omega),if_pos (by omega)];simp
 unfold atI;rw[e];exact h
noncomputable def NQ (b:Expr):Prop:=∀o i,subscripted b false o i=operate [o,i] (getItem o i)
noncomputable def KW (X:Cx)(r:R2):Prop :=
 ∀(q j:Expr) (pins:cW) (s:Shared) (σ:St) (H:Hp) (x y:V) (v u:Value) (Q:VK),aO X pins σ H s->aT x v->aT y u->r x y H Q ->
  subscripted j false v u=operate [v,u] (getItem v u)->wpAny (model X.prog X.w) X.A (subscriptTail q j v u) (EP X pins σ Q) X.xe s
noncomputable def RS (X:Cx)(id:String)(r:V->List V->Hp->VK->Prop):Prop :=
 ∀(j:cW) (s:Shared) (σ:St) (H:Hp) (x:V) (xs:List V) (v:Value) (us:bZ) (Q:VK),aO X j σ H s->aT x v->aR xs us->r x xs H Q ->
  wpAny (model X.prog X.w) X.A (call (.builtin id) (v::us)) (EP X j σ Q) X.xe s
section
variable {X:Cx}{a b:Expr}{ta tb:TE}{pos:Pos}
theorem KW.or {r S:R2}(h:KW X r)(h':KW X S):KW X (fun x y H Q=>r x y H Q∨S x y H Q):=by
 intro j B G s σ H x y v u Q I N L q U;rcases q with q|q
 ·exact h j B G s σ H x y v u Q I N L q U
 ·exact h' j B G s σ H x y v u Q I N L q U
theorem bP {r:R2}(N:KW X r)(U:PE X a ta)(S:PE X b tb)(L:NQ b):PE X (.Subscript a b pos) (tOp r ta tb):=by intro j s σ H Q I h;exact Subscript_ (binT U S I h fun v u s2 x y H2 Z G B q=>N a b j s2 σ H2 x y v u Q Z G B q (L _ _))
noncomputable def rIxL (K:PySem.W.Frag):R2:=fun x y H Q=>∃p xs i v,x = .ref p/\y = .int i/\fA K H p xs/\atI xs i=some v/\Q v H
noncomputable def rIxT (K:PySem.W.Frag):R2:=fun x y H Q=>∃p xs i v,x = .ref p/\y = .int i/\hZ K H p xs/\atI xs i=some v/\Q v H
noncomputable def rIxS:R2:=fun x y H Q=>∃z i c,x = .str z/\y = .int i/\z.length<=sizeLine/\atI z.cps.toList i=some c/\Q (.str ⟨#[c]⟩) H
theorem MX:KW X (rIxL X.K):=by
 intro L N B s σ H x y v u Q I rx ry h Z;obtain⟨p,xs,i,z,rfl,rfl,hq,he,q⟩:=h;cases rx;obtain⟨t,rfl⟩:=ry;obtain⟨its,r,pl,hz⟩:=I.list hq;obtain⟨j,G,h2,h3,h4,h5⟩:=yX he;obtain⟨w,ew,S⟩:=r.get h2;have hl:=r.length;have hn:=line63;have fin:EP X B σ Q w s:=⟨z,H,I,S,q⟩
 by_cases h0:0<=i
 ·have U:i.toNat=j:=by rw[seqIndex_of h0 h5]at G;exact Option.some.inj G
  exact item_listR pl.isList h0 (by omega) (by rw[U];simpa using ew) fin Z
 ·have U:(i+(its.toArray.size:Int)).toNat=j:=by rw[seqIndex_neg (by omega) h4]at G;rw[List.size_toArray,←hl];exact Option.some.inj G
  exact subscriptTail_builtinR (x:=w) pl.isList.typeIs slot_list_getitem.lookup
   (wpAny_getItem_list_neg (Q:=fun r s'=>r=w/\EP X B σ Q r s') pl.isList (by omega) (by rw[List.size_toArray] <;> omega) (by omega) (by rw[U];simpa using ew) ⟨rfl,fin⟩) Z
theorem P6:KW X (rIxT X.K):=by
 intro G L B s σ H x y v u Q I Z U h hs;obtain⟨p,xs,i,z,rfl,rfl,hq,he,q⟩:=h;cases Z;obtain⟨t,rfl⟩:=U;obtain⟨its,r,pl,hz⟩:=I.tuple hq;obtain⟨j,h1,h2,h3,h4,h5⟩:=yX he;obtain⟨w,ew,N⟩:=r.get h2;have hl:=r.length;have hn:=line63;have fin:EP X B σ Q w s:=⟨z,H,I,N,q⟩
 exact subscriptTail_builtinR (x:=w) pl.typeIs slot_tuple_getitem.lookup
  (getItem_tuple (j:=j) (Q:=fun r S=>r=w/\EP X B σ Q r S) pl (by omega) (by omega) (by rw[List.size_toArray,←hl];exact h1) (by simpa using ew) ⟨rfl,fin⟩) hs
theorem P7:KW X rIxS:=by
 intro B G L s σ H x y v u Q I U S h Z;obtain⟨z,i,c,rfl,rfl,hz,he,q⟩:=h;obtain⟨t,rfl⟩:=U;obtain⟨t',rfl⟩:=S;obtain⟨j,N,h2,h3,h4,h5⟩:=yX he;have hl:z.cps.toList.length=z.length:=by simp[Str.length]
 rw[hl]at N h4 h5;have hn:=line63
 exact tail_any (typeIs_str s z t) slot_str_getitem.lookup (getItem_str (c:=c) (by
  have e1:decide (i < -(2 ^ 63:Int))=false:=decide_eq_false (by omega);have e2:decide (i ≥ 2 ^ 63)=false:=decide_eq_false (by omega)
  rw[e1,e2,Bool.or_false]) (by rw[N];simpa using h2) ⟨.str ⟨#[c]⟩,H,I.tok _,⟨_,rfl⟩,q⟩) Z
noncomputable def rIx (K:PySem.W.Frag):R2:=fun x y H Q=>rIxL K x y H Q∨rIxT K x y H Q∨rIxS x y H Q
theorem JR:KW X (rIx X.K):=MX.or (P6.or P7)
theorem CQ (its:bZ)(n j:Nat)(u:Value):Obj.mapSeq (·.setIfInBounds j u) {cls:=.type "list",data:=.seq its.toArray n}={cls:=.type "list",data:=.seq (its.set j u).toArray n}:=by simp[Obj.mapSeq]
theorem aO.lst {j:cW}{σ:St}{H:Hp}{s:Shared}{p:Addr}{xs:List V}(I:aO X j σ H s)(h:H p=some (.lst xs)) :
  ∃(its:bZ) (n:Nat),aR xs its/\s.heap.get? p=some {cls:=.type "list",data:=.seq its.toArray n}/\xs.length<=sizeLine:=by
 obtain⟨z,its,n,r,e⟩:=I.hok p _ h;exact⟨its,n,r,e,z⟩
theorem aO.lstUpd {j:cW}{σ:St}{H:Hp}{s:Shared}{p:Addr}{xs ys:List V}{its its':bZ}{n B:Nat}{f:Obj->Obj}(I:aO X j σ H s)(h:H p=some (.lst xs))
  (ho:s.heap.get? p=some {cls:=.type "list",data:=.seq its.toArray n}) (G:f {cls:=.type "list",data:=.seq its.toArray n}={cls:=.type "list",data:=.seq its'.toArray B}) (r:aR ys its') (hz:ys.length<=sizeLine) (t:Nat) :
  aO X j σ (upd H p (.lst ys)) {s with heap:=s.heap.update p f,toks:=t}:=by
 have e:(s.heap.update p f).get? p=some {cls:=.type "list",data:=.seq its'.toArray B}:=by rw[Heap.get?_update_self f ho (by rw[G] <;> rfl),G]
 refine I.write (x:=p) (e:=p) (by rw[h];trivial) (.inl rfl) (fun b u L q=>(Heap.get?_update_other _ _ (Ne.symm L)).trans q) ⟨_,e⟩ ?_;exact⟨hz,its',B,r,e⟩
noncomputable def rSetL:V->V->V->Hp->(Hp->Prop)->Prop:=fun o i v H Q=>∃p xs k j,o = .ref p/\i = .int k/\H p=some (.lst xs)/\ixN xs.length k=some j/\Q (upd H p (.lst (xs.set j v)))
theorem zJ:RB X rSetL:=by
 intro B s σ H o i v ov iv u Q I ro ri rv h;obtain⟨p,xs,k,j,rfl,rfl,S,hj,q⟩:=h;cases ro;obtain⟨t,rfl⟩:=ri;obtain⟨its,n,r,ho,hz⟩:=I.lst S;obtain⟨G,h2,Z,U⟩:=EM hj;have L:=r.length;have hn:=line63;have I':aO X B σ (upd H p (.lst (xs.set j v))) {s with heap:=s.heap.update p (Obj.mapSeq (·.setIfInBounds j u))} :=
  I.lstUpd S ho (CQ its n j u) (r.set rv j) (by rw[List.length_set];exact hz) s.toks
 by_cases h0:0<=k
 ·have N:k.toNat=j:=by rw[seqIndex_of h0 U]at G;exact Option.some.inj G
  exact PySem.W.ki_setAt ho h0 (by omega) (by rw[List.size_toArray,←L];exact U) (by rw[N];exact⟨_,I',q⟩)
 ·have N:(k+(its.toArray.size:Int)).toNat=j:=by rw[seqIndex_neg (by omega) Z]at G;rw[List.size_toArray,←L];exact Option.some.inj G
  exact PySem.W.ki_setBack ho (by omega) (by rw[List.size_toArray,←L];exact Z) (by omega) (by rw[N];exact⟨_,I',q⟩)
theorem xJ (j q:Option Int)(n:Nat):(sliceBounds j q none n).1=((HT.sIx n 0 j:Nat):Int)/\(sliceBounds j q none n).2.1=((HT.sIx n n q:Nat):Int)/\(sliceBounds j q none n).2.2=1:=by
 refine⟨?_,?_,rfl⟩
 ·cases j with
  | none=>simp[sliceBounds,HT.sIx]
  | some i =>
   simp only[sliceBounds,HT.sIx,Option.getD_none,show(1:Int) > 0 by decide,if_true];by_cases h:i<0
   ·simp only[h,if_true] <;> omega
   ·simp only[h,if_false] <;> omega
 ·cases q with
  | none=>simp[sliceBounds,HT.sIx]
  | some i =>
   simp only[sliceBounds,HT.sIx,Option.getD_none,show(1:Int) > 0 by decide,if_true];by_cases h:i<0
   ·simp only[h,if_true] <;> omega
   ·simp only[h,if_false] <;> omega
theorem uL (its:bZ)(j q:Option Int):slicePick its.toArray j q none=((its.drop (HT.sIx its.length 0 j)).take (HT.sIx its.length its.length q - HT.sIx its.length 0 j)).toArray:=by obtain⟨I,G,B⟩:=xJ j q its.toArray.size;unfold slicePick;rw[I,G,B];simp only[sliceRange_one,pick_run,List.size_toArray] <;> rfl
noncomputable def rSlL (K:PySem.W.Frag):V->Option Int->Option Int->Hp->VK->Prop:=fun x j q H Q=>∃a xs,x = .ref a/\fA K H a xs/\∀p,H p=none->Q (.ref p) (upd H p (.lst (cutV xs j q)))
theorem K8:Q9 X (rSlL X.K):=by intro L s σ H x v vl vu B G sl Q I S hs pl U h;obtain⟨a,xs,rfl,Z,q⟩:=h;cases S;obtain⟨its,r,N,hz⟩:=I.list Z;have j:=r.length;refine⟨"list",_,slot_list_getitem.lookup,N.isList.typeIs,?_⟩;refine wpAny_getItem_list_slice N.isList hs pl U .none (by simp) ?_ (by rw[List.size_toArray] <;> omega);rw[uL,←j];refine⟨.ref s.heap.objs.size,_,I.laid (t':=s.toks) (o:=.lst (cutV xs B G)) (fun b ob q=>Heap.get?_push_of_some _ q) (Nat.le_refl _) ?_,rfl,q _ (I.hok.fresh (Nat.le_refl _))⟩;exact⟨Nat.le_trans (qN xs B G) hz,_,0,(r.drop (HT.sIx xs.length 0 B)).take (HT.sIx xs.length xs.length G - HT.sIx xs.length 0 B),Heap.get?_push_size _ rfl⟩
theorem xW:i5 X (compareOp .NotIn) (fun x y H Q=>∃i j,x = .str i/\y = .str j/\Q (.bl (!(!(Builtin.Str.occurrences j i 0 j.length 1).isEmpty))) H):=by intro B s σ H x y v u Q I L G h;obtain⟨i,j,rfl,rfl,q⟩:=h;obtain⟨t,rfl⟩:=L;obtain⟨t',rfl⟩:=G;exact notIn_str ⟨.bl _,H,I,rfl,q⟩
theorem kH:cT X (.builtin "len") (fun xs H Q=>∃p ys,xs=[.ref p]/\(fA X.K H p ys∨hZ X.K H p ys)/\Q (.int ys.length) H):=by
 intro L s σ H xs us Q I r h;obtain⟨p,ys,rfl,B,q⟩:=h;obtain⟨u,rfl,N⟩:=vals1 r;cases N;have S:=line63;rcases B with B|B
 ·obtain⟨its,G,pl,hz⟩:=I.list B;have j:=G.length;exact Calls.call_len_list pl.isList (by simp only[List.size_toArray] <;> omega) ⟨.int ys.length,H,I.tok _,⟨s.toks+1,by rw[List.size_toArray,j]⟩,q⟩
 ·obtain⟨its,G,pl,hz⟩:=I.tuple B;have j:=G.length;exact len_tuple pl (by simp only[List.size_toArray] <;> omega) ⟨.int ys.length,H,I.tok _,⟨s.toks+1,by rw[List.size_toArray,j]⟩,q⟩
theorem yV:cT X (.builtin "len") (fun xs H Q=>∃z,xs=[.str z]/\z.length<=sizeLine/\Q (.int z.length) H):=by intro j s σ H xs us Q I r h;obtain⟨z,rfl,hz,q⟩:=h;obtain⟨u,rfl,t,rfl⟩:=vals1 r;have B:=line63;exact len_str (by omega) ⟨.int z.length,H,I.tok _,⟨_,rfl⟩,q⟩
theorem yU:cT X (.type "list") (fun xs H Q=>∃p ys,xs=[.ref p]/\(fA X.K H p ys∨hZ X.K H p ys)/\∀l,H l=none->Q (.ref l) (upd H l (.lst ys))):=by
 intro G s σ H xs us Q I r h;obtain⟨p,ys,rfl,L,q⟩:=h;obtain⟨u,rfl,U⟩:=vals1 r;cases U;have fin:∀(its:bZ),aR ys its->ys.length<=sizeLine->∀(h':Heap) (B:Nat),(∀b S,s.heap.get? b=some S->h'.get? b=some S) ->
   h'.get? s.heap.objs.size=some {cls:=.type "list",dict:=none,data:=.seq its.toArray B,slots:=#[]}->EP X G σ Q (.ref s.heap.objs.size) {s with heap:=h'}:=fun its j hz h' B kp e =>
  ⟨.ref s.heap.objs.size,_,I.laid (t':=s.toks) kp (Nat.le_refl _) (show bY X.prog X.w _ h' _ (.lst ys)from⟨hz,its,B,j,e⟩),rfl,q _ (I.hok.fresh (Nat.le_refl _))⟩
 rcases L with L|L
 ·obtain⟨its,j,pl,hz⟩:=I.list L;have N:=j.length;obtain⟨o,ho,hc,n,hd⟩:=pl.isList;exact call_list_seq p (.inl rfl) ho hc hd (fun h' B kp e=>fin its j hz h' B kp e) (by simp only[List.size_toArray] <;> omega)
 ·obtain⟨its,j,pl,hz⟩:=I.tuple L;have N:=j.length;obtain⟨o,ho,hc,n,hd⟩:=pl;exact call_list_seq p (.inr rfl) ho hc hd (fun h' B kp e=>fin its j hz h' B kp e) (by simp only[List.size_toArray] <;> omega)
theorem uQ:cT X (.type "tuple") (fun xs H Q=>∃p ys,xs=[.ref p]/\((fA X.K H p ys/\∀l,H l=none->Q (.ref l) (upd H l (.tup ys)))∨(hZ X.K H p ys/\Q (.ref p) H))):=by
 intro j s σ H xs us Q I r h;obtain⟨p,ys,rfl,h⟩:=h;obtain⟨u,rfl,S⟩:=vals1 r;cases S;rcases h with⟨G,q⟩|⟨G,q⟩
 ·obtain⟨its,B,pl,hz⟩:=I.list G;have L:=B.length;refine call_tuple_list pl.isList (fun h' kp=>?_) (by simp only[List.size_toArray] <;> omega);have N:aO X j σ H {s with heap:=h'}:=I.kept (t':=s.toks) kp;have U:aO X j σ (upd H h'.objs.size (.tup ys)) {s with heap:=h'.push {cls:=.type "tuple",data:=.seq its.toArray} } :=
   N.laid (t':=s.toks) (fun b o e=>Heap.get?_push_of_some _ e) (Nat.le_refl _) (show bY X.prog X.w _ _ _ (.tup ys)from⟨hz,its,B,IsTup.new _ _⟩)
  exact⟨.ref h'.objs.size,_,U,rfl,q _ (N.hok.fresh (Nat.le_refl _))⟩
 ·obtain⟨its,B,pl,hz⟩:=I.tuple G;exact call_tuple_same pl ⟨.ref p,H,I,rfl,q⟩
noncomputable def tyV (K:PySem.W.Frag)(T:String)(x:V)(H:Hp):Prop:=match x with
 | .str _=>T="str"
 | .int _=>T="int"
 | .ref p=>(T="list"/\∃xs,fA K H p xs)∨(T="tuple"/\∃o,K.lookup p=some o/\o.cls = .type "tuple"/\o.dict=none) ∨
   (T="dict"/\((∃j,H p=some (.dK j))∨∃j,H p=some (.dT j)))∨(T="set"/\∃S n,H p=some (.set S n))
 | _=>False
theorem HK {q:cW}{σ:St}{H:Hp}{s:Shared}{T:String}{x:V}{v:Value}(I:aO X q σ H s)(r:aT x v)(ty:tyV X.K T x H) :
  s.TypeIs v T/\∀a,v = .ref a->∃L,s.heap.get? a=some L/\L.dict=none:=by
 cases x with
 | str z =>
  obtain⟨t,rfl⟩:=r;cases (show T="str" from ty);exact⟨typeIs_str s z t,fun _ e=>nomatch e⟩
 | int i =>
  obtain⟨t,rfl⟩:=r;cases (show T="int" from ty);exact⟨typeIs_int s i t,fun _ e=>nomatch e⟩
 | ref p =>
  cases r;rcases ty with⟨rfl,xs,N⟩|⟨rfl,o,j,hc,hd⟩|⟨rfl,j⟩|⟨rfl,S,n,j⟩
  ·obtain⟨its,_,pl,_⟩:=I.list N;refine⟨pl.isList.typeIs,fun a e=>?_⟩;cases e;obtain⟨o,n,e,c,hd,_⟩:=pl;exact⟨o,e,hd⟩
  ·refine⟨⟨o,I.kIn p o j,hc⟩,fun a e=>?_⟩;cases e;exact⟨o,I.kIn _ o j,hd⟩
  ·have z:∃o,s.heap.get? p=some o/\o.ExactDict:=by
    rcases j with⟨B,j⟩|⟨B,j⟩
    ·obtain⟨_,_,_,_,o,_,_,e,ex,_⟩:=I.hok p _ j;exact⟨o,e,ex⟩
    ·obtain⟨_,_,_,_,o,_,_,e,ex,_⟩:=I.hok p _ j;exact⟨o,e,ex⟩
   obtain⟨o,e,ex⟩:=z;refine⟨⟨o,e,ex.1⟩,fun a G=>?_⟩;cases G;exact⟨o,e,ex.2.1⟩
  ·obtain⟨o,_,_,_,e,ex,_⟩:=I.hok p _ j;refine⟨⟨o,e,ex.1⟩,fun a G=>?_⟩;cases G;exact⟨o,e,ex.2.1⟩
 | _=>exact False.elim ty
noncomputable def tBM0 (K:PySem.W.Frag)(T:String)(r:V->List V->Hp->VK->Prop)(q:TE):TE:=fun σ H Q=>q σ H fun x j=>tyV K T x j/\r x [] j Q
noncomputable def tBM (K:PySem.W.Frag)(T:String)(r:V->List V->Hp->VK->Prop)(q:TE)(t:TA):TE:=fun σ H Q=>q σ H fun x j=>tyV K T x j/\t σ j fun xs B=>r x xs B Q
variable {o e:Expr}{es:kU}{to:TE}{t:TA}{name:Str}{apos cpos:Pos}{T id:String}{r:V->List V->Hp->VK->Prop}
theorem pF (pa:PlainAttrs T)(slot:Slot T name id)(G:typeOf (.builtin id)=pure (.type "method_descriptor"))(U:RS X id r)(ho:PE X o to)
  (B:attributeBase o name X.env (eval o X.env)=eval o X.env:=by rfl) (q:(apos.endLine == cpos.line)=true:=by rfl):PE X (.Call (.Attribute o name apos) [] [] cpos) (tBM0 X.K T r to):=by
 intro j s σ H Q I h;refine wpAny_Call_method0_late B q (thn (ho j s σ H _ I h) fun v N ⟨x,H1,L,r1,ty,S⟩=>?_);obtain⟨h1,Z⟩:=HK L r1 ty;exact⟨T,id,pa,slot,G,h1,Z,Calls.callWith_builtin rfl (PySem.evalArgs_none (U j N σ H1 x [] v [] Q L r1 .nil S))⟩
theorem jC (pa:PlainAttrs T)(slot:Slot T name id)(N:typeOf (.builtin id)=pure (.type "method_descriptor"))(hm:RS X id r)(ho:PE X o to)(ha:PA X (e::es) t)
  (G:attributeBase o name X.env (eval o X.env)=eval o X.env:=by rfl)
  (L:((backTo cpos (starEach (e::es) X.env)).all (fun x=>!x.1) && (backToKw cpos (keywordEach [] X.env)).all (fun x=>x.1.isSome)
   && decide ((e::es).length+([]:List Keyword).length+(if ([]:List Keyword).isEmpty then 0 else 1)<30))=true:=by rfl)
  (B:(apos.endLine == cpos.line)=true:=by rfl) (hs:starEach (e::es) X.env=(false,eval e X.env)::starEach es X.env:=by rfl) (q:(backTo cpos (starEach es X.env)).any (·.1)=false:=by rfl) :
  PE X (.Call (.Attribute o name apos) (e::es) [] cpos) (tBM X.K T r to t):=by
 intro j s σ H Q I h;refine wpAny_Call_method_late G L B rfl (thn (ho j s σ H _ I h) fun v Z ⟨x,H1,U,r1,ty,q1⟩=>?_);obtain⟨h1,h2⟩:=HK U r1 ty;refine⟨T,id,pa,slot,N,h1,h2,?_⟩;have S:=ha cpos j Z σ H1 _ U q1;rw[hs]at S⊢;refine Calls.callWith_builtin (by show(false || (backTo cpos (starEach es X.env)).any (·.1))=false;rw[q] <;> rfl) (Calls.evalArgs_plain ?_);exact thn S fun us s2 ⟨vs,H2,I2,r2,q2⟩=>hm j s2 σ H2 x vs v us Q I2 r1 r2 q2
end
noncomputable def N8 (X:Cx)(id:String)(r:V->List V->Hp->VK->Prop):Prop :=
 ∀(j:cW) (s:Shared) (σ:St) (H:Hp) (x:V) (xs:List V) (v:Value) (us:bZ) (Q:VK),aO X j σ H s->aT x v->aR xs us->r x xs H Q ->
  wpAny (model X.prog X.w) X.A (call (.builtin id) (v::us)) (EP X j σ Q) X.xe s
theorem aR.one:∀{x:V} {us:bZ},aR [x] us->∃u,us=[u]/\aT x u
 | _,_,.cons r .nil=>⟨_,rfl,r⟩
theorem aR.two:∀{x y:V} {us:bZ},aR [x,y] us->∃u v,us=[u,v]/\aT x u/\aT y v
 | _,_,_,.cons r (.cons q .nil)=>⟨_,_,rfl,r,q⟩
theorem aR.zero:∀{us:bZ},aR [] us->us=[]
 | _,.nil=>rfl
theorem aR.dropLast {xs:List V}{us:bZ}(h:aR xs us):aR xs.dropLast us.dropLast:=by
 induction h with
 | nil=>exact .nil
 | cons r t j =>
  cases t with
  | nil=>exact .nil
  | cons q t'=>exact .cons r j
theorem aR.eraseIdx:∀{xs:List V} {us:bZ} (i:Nat),aR xs us->aR (xs.eraseIdx i) (us.eraseIdx i)
 | _,_,_,.nil=>.nil
 | _,_,0,.cons _ t=>t
 | _,_,i+1,.cons r t=>.cons r (aR.eraseIdx i t)
theorem aR.reverse {xs:List V}{us:bZ}(h:aR xs us):aR xs.reverse us.reverse:=by
 induction h with
 | nil=>exact .nil
 | cons r t j=>rw[List.reverse_cons,List.reverse_cons];exact aR.append j (.cons r .nil)
theorem aR.rep {xs:List V}{us:bZ}(h:aR xs us):∀k:Nat,aR (List.replicate k xs).flatten (List.replicate k us).flatten
 | 0=>.nil
 | k+1=>by rw[List.replicate_succ,List.replicate_succ,List.flatten_cons,List.flatten_cons];exact aR.append h (aR.rep h k)
theorem C9 {α:Type}(l:List α):l.eraseIdx (l.length - 1)=l.dropLast:=by
 induction l with
 | nil=>rfl
 | cons a r j =>
  cases r with
  | nil=>rfl
  | cons b r =>
   have e:(a::b::r).length - 1=((b::r).length - 1)+1:=by have B:(a::b::r).length=r.length+2:=rfl;have q:(b::r).length=r.length+1:=rfl;omega
   rw[e,List.eraseIdx_cons_succ,j]
   all_goals rfl
theorem vR {α:Type}:∀(l:List α) (i:Nat),(l.eraseIdx i).length<=l.length
 | [],_=>Nat.le_refl _
 | _::_,0=>Nat.le_succ _
 | _::r,i+1=>Nat.succ_le_succ (vR r i)
theorem v8 (its:bZ):∀(k:Nat) (j:bZ),
  List.foldl (fun B q=>B++q) j.toArray (List.replicate k its.toArray)=(j++(List.replicate k its).flatten).toArray
 | 0,j=>by simp
 | k+1,j=>by
  have e:j.toArray++its.toArray=(j++its).toArray:=by simp
  have G:(j++its)++(List.replicate k its).flatten=j++(List.replicate (k+1) its).flatten:=by rw[List.replicate_succ,List.flatten_cons,List.append_assoc]
  rw[←G,←v8 its k (j++its),←e,List.replicate_succ,List.foldl_cons]
section
variable {X:Cx}{pins:cW}{σ:St}{H:Hp}{s:Shared}{l b:Addr}{xs ys zs:List V}
theorem aO.lset {its its':bZ}{n:Nat}{f:i4->i4}{t':Nat}(I:aO X pins σ H s)(N:H l=some (.lst xs))
  (e:s.heap.get? l=some {cls:=.type "list",data:=.seq its.toArray n}) (G:f its.toArray=its'.toArray) (j:aR ys its') (hz:ys.length<=sizeLine) :
  aO X pins σ (upd H l (.lst ys)) {s with heap:=s.heap.update l (Obj.mapSeq f),toks:=t'}:=by
 have q:=PySem.IsL.update e f;rw[G]at q;refine I.write (x:=l) (e:=l) (by rw[N];exact trivial) (.inl rfl) (fun S u L B=>(Heap.get?_update_other s.heap (Obj.mapSeq f) (Ne.symm L)).trans B) ⟨_,q⟩ ?_;exact⟨hz,its',_,j,q⟩
theorem aO.lnew {its:bZ}{t':Nat}(I:aO X pins σ H s)(j:aR ys its)(hz:ys.length<=sizeLine) :
  aO X pins σ (upd H s.heap.objs.size (.lst ys)) {s with heap:=s.heap.push {cls:=.type "list",data:=.seq its.toArray},toks:=t'} :=
 I.laid (fun _ _ q=>Heap.get?_push_of_some _ q) (Nat.le_refl _) ⟨hz,its,0,j,Heap.get?_push_size _ rfl⟩
theorem aO.fresh (I:aO X pins σ H s):H s.heap.objs.size=none:=I.hok.fresh (Nat.le_refl _)
theorem aO.lstM (I:aO X pins σ H s)(j:H l=some (.lst xs)):xs.length<=sizeLine/\∃(its:bZ) (n:Nat),aR xs its/\xs.length=its.length/\s.heap.get? l=some {cls:=.type "list",data:=.seq its.toArray n}:=by obtain⟨z,its,n,r,e⟩:=I.hok l _ j;exact⟨z,its,n,r,r.length,e⟩
theorem sJ {n:Nat}(h:n<=sizeLine):Builtin.List.listTooLong n=false:=by unfold Builtin.List.listTooLong;exact decide_eq_false (by omega)
end
section
variable {X:Cx}
noncomputable def rAppend:V->List V->Hp->VK->Prop:=fun x vs H Q=>∃l xs y,x = .ref l/\vs=[y]/\H l=some (.lst xs)/\xs.length<sizeLine/\Q .non (upd H l (.lst (xs++[y])))
theorem fF:N8 X "list.append" rAppend:=by intro j s σ H x vs v us Q I G L h;obtain⟨l,xs,y,rfl,rfl,B,hz,q⟩:=h;cases G;obtain⟨u,rfl,N⟩:=L.one;obtain⟨z,its,n,r,S,e⟩:=I.lstM B;refine call_meets F.slot_list_append ⟨_,e,rfl⟩ F.entry_list_append (F.args_list_append_2 _ _) (PySem.list_append l its.toArray n u (by rw[List.size_toArray];omega)) ⟨e,?_⟩;refine⟨.non,_,I.lset (its':=its++[u]) B e (by simp) (r.append (.cons N .nil)) ?_,rfl,q⟩;rw[List.length_append,List.length_singleton];omega
noncomputable def rExtend:V->List V->Hp->VK->Prop:=fun x vs H Q=>∃l b xs j,x = .ref l/\vs=[.ref b]/\H l=some (.lst xs)/\H b=some (.lst j)/\xs.length+j.length<=sizeLine/\Q .non (upd H l (.lst (xs++j)))
theorem FZ:N8 X "list.extend" rExtend:=by
 intro B s σ H x vs v us Q I L N h;obtain⟨l,b,xs,zs,rfl,rfl,G,hB,hz,q⟩:=h;cases L;obtain⟨u,rfl,S⟩:=N.one;cases S;obtain⟨z,its,n,r,hl,e⟩:=I.lstM G;obtain⟨z2,its2,n2,U,Z,e2⟩:=I.lstM hB;have hsz:its.toArray.size+its2.toArray.size<=sizeLine:=by rw[List.size_toArray,List.size_toArray];omega
 have j:¬(!its.toArray.isEmpty && Builtin.List.listTooLong (its.toArray.size+its2.toArray.size))=true:=by rw[sJ hsz,Bool.and_false];exact Bool.false_ne_true
 refine call_meets F.slot_list_extend ⟨_,e,rfl⟩ F.entry_list_extend (F.args_list_extend_2 _ _)
  (AutoSeq1.list_extend_list_list_0 l its.toArray n b its2.toArray n2 j (by rw[List.size_toArray];omega) (by omega)) ⟨e,e2,?_⟩
 refine⟨.non,_,I.lset (its':=its++its2) G e (by simp) (r.append U) ?_,rfl,q⟩;rw[List.length_append];omega
noncomputable def rPop:V->List V->Hp->VK->Prop:=fun x vs H Q=>∃l xs y,x = .ref l/\vs=[]/\H l=some (.lst xs)/\xs[xs.length - 1]?=some y/\Q y (upd H l (.lst xs.dropLast))
theorem CN:N8 X "list.pop" rPop:=by
 intro B s σ H x vs v us Q I L N h;obtain⟨l,xs,y,rfl,rfl,G,U,q⟩:=h;cases L;have j:=N.zero;subst j;obtain⟨z,its,n,r,hl,e⟩:=I.lstM G;obtain⟨u,Z,S⟩:=r.get U;have hy':its.toArray[its.toArray.size - 1]?=some u:=by show its.toArray[its.length - 1]?=some u;rw[←Array.getElem?_toList,←hl];exact Z
 refine call_meets F.slot_list_pop ⟨_,e,rfl⟩ F.entry_list_pop (F.args_list_pop_1 _) (MeetsSeq.list_pop_last l its.toArray n u hy' (by rw[List.size_toArray];omega)) ⟨e,?_⟩;refine⟨y,_,I.lset (its':=its.dropLast) G e ?_ r.dropLast ?_,S,q⟩
 ·show its.toArray.eraseIdxIfInBounds (its.toArray.size - 1)=its.dropLast.toArray;rw[List.size_toArray,List.eraseIdxIfInBounds_toArray,C9]
 ·rw[List.length_dropLast];omega
noncomputable def rPopAt:V->List V->Hp->VK->Prop:=fun x vs H Q=>∃l xs i k y,x = .ref l/\vs=[.int i]/\H l=some (.lst xs)/\-(2 ^ 63)<=i/\i<2 ^ 63/\seqIndex? i xs.length=some k/\xs[k]?=some y/\Q y (upd H l (.lst (xs.eraseIdx k)))
theorem JK:N8 X "list.pop" rPopAt:=by
 intro B s σ H x vs v us Q I L N h;obtain⟨l,xs,i,k,y,rfl,rfl,G,h1,h2,hk,U,q⟩:=h;cases L;obtain⟨u,rfl,S⟩:=N.one;obtain⟨t,rfl⟩:=S;obtain⟨z,its,n,r,hl,e⟩:=I.lstM G;obtain⟨w,Z,j⟩:=r.get U;refine call_meets F.slot_list_pop ⟨_,e,rfl⟩ F.entry_list_pop (F.args_list_pop_2 _ _)
  (MeetsSeq.list_pop_at l its.toArray n i t k w (fitsIndex_both h1 h2) (by rw[List.size_toArray,←hl];exact hk) (by rw[←Array.getElem?_toList];exact Z) (by rw[List.size_toArray];omega)) ⟨e,?_⟩
 refine⟨y,_,I.lset (its':=its.eraseIdx k) G e ?_ (r.eraseIdx k) ?_,j,q⟩
 ·show its.toArray.eraseIdxIfInBounds k=(its.eraseIdx k).toArray;rw[List.eraseIdxIfInBounds_toArray]
 ·have:=vR xs k;omega
noncomputable def ID:V->List V->Hp->VK->Prop:=fun x vs H Q=>∃l xs,x = .ref l/\vs=[]/\H l=some (.lst xs)/\Q .non (upd H l (.lst xs.reverse))
theorem CM:N8 X "list.reverse" ID:=by intro B s σ H x vs v us Q I L N h;obtain⟨l,xs,rfl,rfl,G,q⟩:=h;cases L;have j:=N.zero;subst j;obtain⟨z,its,n,r,S,e⟩:=I.lstM G;refine call_meets F.slot_list_reverse ⟨_,e,rfl⟩ F.entry_list_reverse (F.args_list_reverse_1 _) (AutoSeq1.list_reverse_list_0 l its.toArray n (by rw[List.size_toArray];omega)) ⟨e,?_⟩;refine⟨.non,_,I.lset (its':=its.reverse) G e (by simp) r.reverse ?_,rfl,q⟩;rw[List.length_reverse];omega
noncomputable def rCat:R2:=fun x y H Q=>∃l b xs j,x = .ref l/\y = .ref b/\H l=some (.lst xs)/\H b=some (.lst j)/\xs.length+j.length<=sizeLine/\∀p,H p=none->Q (.ref p) (upd H p (.lst (xs++j)))
theorem PF:i5 X (binaryOp .Add) rCat:=by
 intro j s σ H x y v u Q I G B h;obtain⟨l,b,xs,zs,rfl,rfl,S,U,hz,q⟩:=h;cases G;cases B;obtain⟨z,its,n,r,hl,e⟩:=I.lstM S;obtain⟨z2,its2,n2,L,N,e2⟩:=I.lstM U;refine PySem.P.add_list e e2 ?_ (by rw[List.size_toArray,List.size_toArray];omega);have Z:its.toArray++its2.toArray=(its++its2).toArray:=by simp
 rw[Z];exact⟨.ref _,_,I.lnew (t':=s.toks) (r.append L) (by rw[List.length_append];omega),rfl,q _ I.fresh⟩
noncomputable def rRep:R2:=fun x y H Q=>∃l k xs,x = .ref l/\y = .int k/\H l=some (.lst xs)/\-(2 ^ 63)<=k/\k<2 ^ 63/\xs.length * k.toNat<=sizeLine /\
 ∀p,H p=none->Q (.ref p) (upd H p (.lst (List.replicate k.toNat xs).flatten))
theorem MT {α:Type}(xs:List α)(k:Nat):(List.replicate k xs).flatten.length=k * xs.length:=by
 induction k with
 | zero=>simp
 | succ k j=>rw[List.replicate_succ,List.flatten_cons,List.length_append,j,Nat.succ_mul,Nat.add_comm]
theorem pH:i5 X (binaryOp .Mult) rRep:=by
 intro pins s σ H x y v u Q I rx ry h;obtain⟨l,k,xs,rfl,rfl,hH,h1,h2,hz,q⟩:=h;cases rx;obtain⟨t,rfl⟩:=ry;obtain⟨z,its,n,r,hl,e⟩:=I.lstM hH;have G:its.toArray.size * k.toNat<=sizeLine:=by rw[List.size_toArray,←hl];exact hz
 have N:¬its.toArray.size * k.toNat > (2 ^ 63 - 1) / 8:=by
  have:(sizeLine:Nat)<=(2 ^ 63 - 1) / 8:=by decide
  omega
 have L:¬(!Builtin.List.listFitsIndex k)=true:=by rw[fitsIndex_both h1 h2];exact Bool.false_ne_true
 have j:¬Builtin.List.listTooLong (its.toArray.size * k.toNat)=true:=by rw[sJ G];exact Bool.false_ne_true
 have B:List.foldl (fun Z S=>Z++S) #[] (List.replicate (if its.toArray.isEmpty=true then 0 else k.toNat) its.toArray)=(List.replicate k.toNat its).flatten.toArray:=by
  have f0:∀m:Nat,List.foldl (fun Z S=>Z++S) #[] (List.replicate m its.toArray)=(List.replicate m its).flatten.toArray:=fun m=>by have:=v8 its m [];rw[List.nil_append]at this;exact this
  rw[f0];cases its with
  | nil=>simp
  | cons a r'=>rw[if_neg (by simp)]
 refine wpAny_binaryOp_repeat_ref (T:="list") (U:="int") (by decide) ⟨_,e,rfl⟩ (fun s'=>typeIs_int s' k t) noFill_list_mul F.fills_int_mul F.slot_int_rmul repeat_list F.slot_int_index.lookup
  (call_meets F.slot_int_rmul (typeIs_int s k t) F.entry_int_rmul (F.args_int_rmul_2 _ _) (int___rmul___int_list k t l its.toArray n)
   ⟨e,rfl,⟨_,e,rfl⟩,call_meets F.slot_list_mul ⟨_,e,rfl⟩ F.entry_list_mul (F.args_list_mul_2 _ _) (AutoListH.list___mul___list_int_3 l its.toArray n k t L N j) ⟨e,?_⟩⟩)
 rw[B];exact⟨.ref _,_,I.lnew (t':=s.toks) (r.rep k.toNat) (by rw[MT,Nat.mul_comm];exact hz),rfl,q _ I.fresh⟩
end
end L2
namespace Att
open PySem PySem.W PySem.Calls PyProof.Rows
theorem qX {P:Params}{h:Heap}:∀(ns:List Int) (vs:bZ),WellAll P h vs (ns.map WData.int)->IntsAre vs ns:=by
 intro ns
 induction ns with
 | nil =>
  intro vs w;rw[List.map_nil]at w;cases w;exact .nil
 | cons n ns j =>
  intro vs w;rw[List.map_cons]at w;cases w with
  | cons a b =>
   cases a;exact .cons _ _ (j _ b)
theorem FE {l:OpenLaw}{n:Nat}(hn:l.most=some n){P:Params}{h:Heap}{args:List WData}{j:bZ}
  (B:l.row.toRowW.claim.pre args=true) (S:WellAll P h j args) :
  ∃a vs ns,j=[Value.ref a]/\args=[WData.list (ns.map WData.int)]/\h.get? a=some {cls:=.type "list",data:=.seq vs.toArray}/\IntsAre vs ns/\ns.length<=n:=by
 have U:WShape.hasAll [] args [.list .int]=true:=(pre_splitW B).1;have hc:l.pre.holds [] {args:=args}=true:=(pre_splitW B).2;obtain⟨d,r,rfl,h1,h2⟩:=hasAllW_cons U;obtain rfl:=hasAllW_nil h2;obtain⟨xs,rfl,h3⟩:=hasW_list h1;obtain⟨ns,rfl⟩:=items_int h3;have G:ns.length<=n:=by
  unfold OpenLaw.pre at hc;have N:(WTm.not (.lt (.lit (.int (n:Int))) (.len (.arg 0)))).holds [] {args:=[.list (ns.map .int)]}=true:=by have N:=(holds_andW hc).1;rw[hn]at N;exact N
  have L:=condW_of N (w_not (w_lt w_lit (w_len_list (w_arg rfl))));rw[List.length_map]at L;refine Nat.le_of_not_lt fun q=>?_;have q':(n:Int)<((ns.length:Nat):Int):=by omega
  first
   | (rw[decide_eq_true q']at L;exact absurd L (by decide))
   | (simp at L;omega)
 cases S with
 | cons w1 Z =>
  cases Z;cases w1 with
  | list ho I=>exact⟨_,_,ns,rfl,rfl,ho,qX ns _ I,G⟩
theorem FK (l:OpenLaw)(args:List WData):l.row.toRowW.claim.post args (.bool true) args=true :=
 postW_of (r:=l.row.toRowW) (X:=(true == true))
  (show WShape.has [] (.bool true) .bool=true by first|rfl|decide|simp[WShape.has,WShape.arms,WShape.armsAll])
  (show(WTm.eq .res (.lit (.bool true))).value [] {args:=args,res:=some (.bool true),after:=args}=some (.bool (true == true))from w_eq_bool (w_res rfl) w_lit) rfl
theorem A9 {l:OpenLaw}{n:Nat}{q:Program}{loose:aW}{XP:(fM)->Heap->Prop}{YP:World->Heap->Prop}{d:DefRec}
  (hn:l.most=some n) (hdf:d.params.defaults=[])
  (call:∀(w:World) (s₀ j:Shared) (mg mb:fM) (U:Addr) (o:Obj) (pm cd I:Value) (a:Addr) (vs:bZ) (ns:List Int),
   Ground q loose [] XP w s₀ mg mb j.heap->YP w j.heap ->
   j.heap.get? U=some o->o.data = .func (docDef d.name d.params d.body d.scope pm cd I)->j.heap.CodeRec cd d.name->mg d.name=some (.ref U) ->
   j.heap.get? a=some {cls:=.type "list",data:=.seq vs.toArray}->IntsAre vs ns->ns.length<=n->j.gens = #[] ->
   codeAny (model l.prog w) callerA (.call (.ref U) ⟨[.ref a],[]⟩) (fun r Z=>r = .ok (.ret (.bool true))/\OldK j.heap Z.heap/\Z.os=j.os/\AllBare Z.gens) j) :
  WalkO q loose XP YP l.row.toRowW d [] (fun f vs=>PySem.call f vs):=by
 intro w s₀ j mg mb G Y U o pm cd I dV kV ho hd hcd hD hmg hg args vals as L hlay hrd hwl hlo;obtain rfl:dV = .none:=Dflts.none hD hdf;obtain rfl:kV = .none:=Dflts.noKw hD;obtain⟨a,vs,ns,rfl,rfl,N,B,S⟩:=FE hn L hwl;refine enter_call (codeAny_mono (call w s₀ j mg mb U o pm cd I a vs ns G Y ho (fd_plain hd) hcd hmg N B S hg) fun r Z hq=>?_);obtain⟨rfl,h2,h3,h4⟩:=hq;exact⟨.inl ⟨.bool true,.bool true,[],rfl,fun _=>rfl,.bool true,FK l _,fun _=>⟨List.Pairwise.nil,fun _ hm=>(nomatch hm)⟩⟩,h2,h3,h4⟩
end Att
namespace L2
open PySem PySem.Spec PyProof.Rows
theorem uZ:∀{vs:bZ} {ns:List Int},IntsAre vs ns->aR (ns.map V.int) vs
 | _,_,.nil=>.nil
 | _,_,.cons n t h=>.cons ⟨t,rfl⟩ (uZ h)
noncomputable abbrev a0:zB:=fun _ _ _ _ _ _=>False
noncomputable abbrev E0:XK:=fun _ _ _=>False
theorem pass0 {X:Cx}:jO a0 X E0:=fun _ _ _ _ _ _ _ h=>h.elim
structure gU (K:PySem.W.Frag)(x qual:Str)(st:Stmt)(f:Addr)(fd:FuncData):Prop where
 ex:∃(oc:Value) (od:Option Addr) (kV doc pm:Value) (an:Option Addr) (cdv ct:Value) (osl:Array (Option Value)),
  fd=PySem.W.fnOf x qual (aP st) (aN st) (aD st) .none kV doc pm an cdv ct/\K.lookup f=some ⟨oc,od,.func fd,osl⟩/\PySem.W.codeIn K cdv qual=true
 kp:PySem.W.keepIn K (.ref f)=true
section
variable {P:Program}{w:World}{K:PySem.W.Frag}{mg:fM}{base:Heap}
theorem gU.ok {x j:Str}{st:Stmt}{f:Addr}{U:FuncData}{N ps:aW}{k:Nat}{sp:Sp}(F:gU K x j st f U)(S:aS N ps (aD st))(len:∀vs H Q E,sp vs H Q E->vs.length=ps.length)
  (G:∀(B:Value) (A:Around) (outer:List Env) (s:Shared) (H:Hp) (vs:List V) (Q:VK) (E:XK),eK k (A.deeper (envOfC j (aD st) s.heap.objs.size f B))->sp vs H Q E ->
   ∃t,BJ (cxOf a0 P w K mg base N j (aD st) f B A outer s H E).nox (aN st) t/\t {nx:=fun _ H'=>Q .non H',rt:=Q} (start N vs) H):cA P w K mg base a0 (k+1) f U ps sp:=by
 obtain⟨oc,od,kV,doc,pm,an,B,ct,osl,rfl,Z,L⟩:=F.ex;refine N4 Z L S len fun A outer s H vs Q E hr I=>?_;obtain⟨t,h,q⟩:=G B A outer s H vs Q E hr I;exact⟨t,h.nox,q⟩
theorem gU.binds {x j:Str}{st:Stmt}{f:Addr}{L:FuncData}{ps:aW}(F:gU K x j st f L)
  (h:∀(kV q G:Value) (I:Option Addr) (B ct:Value) (us:bZ),us.length=ps.length->bindArgs (PySem.W.fnOf x j (aP st) (aN st) (aD st) .none kV q G I B ct) ⟨us,[]⟩=pure (ps.zip us)):fN K L ps []:=by
 obtain⟨S,od,kV,q,G,I,B,ct,osl,rfl,U,N⟩:=F.ex;exact .all (h kV q G I B ct)
theorem bB {x j:Str}{st:Stmt}{f:Addr}{L:Value}{od I:Option Addr}{osl:Array (Option Value)}{kV B G q ct:Value}(l:K.lookup f=some ⟨L,od,.func (PySem.W.fnOf x j (aP st) (aN st) (aD st) .none kV B G I q ct),osl⟩)
  (c:PySem.W.codeIn K q j=true) (k:PySem.W.keepIn K (.ref f)=true):gU K x j st f (PySem.W.fnOf x j (aP st) (aN st) (aD st) .none kV B G I q ct):=⟨⟨L,od,kV,B,G,I,q,ct,osl,rfl,l,c⟩,k⟩
end
section
variable {X:Cx}
theorem pv (i:Nat){x:Str}{j:Pos}(G:X.N[i]?=some x:=by rfl)(B:RI X.env.scope x:=by first|exact Or.inl rfl|exact Or.inr (Or.inl rfl)|exact Or.inr (Or.inr rfl))(hd:(x == ("__debug__" : Str))=false:=by decide)
  (q:(x == ("__classdict__" : Str))=false:=by decide):PE X (.Name x j) (tVar i):=IJ G B hd q
end
theorem ite2 {c A B:Prop}[Decidable c](q:c->A)(j:¬c->B):if c then A else B:=by
 by_cases h:c
 ·rw[if_pos h];exact q h
 ·rw[if_neg h];exact j h
noncomputable def aH (H H':Hp):Prop:=∀b o,H b=some o->H' b=some o
theorem aH.refl (H:Hp):aH H H:=fun _ _ h=>h
theorem aH.trans {H q j:Hp}(a:aH H q)(b:aH q j):aH H j:=fun c o h=>b c o (a c o h)
theorem aH.free {H H':Hp}(e:aH H H'){l:Addr}(h:H' l=Option.none):H l=Option.none:=by
 cases q:H l with
 | none=>rfl
 | some o =>
  rw[e l o q]at h;cases h
theorem aH.seq {K:PySem.W.Frag}{H H':Hp}{a:Addr}{xs:List V}(e:aH H H')(h:fA K H a xs):fA K H' a xs:=by
 rcases h with(h|⟨o,h⟩)|h
 ·exact .inl (.inl (e _ _ h))
 ·exact .inl (.inr ⟨o,e _ _ h⟩)
 ·exact .inr h
section
variable {κ:Type}[DecidableEq κ]
noncomputable def valV (j:List (κ×V))(k:κ):Option V:=(j.find? fun q=>decide (q.1=k)).map (·.2)
noncomputable def putK (j:List (κ×V))(k:κ)(v:V):List (κ×V) :=
 if (j.any fun q=>decide (q.1=k))=true then j.map (fun q=>if q.1=k then(q.1,v)else q)else j++[(k,v)]
theorem jZ {p:κ×V}{r:List (κ×V)}{k:κ}(e:p.1=k):valV (p::r) k=some p.2:=by simp[valV,List.find?_cons,e]
theorem j4 {p:κ×V}{r:List (κ×V)}{k:κ}(e:¬p.1=k):valV (p::r) k=valV r k:=by simp[valV,List.find?_cons,e]
theorem rL (k:κ):∀j:List (κ×V),(j.any fun q=>decide (q.1=k))=(valV j k).isSome
 | []=>rfl
 | p::r=>by
  rw[List.any_cons];by_cases e:p.1=k
  ·simp only[jZ e,decide_eq_true e,Bool.true_or,Option.isSome_some]
  ·rw[j4 e,decide_eq_false e,Bool.false_or];exact rL k r
theorem jD (j:List (κ×V))(k:κ)(v:V):(putK j k v).length<=j.length+1:=by
 unfold putK;split
 ·rw[List.length_map];omega
 ·rw[List.length_append,List.length_cons,List.length_nil];omega
theorem putK_new {j:List (κ×V)}{k:κ}(v:V)(h:valV j k=none):putK j k v=j++[(k,v)]:=by unfold putK;rw[rL,h];exact if_neg (by decide)
theorem kI.isSome_eq {o:Option V}{u:Option Value}(r:kI o u):o.isSome=u.isSome:=by
 cases o with
 | none=>cases u with
  | none=>rfl
  | some _=>exact(show False from r).elim
 | some _=>cases u with
  | none=>exact(show False from r).elim
  | some _=>rfl
theorem kI.getD {o:Option V}{u:Option Value}{d:V}{d':Value}(r:kI o u)(j:aT d d'):aT (o.getD d) (u.getD d'):=by
 cases o with
 | none=>cases u with
  | none=>exact j
  | some _=>exact(show False from r).elim
 | some _=>cases u with
  | none=>exact(show False from r).elim
  | some _=>exact r
theorem KV.val {j:List (κ×V)}{vs:List (κ×Value)}(r:KV j vs)(k:κ):kI (valV j k) (valueAt vs k):=by
 unfold KV at r
 induction r with
 | nil=>exact True.intro
 | @cons p q ps B h t I =>
  obtain⟨G,L⟩:=h;by_cases e:p.1=k
  ·have e':q.1=k:=G.symm.trans e;have b:valueAt (q::B) k=some q.2:=by simp[valueAt,List.find?_cons,e']
   rw[jZ e,b];exact L
  ·have e':¬q.1=k:=fun z=>e (G.trans z);have b:valueAt (q::B) k=valueAt B k:=by simp[valueAt,List.find?_cons,e']
   rw[j4 e,b];exact I
theorem KV.any {j:List (κ×V)}{vs:List (κ×Value)}(r:KV j vs)(k:κ):(j.any fun q=>decide (q.1=k))=vs.any fun q=>decide (q.1=k):=by
 unfold KV at r
 induction r with
 | nil=>rfl
 | cons h t B=>rw[List.any_cons,List.any_cons,B,h.1]
theorem KV.repl {B:List (κ×V)}{vs:List (κ×Value)}(r:KV B vs)(k:κ){y:V}{u:Value}(I:aT y u) :
  KV (B.map fun j=>if j.1=k then(j.1,y)else j) (vs.map fun j=>if j.1=k then(j.1,u)else j):=by
 unfold KV at r⊢
 induction r with
 | nil=>exact .nil
 | @cons p q ps S h t L =>
  rw[List.map_cons,List.map_cons];refine .cons ?_ L;obtain⟨G,N⟩:=h;by_cases e:p.1=k
  ·rw[if_pos e,if_pos (G.symm.trans e)];exact⟨G,I⟩
  ·rw[if_neg e,if_neg (fun z=>e (G.trans z))];exact⟨G,N⟩
theorem KV.put {j:List (κ×V)}{vs:List (κ×Value)}(r:KV j vs)(k:κ){y:V}{u:Value}(q:aT y u):KV (putK j k y) (stored vs k u):=by
 unfold putK stored;rw[r.any k];by_cases e:(vs.any fun B=>decide (B.1=k))=true
 ·rw[if_pos e,if_pos e];exact r.repl k q
 ·rw[if_neg e,if_neg e];exact Paired.snoc r ⟨rfl,q⟩
theorem KV.length {j:List (κ×V)}{vs:List (κ×Value)}(r:KV j vs):j.length=vs.length:=Paired.length r
end
theorem mK {P:Program}{w:World}{k:bG}{u:Value}(r:aT (kV k) u):(bF P w).is k u=true:=by
 cases k with
 | inl i=>obtain⟨t,e⟩:=(show ∃t,u=Value.int i t from r);subst e;exact AE P w i t
 | inr x=>obtain⟨t,e⟩:=(show ∃t,u=Value.str x t from r);subst e;exact AD P w x t
theorem vV {P:Program}{w:World}:∀{ks:List bG} {us:bZ},aR (ks.map kV) us->ItemsAre (bF P w) ks us
 | [],_,r=>by rw[List.map_nil]at r;cases r;exact .nil
 | k::ks,_,r=>by
  rw[List.map_cons]at r;cases r with
  | cons h t=>exact .cons (mK h) (vV t)
noncomputable abbrev KT (H:Hp):List (List bG×V)->List (List bG×Addr×Value)->Prop:=Paired fun p q=>p.1=q.1/\H q.2.1=some (.tup (p.1.map kV))/\aT p.2 q.2.2
theorem KT.val {H:Hp}{j:List (List bG×V)}{xs:List (List bG×Addr×Value)}(r:KT H j xs)(k:List bG):kI (valV j k) ((atKey xs k).map (·.2)):=by
 induction r with
 | nil=>exact True.intro
 | @cons p q ps B h t I =>
  obtain⟨G,_,L⟩:=h;by_cases e:p.1=k
  ·have e':q.1=k:=G.symm.trans e;have b:atKey (q::B) k=some q.2:=by simp[atKey,List.find?_cons,e']
   rw[jZ e,b];exact L
  ·have e':¬q.1=k:=fun z=>e (G.trans z);have b:atKey (q::B) k=atKey B k:=by simp[atKey,List.find?_cons,e']
   rw[j4 e,b];exact I
theorem KT.repl {H:Hp}{j:List (List bG×V)}{xs:List (List bG×Addr×Value)}(r:KT H j xs)(k:List bG){y:V}{u:Value}(L:aT y u) :
  KT H (j.map fun G=>if G.1=k then(G.1,y)else G) (xs.map (putAt k u)):=by
 induction r with
 | nil=>exact .nil
 | @cons p q ps U h t N =>
  rw[List.map_cons,List.map_cons];refine .cons ?_ N;obtain⟨B,I,S⟩:=h;unfold putAt;by_cases e:p.1=k
  ·rw[if_pos e,if_pos (B.symm.trans e)];exact⟨B,I,L⟩
  ·rw[if_neg e,if_neg (fun z=>e (B.trans z))];exact⟨B,I,S⟩
theorem KT.put {H:Hp}{j:List (List bG×V)}{xs:List (List bG×Addr×Value)}(r:KT H j xs)(k:List bG){b:Addr}{y:V}{u:Value}(I:H b=some (.tup (k.map kV)))(B:aT y u) :
  KT H (putK j k y) (storedH xs k b u):=by
 have e:(j.any fun G=>decide (G.1=k))=(atKey xs k).isSome:=by rw[rL,(r.val k).isSome_eq,Option.isSome_map]
 unfold putK storedH;rw[e];by_cases q:(atKey xs k).isSome=true
 ·rw[if_pos q,if_pos q];exact r.repl k B
 ·rw[if_neg q,if_neg q];exact Paired.snoc r ⟨rfl,I,B⟩
theorem KT.keeps {H H':Hp}{j:List (List bG×V)}{xs:List (List bG×Addr×Value)}(r:KT H j xs)(q:∀b ys,H b=some (.tup ys)->H' b=some (.tup ys)):KT H' j xs :=
 Paired.mapP r fun _ _ z=>⟨z.1,q _ _ z.2.1,z.2.2⟩
section
variable {P:Program}{w:World}{H:Hp}{h:Heap}{a:Addr}
theorem NY {u:HO}(ok:gR P w H h)(e:Rd H a u):bY P w H h a u:=e.ok ok
theorem qM {j:List (bG×V)}(ok:gR P w H h)(e:Rd H a (.dK j)):j.length<=sizeLine/\(a == sysModules)=false/\∃vs,KV j vs/\h.DictOf (bF P w) a vs :=
 show bY P w H h a (.dK j)from NY ok e
theorem wC {j:List (bG×V)}(ok:gR P w H h)(e:H a=some (.dK j)):j.length<=sizeLine/\(a == sysModules)=false/\∃vs,KV j vs/\h.DictOf (bF P w) a vs:=qM ok (.inl e)
theorem pQ {ks:List bG}(ok:gR P w H h)(e:H a=some (.tup (ks.map kV))):(tupleKind (bF P w)).is h ks a:=by
 obtain⟨_,its,r,o,B,q,n,j⟩:=(show bY P w H h a (.tup (ks.map kV))from ok a _ e)
 exact⟨o,its.toArray,n,B,q,j,by simpa using vV r⟩
theorem tJ {j:List (List bG×V)}(ok:gR P w H h)(e:Rd H a (.dT j)):j.length<=sizeLine/\(a == sysModules)=false /\
  ∃xs,KT H j xs/\h.DictOfH (tupleKind (bF P w)) a xs:=by
 obtain⟨z,y,xs,r,o,es,ep,Z,U,S,N,L⟩:=(show bY P w H h a (.dT j)from NY ok e)
 refine⟨z,y,xs,r,o,es,ep,Z,U,S,N,fun x B=>?_,L⟩;have all:∀{l:List (List bG×V)} {m:List (List bG×Addr×Value)},KT H l m->∀x∈m,(tupleKind (bF P w)).is h x.1 x.2.1:=by
  intro l m q
  induction q with
  | nil=>intro x B;exact nomatch B
  | @cons p q ps qs G t I =>
   intro x B;rcases List.mem_cons.mp B with e|B
   ·subst e;exact pQ ok (by rw[←G.1];exact G.2.1)
   ·exact I x B
 exact all r x B
theorem Q4 {j:List (List bG×V)}(ok:gR P w H h)(e:H a=some (.dT j)):j.length<=sizeLine/\(a == sysModules)=false /\
  ∃xs,KT H j xs/\h.DictOfH (tupleKind (bF P w)) a xs:=tJ ok (.inl e)
end
noncomputable def jY (H:Hp)(a:Addr)(y:V)(r:Option V):Prop :=
 (∃j k,Rd H a (.dK j)/\y=kV k/\r=valV j k)∨∃j k b,Rd H a (.dT j)/\y = .ref b/\H b=some (.tup (k.map kV))/\r=valV j k
noncomputable def DO (H:Hp)(a:Addr)(y v:V)(H':Hp):Prop :=
 (∃j k,H a=some (.dK j)/\y=kV k/\j.length<sizeLine/\H'=upd H a (.dK (putK j k v))) ∨
 ∃j k b,H a=some (.dT j)/\y = .ref b/\H b=some (.tup (k.map kV))/\j.length<sizeLine/\H'=upd H a (.dT (putK j k v))
theorem jY.k {H:Hp}{a:Addr}{j:List (bG×V)}{k:bG}(e:H a=some (.dK j)):jY H a (kV k) (valV j k):=.inl ⟨j,k,.inl e,rfl,rfl⟩
theorem DO.k {H:Hp}{a:Addr}{j:List (bG×V)}{k:bG}{v:V}(e:H a=some (.dK j))(q:j.length<sizeLine):DO H a (kV k) v (upd H a (.dK (putK j k v))):=.inl ⟨j,k,e,rfl,q,rfl⟩
section
variable {X:Cx}{pins:cW}{σ:St}{H:Hp}{s:Shared}{a:Addr}{y v:V}{u r:Value}{o:Option V}{A:Around}{E:cE}
theorem aO.big (I:aO X pins σ H s):sysModules<s.heap.objs.size:=by have h:mainGlobals<s.heap.objs.size:=(I.mod.glob.keeps I.bk).lt;exact Nat.lt_trans (by decide) h
theorem GV {Q:cE}(hu:A.units+1<cLine)(I:aO X pins σ H s)(g:jY H a y (some v))(ry:aT y u)(h:∀B Z,aO X pins σ H Z->aT v B->Q B Z) :
  wpAny (model X.prog X.w) A (getItem (.ref a) u) Q E s:=by
 rcases g with⟨G,k,e,S,l⟩|⟨G,k,b,e,S,eb,l⟩
 ·subst S;obtain⟨z,hd,vs,q,U⟩:=qM I.hok e;obtain⟨B,L,j⟩:=kI.some_of (v:=v) (o:=valueAt vs k) (by rw[l];exact q.val k);exact wpAny_getItem_of (mK ry) U.mapOf L (h B _ (I.tok _) j)
 ·subst S;cases (show u=Value.ref b from ry);obtain⟨z,hd,xs,q,U⟩:=tJ I.hok e;obtain⟨B,L,j⟩:=kI.some_of (v:=v) (o:=(atKey xs k).map (·.2)) (by rw[l];exact q.val k);obtain⟨p,hp,N⟩:=Option.map_eq_some_iff.mp L;refine wpAny_getItem_heap (tupleKind_room_in1 hu) (pQ I.hok eb) U hp ?_;rw[N];exact h B _ (I.tok _) j
theorem NC {Q:cE}(U:A.units+1<cLine)(I:aO X pins σ H s)(g:jY H a y o)(S:aT y u)(h:∀N,aO X pins σ H N->Q (.bool (!o.isSome)) N) :
  wpAny (model X.prog X.w) A (compareOp .NotIn u (.ref a)) Q E s:=by
 rcases g with⟨B,k,e,G,l⟩|⟨B,k,b,e,G,Z,l⟩
 ·subst G;obtain⟨z,hd,vs,j,L⟩:=qM I.hok e;refine wpAny_notIn_of (mK S) hd L.mapOf ?_;rw[←(j.val k).isSome_eq,←l];exact h _ (I.tok _)
 ·subst G;cases (show u=Value.ref b from S);obtain⟨z,hd,xs,j,L⟩:=tJ I.hok e;refine wpAny_notIn_heap (tupleKind_room_in1 U) (pQ I.hok Z) hd L ?_;have q:=(j.val k).isSome_eq;rw[Option.isSome_map]at q;rw[←q,←l];exact h _ (I.tok _)
theorem oF {h':Heap}{t':Nat}{j:HO}(I:aO X pins σ H s)(B:RE (H a))(G:Heap.SameBut a s.heap h')(L:∃q,h'.get? a=some q)(new:bY X.prog X.w (upd H a j) h' a j) :
  aO X pins σ (upd H a j) {s with heap:=h',toks:=t'} :=
 I.write (x:=a) (e:=a) B (.inl rfl) (fun b q N z=>(G.2 b N).trans z) L new
theorem DA {P:Program}{w:World}{H':Hp}{h':Heap}{j:List (bG×V)}{vs:List (bG×Value)}(z:j.length<=sizeLine)(hd:(a == sysModules)=false)(q:KV j vs)(B:h'.DictOf (bF P w) a vs) :
  bY P w H' h' a (.dK j):=⟨z,hd,vs,q,B⟩
theorem GU {H':Hp}{Q:Unit->Shared->Prop}(hu:A.units+1<cLine)(I:aO X pins σ H s)(g:DO H a y v H')(ry:aT y u)(rv:aT v r)(h:∀s',aO X pins σ H' s'->Q () s') :
  wpAny (model X.prog X.w) A (setItem (.ref a) u r) Q E s:=by
 rcases g with⟨B,k,e,U,l,Z⟩|⟨B,k,b,e,U,eb,l,Z⟩
 ·subst U Z;obtain⟨z,hd,vs,j,dd⟩:=wC I.hok e;have hz:vs.length<=sizeLine:=by rw[←j.length];exact z
  have S:(putK B k v).length<=sizeLine:=by have:=jD B k v;omega
  refine wpAny_setItem_pairs (hsz:=hz) (mK ry) dd fun h' G N=>h _ ?_;have he:∃q,h'.get? a=some q:=let⟨q,_,_,L,_⟩:=G;⟨q,L⟩;exact oF I (by rw[e];exact True.intro) N he (DA S hd (j.put k rv) G)
 ·subst U Z;cases (show u=Value.ref b from ry);obtain⟨z,hd,xs,j,dd⟩:=Q4 I.hok e;have hz:xs.length<=sizeLine:=by rw[←Paired.length j];exact z
  have S:(putK B k v).length<=sizeLine:=by have:=jD B k v;omega
  refine wpAny_setItem_heap (hsz:=hz) (tupleKind_room_in1 hu) (pQ I.hok eb) dd fun h' G N=>h _ ?_;obtain⟨q,es,ep,L,h2,h3,h4,_,h5⟩:=G;refine oF I (by rw[e];exact True.intro) N ⟨q,L⟩ ⟨S,hd,_,(j.put k eb rv).keeps fun c ys ec=>?_,q,es,ep,L,h2,h3,h4,h5⟩;rw[aB (Q2 ec e (fun z=>nomatch z))];exact ec
end
section
variable {X:Cx}{pins:cW}{σ:St}{H:Hp}{s:Shared}{a:Addr}{kvs:List (bG×V)}{k:bG}{u:Value}{A:Around}{E:cE}
theorem ND {Q:cE}(I:aO X pins σ H s)(e:H a=some (.dK kvs))(h:∀G,aO X pins σ (upd H a (.dK [])) G->Q .none G):wpAny (model X.prog X.w) A (call (.builtin "dict.clear") [.ref a]) Q E s:=by obtain⟨z,hd,vs,B,L⟩:=wC I.hok e;refine call_meetsIn PySem.F.slot_dict_clear L.typeIs PySem.F.entry_dict_clear (PySem.F.args_dict_clear_1 _) (meets_dict_clear (bF X.prog X.w) a) ⟨vs,L,by rw[←B.length];exact z,fun h' j N=>h _ ?_⟩;have S:∃q,h'.get? a=some q:=let⟨q,_,_,hq,_⟩:=j;⟨q,hq⟩;exact oF (t':=s.toks) I (by rw[e];exact True.intro) N S (DA (Nat.zero_le _) hd .nil j)
theorem Q5 {Q:cE}(I:aO X pins σ H s)(e:Rd H a (.dK kvs))(h:∀t q,aO X pins σ H q->Q (.int kvs.length t) q):wpAny (model X.prog X.w) A (call (.builtin "len") [.ref a]) Q E s:=by obtain⟨z,hd,vs,j,B⟩:=qM I.hok e;refine call_len_dict hd B (by rw[←j.length];rw[sizeLine_eq]at z;omega) ?_;rw[←j.length];exact h _ _ (I.tok _)
end
noncomputable def QM (i:Expr):Prop:=∀j q,subscripted i false j q=operate [j,q] (getItem j q)
theorem DV {prog:Program}{w:World}{A:Around}{E:cE}{s:Shared}{env:Env}{q j:Expr}{G:Pos}{T id:String}{Q:cE}
  (hl:typeLookup (.type T) "__getitem__" = pure (some (.builtin id))) (hs:QM j)
  (h:wpAny (model prog w) A (eval q env) (fun o N=>wpAny (model prog w) A (eval j env) (fun i B=>B.TypeIs o T/\wpAny (model prog w) A (getItem o i) Q E B) E N) E s) :
  wpAny (model prog w) A (eval (.Subscript q j G) env) Q E s:=by
 refine Subscript_ (wpAny_mono h (fun o N Z=>wpAny_mono Z (fun i B I=>?_) fun _ _ x=>x) fun _ _ x=>x);obtain⟨S,I⟩:=I;unfold subscriptTail;refine wpAny_bind ?_;rw[getitemInPython_of_ne S.not_modules];refine wpAny_bind (wpAny_specialOf S hl ?_);have fin:wpAny (model prog w) A (subscripted j false o i) (fun r L=>wpAny (model prog w) A (letTemporaryGo q o r >>= fun _=>pure r) Q E L) E B:=by rw[hs o i];exact wpAny_operating (wpAny_mono I (fun r L U=>wpAny_bind (wpAny_letTemporaryGo (wpAny_pure U))) fun _ _ x=>x)
 first
  | exact wpAny_pure (wpAny_bind fin)
  | exact wpAny_bind (wpAny_pure (wpAny_bind fin))
  | exact wpAny_bind fin
theorem A1 {X:Cx}{j:cW}{σ:St}{H:Hp}{s:Shared}{a:Addr}{y:V}{o:Option V}(I:aO X j σ H s)(g:jY H a y o):s.TypeIs (.ref a) "dict":=by
 rcases g with⟨q,k,e,_,_⟩|⟨q,k,b,e,_,_,_⟩
 ·obtain⟨_,_,vs,_,B⟩:=qM I.hok e;exact B.typeIs
 ·obtain⟨_,_,xs,_,B⟩:=tJ I.hok e;exact B.typeIs
noncomputable def tDGet (q ty:TE):TE:=fun σ H Q=>q σ H fun x B=>ty σ B fun y j=>∃a v,x = .ref a/\jY j a y (some v)/\Q v j
noncomputable def sDPut (q ty tv:TE):TS:=fun D σ H=>tv σ H fun v I=>q σ I fun x G=>ty σ G fun y B=>∃a j,x = .ref a/\DO B a y v j/\D.nx σ j
section
variable {X:Cx}{o i e value:Expr}{pos pos' tpos:Pos}{td ty tv:TE}
theorem n5 (Z:X.A.units+1<cLine)(ho:PE X o td)(hi:PE X i ty)(hs:QM i):PE X (.Subscript o i pos) (tDGet td ty):=by intro j s σ H Q I h;refine DV PySem.F.slot_dict_getitem.lookup hs (thn (ho j s σ H _ I h) fun u G ⟨x,H1,I1,N,U⟩=>thn (hi j G σ H1 _ I1 U) fun iv s2 ⟨y,H2,B,L,a,v,ex,g,S⟩=>?_);subst ex;obtain rfl:u=Value.ref a:=N;exact⟨A1 B g,GV Z B g L fun w' s3 I3 q=>⟨v,H2,I3,q,S⟩⟩
theorem xP (hu:X.A.units+1<cLine)(ho:PE X o td)(hi:PE X i ty)(Z:PE X value tv)(hs:swapsWith value (some (.Subscript o i pos')) pos.line X.env=pure false) :
  PS X (.Assign [.Subscript o i pos'] value pos) (sDPut td ty tv):=by
 intro j s σ H D I h;refine wpAny_Assign_Subscript (thn (Z j s σ H _ I h) fun r q ⟨v,H1,I1,L,U⟩=>thn (ho j q σ H1 _ I1 U) fun u s2 ⟨x,H2,I2,G,S⟩=>thn (hi j s2 σ H2 _ I2 S) fun iv s3 ⟨y,H3,I3,B,a,H4,ex,g,N⟩=>?_) hs;subst ex;obtain rfl:u=Value.ref a:=G;exact GU hu I3 g B L fun s4 I4=>⟨σ,H4,I4,N⟩
end
theorem KD {P:Program}{w:World}{H:Hp}(h:Heap)(j:sysModules<h.objs.size):bY P w H (h.push {cls:=.type "dict",data:=.dict #[]}) h.objs.size (.dK []) :=
 ⟨Nat.zero_le _,beq_eq_false_iff_ne.mpr (Ne.symm (Nat.ne_of_lt j)),[],.nil,Heap.DictOf.new h⟩
noncomputable def HR:TE:=fun _ H Q=>∀p,H p=none->Q (.ref p) (upd H p (.dK []))
section
variable {X:Cx}{pos:Pos}
theorem nY:PE X (.Dict [] [] pos) HR:=fun j s σ H Q I h =>
 wpAny_Dict_empty ⟨.ref s.heap.objs.size,_,I.laid (a:=s.heap.objs.size) (o:=.dK []) (t':=s.toks) (fun _ _ q=>Heap.get?_push_of_some _ q) (Nat.le_refl _) (KD s.heap I.big),rfl,h _ (I.hok.fresh (Nat.le_refl _))⟩
end
noncomputable def jI (j more:List (bG×V)):List (bG×V):=more.foldl (fun q B=>putK q B.1 B.2) j
theorem KV.merge:∀{more:List (bG×V)} {B:List (bG×Value)} {j:List (bG×V)} {vs:List (bG×Value)},KV more B->KV j vs->KV (jI j more) (merged vs B):=by
 intro more B j vs r;unfold KV at r
 induction r generalizing j vs with
 | nil=>intro q;exact q
 | @cons p q ps L h t I =>
  intro G;have e:KV (putK j p.1 p.2) (stored vs q.1 q.2):=by have:=G.put p.1 h.2;rw[←h.1];exact this
  exact I e
theorem mJ:∀(more j:List (bG×V)),(jI j more).length<=j.length+more.length
 | [],j=>by show j.length<=j.length+0;omega
 | p::r,j=>by have B:=mJ r (putK j p.1 p.2);have q:=jD j p.1 p.2;show(jI (putK j p.1 p.2) r).length<=_;rw[List.length_cons];omega
structure M1 (X:Cx)(o:Expr)(m:Str)(apos:Pos)(e:Expr)(cpos:Pos):Prop where
 base:attributeBase o m X.env (eval o X.env)=eval o X.env
 few:((backTo cpos (starEach [e] X.env)).all (fun x=>!x.1) && (backToKw cpos (keywordEach [] X.env)).all (fun x=>x.1.isSome)
  && decide (([e]:kU).length+([]:List Keyword).length+(if ([]:List Keyword).isEmpty then 0 else 1)<30))=true
 line:(apos.endLine == cpos.line)=true
 trees:backTo cpos (starEach [e] X.env)=[(false,eval e X.env)]
structure M2 (X:Cx)(o:Expr)(m:Str)(apos:Pos)(e f:Expr)(cpos:Pos):Prop where
 base:attributeBase o m X.env (eval o X.env)=eval o X.env
 few:((backTo cpos (starEach [e,f] X.env)).all (fun x=>!x.1) && (backToKw cpos (keywordEach [] X.env)).all (fun x=>x.1.isSome)
  && decide (([e,f]:kU).length+([]:List Keyword).length+(if ([]:List Keyword).isEmpty then 0 else 1)<30))=true
 line:(apos.endLine == cpos.line)=true
 trees:backTo cpos (starEach [e,f] X.env)=[(false,eval e X.env),(false,eval f X.env)]
noncomputable def RX (H:Hp)(a:Addr):Prop:=(∃j,Rd H a (.dK j))∨∃j,Rd H a (.dT j)
theorem yJ {X:Cx}{B:cW}{σ:St}{H:Hp}{s:Shared}{a:Addr}(I:aO X B σ H s)(d:RX H a) :
  s.TypeIs (.ref a) "dict"/\(∀b,Value.ref a = .ref b->∃j,s.heap.get? b=some j/\j.dict=none)/\(a == sysModules)=false:=by
 rcases d with⟨L,e⟩|⟨L,e⟩
 ·obtain⟨_,hd,vs,_,G⟩:=qM I.hok e;refine⟨G.typeIs,fun b q=>?_,hd⟩;cases q;obtain⟨j,_,_,S,N,_⟩:=G;exact⟨j,S,N.2.1⟩
 ·obtain⟨_,hd,xs,_,G⟩:=tJ I.hok e;refine⟨G.typeIs,fun b q=>?_,hd⟩;cases q;obtain⟨j,_,_,S,N,_⟩:=G;exact⟨j,S,N.2.1⟩
section
variable {X:Cx}{pins:cW}{σ:St}{H:Hp}{s:Shared}{a:Addr}{y d:V}{u r:Value}{o:Option V}{A:Around}{E:cE}
theorem QB {Q:cE}(U:A.units+1<cLine)(I:aO X pins σ H s)(g:jY H a y o)(S:aT y u)(h:∀L N,aO X pins σ H N->aT (o.getD .non) L->Q L N) :
  wpAny (model X.prog X.w) A (call (.builtin "dict.get") [.ref a,u]) Q E s:=by
 rcases g with⟨B,k,e,G,l⟩|⟨B,k,b,e,G,Z,l⟩
 ·subst G;obtain⟨z,hd,vs,j,q⟩:=qM I.hok e;refine call_meetsIn PySem.F.slot_dict_get q.typeIs PySem.F.entry_dict_get (PySem.F.args_dict_get_2 _ _) (meets_dict_get (bF X.prog X.w) a (mK S) hd) ⟨_,q.mapOf,h _ _ (I.tok _) ?_⟩;rw[l];exact(j.val k).getD rfl
 ·subst G;cases (show u=Value.ref b from S);obtain⟨z,hd,xs,j,q⟩:=tJ I.hok e;refine call_meetsIn PySem.F.slot_dict_get q.typeIs PySem.F.entry_dict_get (PySem.F.args_dict_get_2 _ _) (meetsH_dict_get (tupleKind (bF X.prog X.w)) a b hd) ⟨tupleKind_room_in1 U,k,xs,pQ I.hok Z,q,h _ _ (I.tok _) ?_⟩;rw[l];exact(j.val k).getD rfl
theorem QA {Q:cE}(Z:A.units+1<cLine)(I:aO X pins σ H s)(g:jY H a y o)(S:aT y u)(U:aT d r)(h:∀L N,aO X pins σ H N->aT (o.getD d) L->Q L N) :
  wpAny (model X.prog X.w) A (call (.builtin "dict.get") [.ref a,u,r]) Q E s:=by
 rcases g with⟨B,k,e,G,l⟩|⟨B,k,b,e,G,eb,l⟩
 ·subst G;obtain⟨z,hd,vs,j,q⟩:=qM I.hok e;refine call_meetsIn PySem.F.slot_dict_get q.typeIs PySem.F.entry_dict_get (PySem.F.args_dict_get_3 _ _ _) (meets_dict_get_default (bF X.prog X.w) a (mK S) hd r) ⟨_,q.mapOf,h _ _ (I.tok _) ?_⟩;rw[l];exact(j.val k).getD U
 ·subst G;cases (show u=Value.ref b from S);obtain⟨z,hd,xs,j,q⟩:=tJ I.hok e;refine call_meetsIn PySem.F.slot_dict_get q.typeIs PySem.F.entry_dict_get (PySem.F.args_dict_get_3 _ _ _) (meetsH_dict_get_default (tupleKind (bF X.prog X.w)) a b hd r) ⟨tupleKind_room_in1 Z,k,xs,pQ I.hok eb,q,h _ _ (I.tok _) ?_⟩;rw[l];exact(j.val k).getD U
end
noncomputable def OT (B ty:TE):TE:=fun σ H Q=>B σ H fun x q=>∃a,x = .ref a/\RX q a/\ty σ q fun y j=>∃o,jY j a y o/\Q (o.getD .non) j
noncomputable def OS (G ty B:TE):TE:=fun σ H Q=>G σ H fun x q=>∃a,x = .ref a/\RX q a/\ty σ q fun y I=>B σ I fun z j=>∃o,jY j a y o/\Q (o.getD z) j
section
variable {X:Cx}{o e f:Expr}{apos cpos:Pos}{td ty tx:TE}
theorem zS (hu:X.A.units+1<cLine)(ho:PE X o td)(he:PE X e ty)(m:M1 X o "get" apos e cpos):PE X (.Call (.Attribute o "get" apos) [e] [] cpos) (OT td ty):=by intro j s σ H Q I h;refine wpAny_Call_method m.base m.few m.line PySem.F.plainAttrs_dict PySem.F.slot_dict_get PySem.F.type_dict_get (thn (ho j s σ H _ I h) fun u L ⟨x,H1,B,S,a,ex,d,Z⟩=>?_);subst ex;obtain rfl:u=Value.ref a:=S;obtain⟨t1,G,_⟩:=yJ B d;refine⟨t1,G,?_⟩;rw[m.trees];refine Calls.callWith_builtin rfl (Calls.evalArgs_plain (Calls.spliced_cons (thn (he j L σ H1 _ B Z) fun iv s2 ⟨y,H2,I2,N,ov,g,U⟩=>Calls.spliced_nil ?_)));exact QB hu I2 g N fun w' s3 I3 q=>⟨_,H2,I3,q,U⟩
theorem IN (hu:X.A.units+1<cLine)(ho:PE X o td)(he:PE X e ty)(hf:PE X f tx)(m:M2 X o "get" apos e f cpos):PE X (.Call (.Attribute o "get" apos) [e,f] [] cpos) (OS td ty tx):=by
 intro j s σ H Q I h;refine wpAny_Call_method m.base m.few m.line PySem.F.plainAttrs_dict PySem.F.slot_dict_get PySem.F.type_dict_get (thn (ho j s σ H _ I h) fun u L ⟨x,H1,B,U,a,ex,d,q1⟩=>?_);subst ex;obtain rfl:u=Value.ref a:=U;obtain⟨t1,G,_⟩:=yJ B d;refine⟨t1,G,?_⟩;rw[m.trees]
 refine Calls.callWith_builtin rfl (Calls.evalArgs_plain (Calls.spliced_cons (thn (he j L σ H1 _ B q1) fun iv s2 ⟨y,H2,I2,S,q2⟩ =>
  Calls.spliced_cons (thn (hf j s2 σ H2 _ I2 q2) fun fv s3 ⟨z,H3,I3,N,ov,g,Z⟩=>Calls.spliced_nil ?_))))
 exact QA hu I3 g S N fun w' s4 I4 q=>⟨_,H3,I4,q,Z⟩
end
section
variable {κ:Type}[DecidableEq κ]
theorem D8:∀{l:List κ} {k:κ},l.Nodup->¬k∈l->(l++[k]).Nodup
 | [],k,_,_=>by simp
 | a::r,k,h,j=>by
  obtain⟨G,B⟩:=List.nodup_cons.mp h;show(a::(r++[k])).Nodup;refine List.nodup_cons.mpr ⟨fun m=>?_,D8 B fun m=>j (List.mem_cons.mpr (Or.inr m))⟩;rcases List.mem_append.mp m with q|q
  ·exact G q
  ·exact j (List.mem_cons.mpr (Or.inl (List.mem_singleton.mp q).symm))
end
section
variable {X:Cx}
theorem G2:cT X (.builtin "len") (fun xs H Q=>∃a j,xs=[V.ref a]/\H a=some (.dK j)/\Q (.int j.length) H):=by intro B s σ H xs us Q I r h;obtain⟨a,j,rfl,L,q⟩:=h;obtain⟨u,rfl,G⟩:=vals1 r;cases G;exact Q5 I (.inl L) fun t S N=>⟨.int j.length,H,N,⟨t,rfl⟩,q⟩
end
noncomputable def closL (cells:List (Str×Addr)):List (Str×NameKind)->List (Str×Addr)->List (Str×Addr)
 | [],j=>j
 | (n,k)::r,j=>closL cells r (if k = .free then(n,(cells.lookup n).getD 0)::j else j)
theorem uP {scope:Scope}{env:Env}(h:∀x∈scope.names,x.2 = .free->∃c,env.cells.lookup x.1=some c):closureFor scope env=pure (closL env.cells scope.names []):=by
 have go:∀(l:List (Str×NameKind)) (j:List (Str×Addr)),(∀x∈l,x.2 = .free->∃c,env.cells.lookup x.1=some c) ->
   (forIn l j fun(x:Str×NameKind) (r:List (Str×Addr))=>match x with|(name,kind)=>if (kind == NameKind.free)=true then do let a ←cellOf env name;pure (ForInStep.yield ((name,a)::r))else pure (ForInStep.yield r):Sem (List (Str×Addr)))=pure (closL env.cells l j):=by
  intro l
  induction l with
  | nil=>intro j _;rfl
  | cons x r B =>
   intro j G;obtain⟨n,k⟩:=x;have I:=fun y L=>G y (List.mem_cons_of_mem _ L);rw[List.forIn_cons];by_cases q:k = .free
   ·subst q;obtain⟨c,hc⟩:=G (n,.free) List.mem_cons_self rfl;have hc':List.lookup n env.cells=some c:=hc;have S:cellOf env n=pure c:=by unfold cellOf;rw[hc']
    simp only[beq_self_eq_true,if_true,S,pure_bind];rw[B _ I];show _=pure (closL env.cells r (if NameKind.free = .free then(n,(env.cells.lookup n).getD 0)::j else j));rw[if_pos rfl,hc'];rfl
   ·have N:(k == NameKind.free)=false:=by simpa using q
    simp only[N,Bool.false_eq_true,if_false,pure_bind];rw[B _ I];show _=pure (closL env.cells r (if k = .free then(n,(env.cells.lookup n).getD 0)::j else j));rw[if_neg q]
 exact(congrArg (fun(m:Sem (List (Str×Addr)))=>m >>= fun s=>pure s) (go scope.names [] h)).trans rfl
theorem wH {cells:List (Str×Addr)}{x:Str}{c:Addr}:∀(l:List (Str×NameKind)) (B:List (Str×Addr)),(closL cells l B).lookup x=some c->B.lookup x=some c∨(x,NameKind.free)∈l/\c=(cells.lookup x).getD 0
 | [],_,h=>.inl h
 | (n,k)::r,B,h=>by
  unfold closL at h;rcases wH r _ h with q|⟨q,e⟩
  ·by_cases j:k = .free
   ·rw[if_pos j]at q;rw[List.lookup_cons]at q;by_cases G:x=n
    ·subst G;rw[beq_self_eq_true]at q;subst j;exact .inr ⟨List.mem_cons_self,(Option.some.inj q).symm⟩
    ·have I:(x == n)=false:=by simpa using G
     rw[I]at q;exact .inl q
   ·rw[if_neg j]at q;exact .inl q
  ·exact .inr ⟨List.mem_cons_of_mem _ q,e⟩
theorem wI {cells:List (Str×Addr)}{x:Str}:∀(l:List (Str×NameKind)) (j:List (Str×Addr)),((x,NameKind.free)∈l∨(j.lookup x).isSome)->((closL cells l j).lookup x).isSome
 | [],j,h=>by
  rcases h with h|h
  ·cases h
  ·exact h
 | (n,k)::r,j,h=>by
  unfold closL;refine wI r _ ?_;by_cases B:k = .free
  ·rw[if_pos B,List.lookup_cons];by_cases q:x=n
   ·subst q;rw[beq_self_eq_true];exact .inr rfl
   ·have G:(x == n)=false:=by simpa using q
    rw[G];rcases h with h|h
    ·rcases List.mem_cons.mp h with e|e
     ·cases e;exact absurd rfl q
     ·exact .inl e
    ·exact .inr h
  ·rw[if_neg B];rcases h with h|h
   ·rcases List.mem_cons.mp h with e|e
    ·cases e;exact absurd rfl B
    ·exact .inl e
   ·exact .inr h
theorem lE {α β:Type}[BEq α][LawfulBEq α]{x:α}{v:β}:∀{l:List (α×β)},l.lookup x=some v->(x,v)∈l
 | [],h=>by simp at h
 | (n,k)::r,h=>by
  rw[List.lookup_cons]at h;by_cases e:x=n
  ·subst e;rw[beq_self_eq_true]at h;cases h;exact List.mem_cons_self
  ·have j:(x == n)=false:=by simpa using e
   rw[j]at h;exact List.mem_cons_of_mem _ (lE h)
theorem kD {env:Env}{x:Str}:∀{names:List (Str×NameKind)} {j:NameKind},(∀y∈names,y.2≠.cell) ->
  (names.map fun(n,k)=>if (k == NameKind.free && env.scope.kind == .function && env.kindOf n == some .cell)then(n,NameKind.cell)else(n,k)).lookup x=some j->(j = .cell∨j = .free)->names.lookup x=some .free
 | [],_,_,h,_=>by simp at h
 | (n,k)::r,j,hc,h,B=>by
  have I:=@kD env x r j (fun y N=>hc y (List.mem_cons_of_mem _ N));have S:=hc (n,k) List.mem_cons_self;have h:List.lookup x ((if (k == NameKind.free && env.scope.kind == .function && env.kindOf n == some .cell)=true then(n,NameKind.cell)else(n,k))::_)=some j:=h;by_cases L:x=n
  ·subst L;rw[List.lookup_cons,beq_self_eq_true];by_cases q:(k == NameKind.free && env.scope.kind == .function && env.kindOf x == some .cell)=true
   ·simp only[Bool.and_eq_true,beq_iff_eq]at q;show some k=some .free;rw[q.1.1]
   ·rw[if_neg q,List.lookup_cons,beq_self_eq_true]at h;have h:some k=some j:=h;cases h;rcases B with e|e
    ·exact absurd e S
    ·show some k=some .free;rw[e]
  ·have G:(x == n)=false:=by simpa using L
   rw[List.lookup_cons,G];by_cases q:(k == NameKind.free && env.scope.kind == .function && env.kindOf n == some .cell)=true
   ·rw[if_pos q,List.lookup_cons,G]at h;exact I h B
   ·rw[if_neg q,List.lookup_cons,G]at h;exact I h B
theorem kR {env:Env}{x:Str}:∀{names:List (Str×NameKind)},names.lookup x=some .free ->
  (names.map fun(n,k)=>if (k == NameKind.free && env.scope.kind == .function && env.kindOf n == some .cell)then(n,NameKind.cell)else(n,k)).lookup x=some .cell ∨
  (names.map fun(n,k)=>if (k == NameKind.free && env.scope.kind == .function && env.kindOf n == some .cell)then(n,NameKind.cell)else(n,k)).lookup x=some .free
 | [],h=>by simp at h
 | (n,k)::r,h=>by
  have B:=@kR env x r;show List.lookup x ((if (k == NameKind.free && env.scope.kind == .function && env.kindOf n == some .cell)=true then(n,NameKind.cell)else(n,k))::_)=_∨List.lookup x ((if (k == NameKind.free && env.scope.kind == .function && env.kindOf n == some .cell)=true then(n,NameKind.cell)else(n,k))::_)=_;by_cases G:x=n
  ·subst G;rw[List.lookup_cons,beq_self_eq_true]at h;have h:some k=some .free:=h;cases h;by_cases q:(NameKind.free == NameKind.free && env.scope.kind == .function && env.kindOf x == some .cell)=true
   ·rw[if_pos q,List.lookup_cons,beq_self_eq_true];exact .inl rfl
   ·rw[if_neg q,List.lookup_cons,beq_self_eq_true];exact .inr rfl
  ·have j:(x == n)=false:=by simpa using G
   rw[List.lookup_cons,j]at h;by_cases q:(k == NameKind.free && env.scope.kind == .function && env.kindOf n == some .cell)=true
   ·rw[if_pos q,List.lookup_cons,j];exact B h
   ·rw[if_neg q,List.lookup_cons,j];exact B h
noncomputable def srcOk (N:aW)(names:List (Str×NameKind)):List (Option Nat)->aW->Bool
 | [],[]=>true
 | none::r,_::n=>srcOk N names r n
 | some i::r,x::n=>N[i]? == some x && names.lookup x == some .free && srcOk N names r n
 | _,_=>false
theorem oU {N:aW}{names:List (Str×NameKind)}:∀{src:List (Option Nat)} {n:aW},srcOk N names src n=true->src.length=n.length
 | [],[],_=>rfl
 | none::r,_::n,h=>by simp[oU (src:=r) (n:=n) h]
 | some i::r,x::n,h=>by
  simp only[srcOk,Bool.and_eq_true]at h;simp[oU (src:=r) (n:=n) h.2]
 | [],_::_,h=>by simp[srcOk]at h
 | none::_,[],h=>by simp[srcOk]at h
 | some _::_,[],h=>by simp[srcOk]at h
theorem oV {N:aW}{names:List (Str×NameKind)}:∀{src:List (Option Nat)} {n:aW} {j i:Nat} {x:Str},srcOk N names src n=true->src[j]?=some (some i)->n[j]?=some x->N[i]?=some x/\names.lookup x=some .free
 | [],_,_,_,_,_,h,_=>by simp at h
 | _::_,[],_,_,_,_,_,h=>by simp at h
 | none::r,_::n,0,_,_,_,h,_=>by simp at h
 | none::r,_::n,j+1,_,_,h,B,q=>oV (src:=r) (n:=n) (j:=j) h (by simpa using B) (by simpa using q)
 | some k::r,y::n,0,i,x,h,B,q=>by
  simp at B q;subst B q;simp only[srcOk,Bool.and_eq_true,beq_iff_eq]at h;exact h.1
 | some _::r,_::n,j+1,_,_,h,B,q=>by simp only[srcOk,Bool.and_eq_true]at h;exact oV (src:=r) (n:=n) (j:=j) h.2 (by simpa using B) (by simpa using q)
structure bJ (X:Cx)(scope:Scope)(N':aW)(src:List (Option Nat)):Prop where
 kind:scope.kind = .function
 cell:∀y∈scope.names,y.2≠.cell
 names:∀y∈scope.names,y.2 = .local->scope.names.lookup y.1=some .local
 free:∀y∈scope.names,y.2 = .free->(X.env.scope.names.lookup y.1=some .cell∨X.env.scope.names.lookup y.1=some .free)
 nd:N'.Nodup
 map:srcOk X.N scope.names src N'=true
noncomputable def stC (src:List (Option Nat))(σ:St):St:=src.map fun o=>o.bind fun i=>(σ[i]?).join
noncomputable def blk (X:Cx)(scope:Scope)(N':aW)(C:Addr)(j:Shared)(H₂:Hp)(fp:List Addr):Cx :=
 {X with N:=N',s₀:=j,H₀:=H₂,env:=compEnvC scope (closL X.env.cells scope.names []) C X.env,outer:=X.stack,stack:=X.stack,ex:=fp,fn:=fun _=>false,pn:=[],xe:=fun _ _=>False}
section
variable {X:Cx}{pins:cW}{σ:St}{H:Hp}{s:Shared}{scope:Scope}{N':aW}{src:List (Option Nat)}
theorem bJ.cells (S:bJ X scope N' src)(I:aO X pins σ H s):∀x∈scope.names,x.2 = .free->∃c,X.env.cells.lookup x.1=some c:=fun x j q=>I.ok.has x.1 (S.free x j q)
theorem bJ.cl (S:bJ X scope N' src)(I:aO X pins σ H s){x:Str}{c:Addr}(h:(closL X.env.cells scope.names []).lookup x=some c):X.env.cells.lookup x=some c:=by
 rcases wH _ _ h with q|⟨q,e⟩
 ·simp at q
 ·obtain⟨d,hd⟩:=S.cells I (x,.free) q rfl;have hd:X.env.cells.lookup x=some d:=hd;rw[hd]at e;rw[hd,e];rfl
theorem bJ.clHas (S:bJ X scope N' src)(I:aO X pins σ H s){x:Str}(h:scope.names.lookup x=some .free):∃c,(closL X.env.cells scope.names []).lookup x=some c/\X.env.cells.lookup x=some c:=by have q:=wI (cells:=X.env.cells) (x:=x) scope.names [] (.inl (lE h));obtain⟨c,hc⟩:=Option.isSome_iff_exists.mp q;exact⟨c,hc,S.cl I hc⟩
theorem bJ.ok (S:bJ X scope N' src)(I:aO X pins σ H s){fp:List Addr}{C:Addr}(B:∀b∈fp,fK X pins H b)(G:∀b∈fp,b<s.heap.objs.size)(L:s.heap.objs.size<=C):(blk X scope N' C s H fp).Ok where
 mod:=I.mod
 kind:=S.kind
 glob:=I.ok.glob
 blt:=I.ok.blt
 above:=L
 inj:=fun x y c Z U=>I.ok.inj x y c (S.cl I Z) (S.cl I U)
 has:=fun x N=>by
  have q:scope.names.lookup x=some .free:=by
   rcases N with h|h
   ·exact kD S.cell h (.inl rfl)
   ·exact kD S.cell h (.inr rfl)
  obtain⟨c,hc,_⟩:=S.clHas I q;exact⟨c,hc⟩
 cab:=fun x c h _=>by cases h
 hd:=I.ok.hd
 frames:=I.ok.frames
 stk:=.inl rfl
 exf:=fun b j=>⟨Nat.ne_of_lt (Nat.lt_of_lt_of_le (G b j) L),fun x c e=>(B b j).2.2.2.2.1 x c (S.cl I e)⟩
 bs:=I.bs
 bsz:=Nat.le_trans I.ok.bsz I.sz
 noex:=fun b o e j=>by
  rcases(B b j).2.2.2.1 with z|z
  ·exact I.ok.noex b o e z
  ·exact absurd (Nat.lt_of_lt_of_le (Heap.lt_size e) (Nat.le_trans I.ok.bsz z)) (Nat.lt_irrefl _)
 exfs:=fun b j z=>by
  rcases List.mem_cons.mp (I.stkSub b z)with e|e
  ·exact(B b j).2.1 e
  ·exact(B b j).2.2.1 e
 funs:=I.stack
 frf:=I.stkFree
theorem bJ.start (S:bJ X scope N' src)(I:aO X pins σ H s){fp:List Addr}{C:Addr}{h':Heap}{tk:Nat}{m:fM}{pl:cW}(hf:∀b∈fp,fK X pins H b)(hlt:∀b∈fp,b<s.heap.objs.size)(hC:s.heap.objs.size<=C)
  (L:∀b o,s.heap.get? b=some o->h'.get? b=some o) (hns:h'.Ns C m)
  (Z:∀p∈pl,h'.get? p.1=some p.2/\s.heap.objs.size<=p.1/\p.1≠C/\∀v,p.2.data≠.cell v) :
  aO (blk X scope N' C s H fp) pl (stC src σ) H {s with heap:=h',toks:=tk} where
 ok:=S.ok I hf hlt hC
 os:=rfl
 bare:=I.bare
 base:=Un.kept L
 loc:=by
  obtain⟨m0,hn0,hl0⟩:=I.loc;refine⟨m,hns,fun j x v h1 B h3=>?_⟩;have B:(src.map fun o=>o.bind fun i=>(σ[i]?).join)[j]?=some (some v):=B;rw[List.getElem?_map]at B;cases e:src[j]? with
  | none=>rw[e]at B;cases B
  | some o =>
   rw[e]at B;cases o with
   | none=>cases B
   | some i =>
    have B:some ((σ[i]?).join)=some (some v):=B;obtain⟨e1,e2⟩:=oV S.map e h1;have hv:σ[i]?=some (some v):=by
     cases q:σ[i]? with
     | none=>rw[q]at B;cases B
     | some w=>rw[q]at B;cases w with
      | none=>cases B
      | some w=>cases B;rfl
    have G:=S.free (x,.free) (lE e2) rfl;obtain⟨u,r,l⟩:=hl0 i x v e1 hv (.inr G);refine⟨u,r,.inr ⟨kR e2,?_⟩⟩;obtain⟨c,hc,hc'⟩:=S.clHas I e2;refine⟨c,hc,?_⟩;rcases l with⟨k,_⟩|⟨_,c',U,N⟩
    ·have k:X.env.scope.names.lookup x=some .local:=k;have G:X.env.scope.names.lookup x=some .cell∨X.env.scope.names.lookup x=some .free:=G;rw[k]at G;rcases G with z|z <;> cases z
    ·rw[hc']at U;cases U;obtain⟨o,ho,hd⟩:=N;exact⟨o,L _ _ ho,hd⟩
 cell:=fun x c e=>by obtain⟨v,o,ho,hd⟩:=I.cell x c (S.cl I e);exact⟨v,o,L _ _ ho,hd⟩
 free:=I.hok.fresh hC
 freeC:=fun x c e=>I.freeC x c (S.cl I e)
 pin:=fun p hp=>by
  obtain⟨a,b,c,d⟩:=Z p (by simpa [blk] using hp);refine⟨a,I.hok.fresh b,c,fun z=>?_,d⟩;rcases List.mem_cons.mp (I.stkSub _ z)with e|e
  ·exact absurd (Nat.lt_of_lt_of_le I.lt (by rw[←e];exact b)) (Nat.lt_irrefl _)
  ·exact I.nofs b e
 hok:=I.hok.kept L
 len:=by show(src.map _).length=N'.length;rw[List.length_map];exact oU S.map
end
noncomputable def wW (j:kU)(env:Env):Sem Bool:=forIn j true fun c (b:Bool)=>if b=true then isTrue c env (eval c env) >>= fun b=>pure (.yield b)else pure (.yield b)
section
variable (M:Model)(A:Around)(env:Env)(E:cE)
noncomputable def Drawn (it:Value)(j:Expr)(stop go:Shared->Prop)(s:Shared):Prop :=
 wpAny M A (pyNext it) (fun r t=>r.elim (stop t) fun v=>wpAny M A (letOwnedTupleGo j it v) (fun _ t=>wpAny M A (assign j env v) (fun _=>go) E t) E t) E s
noncomputable def BI (q:kU)(lay:Sem Unit)(j:Shared->Prop)(s:Shared):Prop :=
 wpAny M A (wW q env) (fun ok t=>if ok=true then wpAny M A lay (fun _=>j) E t else j t) E s
end
noncomputable def mP (p:Pos)(it:Value)(j:Expr)(env:Env)(k:Sem PySem.Fin):Sem PySem.Fin:=standAt p >>= fun _=>pyNext it >>= fun r=>match r with
 | none=>pure (.done .next)
 | some v=>letOwnedTupleGo j it v >>= fun _=>assign j env v >>= fun _=>k
noncomputable def layOn (j:kU)(lay:Sem Unit)(env:Env)(c:Code):Sem PySem.Fin:=wW j env >>= fun ok=>if ok=true then lay >>= fun _=>again c else again c
noncomputable def yA (j:Expr)(q:Value)(env:Env):Sem Unit:=eval j env >>= fun x=>call (.builtin "list.append") [q,x] >>= fun _=>pure ()
section
variable {M:Model}{A:Around}{env:Env}{E:cE}{it:Value}{tg:Expr}{s:Shared}
theorem Drawn.mono {stop go j B:Shared->Prop}(h:Drawn M A env E it tg stop go s)(I:∀t,stop t->j t)(G:∀t,go t->B t):Drawn M A env E it tg j B s :=
 thn h fun r t q=>by
  cases r
  ·exact I t q
  ·exact thn q fun _ _ q=>thn q fun _ t q=>G t q
theorem Drawn.run {p:Pos}{k:Sem PySem.Fin}{Q:PySem.Fin->Shared->Prop}(h:Drawn M A env E it tg (Q (.done .next)) (fun t=>wpAny M A k Q E t) s):wpAny M A (mP p it tg env k) Q E s:=by
 unfold mP;refine wpAny_bind (wpAny_standAt (wpAny_bind (thn h fun r t q=>?_)));cases r
 ·exact wpAny_pure q
 ·exact wpAny_bind (thn q fun _ _ q=>wpAny_bind q)
theorem BI.run {j:kU}{lay:Sem Unit}{c:Code}{Q:PySem.Fin->Shared->Prop}(h:BI M A env E j lay (Q (.again c)) s):wpAny M A (layOn j lay env c) Q E s:=by
 unfold layOn;refine wpAny_bind (thn h fun ok t q=>?_);cases ok
 ·exact wpAny_pure q
 ·exact wpAny_bind (thn q fun _ _ q=>wpAny_pure q)
end
theorem zF (q I iter:Expr)(j:kU)(scope:Scope)(G:Pos)(it B:Value)(env:Env) :
  compTurn (.ListComp q [⟨I,iter,j,0⟩] scope G) 0 it B env=mP iter.pos it I env (layOn j (yA q B env) env (.compLoop (.ListComp q [⟨I,iter,j,0⟩] scope G) 0 it B env)):=rfl
section
variable {prog:Program}{w:World}{A:Around}{R:Result->Shared->Prop}{s:Shared}{tg ce:Expr}{d:Nat}{it acc:Value}{env:Env}{p:Pos}{k:Sem PySem.Fin}
noncomputable abbrev XN (prog:Program)(w:World)(A:Around)(env:Env)(R:Result->Shared->Prop):cE:=notedBy (model prog w) A env fun x t=>R (.error x) t
inductive K1:Expr->Prop
 | lst (e gs sc p):K1 (.ListComp e gs sc p)
 | set (e gs sc p):K1 (.SetComp e gs sc p)
 | dct (k e gs sc p):K1 (.DictComp k e gs sc p)
theorem KF (j:K1 ce){Q:PySem.Fin->Shared->Prop}{E:cE}(h:wpAny (model prog w) A (Sem.onRaise (compTurn ce d it acc env) fun x=>noteFrame x env >>= fun _=>theTreesLotGoes x) Q E s):wpAny (model prog w) (A.under (.compLoop ce d it acc env)) ((model prog w).den (.compLoop ce d it acc env)) Q E s:=by cases j <;> exact h
theorem GS (j:K1 ce){Q:PySem.Fin->Shared->Prop}{E:cE}(h:wpAny (model prog w) A (compStart ce d it acc env) Q (notedBy (model prog w) A env E) s):wpAny (model prog w) (A.under (.compStart ce d it acc env)) ((model prog w).den (.compStart ce d it acc env)) Q E s:=by cases j <;> exact wpAny_notedAt h
theorem sP (j:K1 ce)(G:compTurn ce d it acc env=mP p it tg env k)(I:Nat->Shared->Prop)
  (turn:∀n s,I n s->Drawn (model prog w) A env (XN prog w A env R) it tg (R (.ok .next)) (fun t=>wpAny (model prog w) A k (fun f t=>f = .again (.compLoop ce d it acc env)/\∃m,m<n/\I m t) (XN prog w A env R) t) s)
  (n:Nat) (h:I n s):codeAny (model prog w) A (.compLoop ce d it acc env) R s:=by
 apply codeAny_loop rfl I _ n h;intro n s i;have q:=turn n s i;apply KF j;rw[G];apply wpAny_noted;apply Drawn.run;exact q.mono (fun _ z=>z) fun t z=>thn z fun f t ⟨B,m⟩=>by subst B;exact⟨rfl,m⟩
end
noncomputable def N7 (X:Cx)(q:kU)(t:TT):Prop :=
 ∀(j:cW) (s:Shared) (σ:St) (H:Hp) (Q:Bool->Hp->Prop),aO X j σ H s->t σ H Q->wpAny (model X.prog X.w) X.A (wW q X.env) (TP X j σ Q) X.xe s
noncomputable def tYes:TT:=fun _ H Q=>Q true H
theorem fB {X:Cx}:N7 X [] tYes:=fun _ _ _ H _ I h=>wpAny_tests_nil ⟨H,I,h⟩
theorem kE {X:Cx}{c:Expr}{t:TT}(h:PT X c t):N7 X [c] t:=fun j s σ H Q I q=>wpAny_tests_one (h j s σ H Q I q)
noncomputable abbrev KZ (β:Type):=Nat->Nat->β->St->Hp->Prop
noncomputable abbrev CW:=KZ (List V)
structure wR (Y:Cx)(tg:Expr)(J:It)(fp:List Addr)(it:Addr)(tn:KN):Prop where
 obj:∀i h,tn i h->∀b∈fp,∃o,h.get? b=some o/\∀v,o.data≠.cell v
 keep:∀i h h',tn i h->(∀b∈fp,∀o,h.get? b=some o->h'.get? b=some o)->tn i h'
 item:∀(i:Nat) (pins:cW) (s:Shared) (σ:St) (H:Hp) (E:cE),aO Y pins σ H s->(∀b∈fp,fK Y pins H b)->tn i s.heap->J.go i H ->
  wpAny (model Y.prog Y.w) Y.A (pyNext (.ref it)) (fun r s1=>∃u,r=some u /\
   wpAny (model Y.prog Y.w) Y.A (letOwnedTupleGo tg (.ref it) u) (fun _ s2=>∃x H',aO Y pins σ H' s2/\aT x u/\J.yld i H x H'/\tn (i+1) s2.heap/\∀b∈fp,H' b=none) E s1) E s
 done:∀(i:Nat) (pins:cW) (s:Shared) (σ:St) (H:Hp) (E:cE),aO Y pins σ H s->(∀b∈fp,fK Y pins H b)->tn i s.heap->J.stop i H ->
  wpAny (model Y.prog Y.w) Y.A (pyNext (.ref it)) (fun r s1=>r=none/\aO Y pins σ H s1) E s
 self:∀(A:Around) (i:Nat) (s:Shared) (Q:cE) (E:cE),tn i s.heap->Q (.ref it) s->wpAny (model Y.prog Y.w) A (pyIter (.ref it)) Q E s
theorem m8.y {Y:Cx}{q:Expr}{J:It}{fp:List Addr}{it:Addr}{j:KN}(T:m8 Y.prog Y.w Y.K q J fp it j)(hc:Y.calm=true):wR Y q J fp it j :=
 ⟨T.obj,T.keep,T.item Y rfl rfl rfl hc,T.done Y rfl rfl rfl hc,T.self⟩
noncomputable def KP {β:Type}(F:Heap->Addr->β->Prop):Prop:=∀h a x,F h a x->∃o,h.get? a=some o/\(∀v,o.data≠.cell v)/\∀h':Heap,h'.get? a=some o->F h' a x
noncomputable def NU (h:Heap)(a:Addr)(j:List V):Prop:=j.length<=sizeLine/\∃items,h.PlainList a items/\aR j items.toList
theorem vQ:KP NU:=fun _ _ _ ⟨l,it,⟨n,e⟩,r⟩=>⟨_,e,(fun _ z=>nomatch z),fun _ j=>⟨l,it,⟨n,j⟩,r⟩⟩
section
variable {β:Type}{F:Heap->Addr->β->Prop}{Y:Cx}{pins:cW}{D it:Addr}{fp:List Addr}{tn:KN}{J:It}{W:KZ β}{Fin:β->St->Hp->Prop}{R:Result->Shared->Prop}{tg:Expr}{g:TG}{Nx:Nat->Nat->β->St->Hp->Prop}
noncomputable def DP (F:Heap->Addr->β->Prop)(Y:Cx)(j:cW)(D:Addr)(fp:List Addr)(B:KN)(W:KZ β)(n:Nat)(s:Shared):Prop :=
 ∃i σ H q,aO Y j σ H s/\B i s.heap/\(∀b∈fp,H b=none)/\H D=none/\F s.heap D q/\W i n q σ H
structure R4 (F:Heap->Addr->β->Prop)(Y:Cx)(D:Addr)(fp:List Addr)(tn:KN)(i:Nat)(acc:β)(more:cW)(o:Obj):Prop where
 fill:∀h:Heap,h.get? D=some o->F h D acc
 own:∀p∈more,p.1∈fp
 back:∀{pl:cW} {σ:St} {H:Hp} {s:Shared},(∀p∈more,p∈pl)->aO Y pl σ H s->tn i s.heap/\∀b∈fp,H b=none
structure qQ (Y:Cx)(pins:cW)(D:Addr)(fp:List Addr):Prop where
 off:D∉fp
 list:∀H:Hp,H D=none->fK Y pins H D
 iter:∀H:Hp,(∀b∈fp,H b=none)->∀b∈fp,fK Y pins H b
theorem O4 {a:Addr×Obj}{pn j more:cW}:a∈pn++(j++a::more):=by simp
theorem qQ.pin {σ:St}{H:Hp}{s:Shared}{o:Obj}(P:qQ Y pins D fp)(I:aO Y pins σ H s)(q:H D=none)(ho:s.heap.get? D=some o)(hc:∀v,o.data≠.cell v):aO Y (pins++[(D,o)]) σ H s:=by
 refine I.pins_of fun p j=>?_;simp only[List.mem_append,List.mem_singleton]at j;rcases j with j|rfl
 ·exact I.pin p (List.mem_append_right _ j)
 ·have f:=P.list H q;exact⟨ho,f.1,f.2.1,f.2.2.1,hc⟩
theorem qQ.more {o:Obj}(P:qQ Y pins D fp)(H:Hp)(B:∀b∈fp,H b=none)(b:Addr)(q:b∈fp):fK Y (pins++[(D,o)]) H b:=by
 have f:=P.iter H B b q;refine⟨f.1,f.2.1,f.2.2.1,f.2.2.2.1,f.2.2.2.2.1,fun p j z=>?_⟩;rw[←List.append_assoc,List.mem_append,List.mem_singleton]at j;rcases j with j|rfl
 ·exact f.2.2.2.2.2 p j z
 ·exact P.off (show D∈fp from(show D=b from z) ▸ q)
theorem CP {more:cW}{o:Obj}{σ:St}{H:Hp}{s:Shared}(I:aO Y (pins++(D,o)::more) σ H s):H D=none/\s.heap.get? D=some o/\aO Y pins σ H s:=by have q:=I.pin (D,o) O4;exact⟨q.2.1,q.1,I.pins_of fun p j=>I.pin p (by simp[j])⟩
theorem wB (hF:KP F)(hx:∀e s,¬Y.xe e s)(T:wR Y tg J fp it tn)(P:qQ Y pins D fp)(hg:PG Y tg g)
  (turn:∀i m j σ H,W i m j σ H->(J.stop i H/\Fin j σ H)∨(J.go i H/\∀x H',J.yld i H x H'->g x σ H' (Nx i m j)))
  (hR:∀s σ H j,aO Y pins σ H s->H D=none->F s.heap D j->Fin j σ H->R (.ok .next) s)
  (n:Nat) (s:Shared) (B:DP F Y pins D fp tn W n s) {E:cE} :
  Drawn (model Y.prog Y.w) Y.A Y.env E (.ref it) tg (R (.ok .next))
   (fun t=>∃i j o more σ H,R4 F Y D fp tn (i+1) j more o/\aO Y (pins++(D,o)::more) σ H t/\Nx i n j σ H) s:=by
 obtain⟨i,σ,H,j,I,st,fr,fD,sx,w⟩:=B;obtain⟨o,ho,hcl,N⟩:=hF _ _ _ sx;have Ip:=P.pin I fD ho hcl;rcases turn i n j σ H w with⟨stop,fin⟩|⟨go,step⟩
 ·refine thn (T.done i _ s σ H _ Ip (P.more H fr) st stop) fun r t ⟨Z,It⟩=>?_;subst Z;obtain⟨l1,l2,l3⟩:=CP It;exact hR t σ H j l3 l1 (N _ l2) fin
 ·refine thn (T.item i _ s σ H _ Ip (P.more H fr) st go) fun r t ⟨u,Z,q⟩=>?_;subst Z;refine thn q fun _ t1 ⟨x,H1,I1,r1,y1,G,fr1⟩=>?_;have I1p:=I1.pinned (P.more H1 fr1) (T.obj _ _ G);rw[List.append_assoc]at I1p;refine wpAny_mono (hg _ t1 σ H1 x u _ I1p r1 (step x H1 y1)) (fun _ t2 ⟨σ2,H2,I2,q2⟩=>?_) fun e t z=>(hx e t z).elim;refine⟨i,j,o,sB fp t1.heap,σ2,H2,⟨N,fun p hp=>(vH hp).1,fun {pl σ3 H3 s3} U I3=>?_⟩,I2,q2⟩;have S:∀b∈fp,∀o,t1.heap.get? b=some o->s3.heap.get? b=some o/\H3 b=none:=fun b L o e=>by have z:=I3.pin (b,o) (List.mem_append_right _ (U _ (mW L e)));exact⟨z.1,z.2.1⟩
  refine⟨T.keep _ _ _ G fun b L o e=>(S b L o e).1,fun b L=>?_⟩;obtain⟨o,e,_⟩:=T.obj _ _ G b L;exact(S b L o e).2
noncomputable def KQ (F:Heap->Addr->β->Prop)(Y:Cx)(D:Addr)(lay:Sem Unit)(q:St->Hp->(β->Hp->Prop)->Prop)(I:β):Prop :=
 ∀(E:cE) (pl:cW) (o:Obj) (σ:St) (H:Hp) (t:Shared) (N:β->Hp->Prop),aO Y pl σ H t->(D,o)∈pl->(∀h:Heap,h.get? D=some o->F h D I)->q σ H N ->
  wpAny (model Y.prog Y.w) Y.A lay (fun _ t3=>∃B G tk L j,t3={B with heap:=G,toks:=tk}/\aO Y pl σ L B/\Heap.SameBut D B.heap G/\F G D j/\N j L) E t
theorem AL {L:kU}{lay:Sem Unit}{tt:TT}{tl:St->Hp->(β->Hp->Prop)->Prop}{i n:Nat}{j:β}{more:cW}{o:Obj}{σ:St}{H:Hp}{t:Shared}{E:cE}(hx:∀e s,¬Y.xe e s)(P:qQ Y pins D fp)(T:wR Y tg J fp it tn)(ht:N7 Y L tt)(hl:KQ F Y D lay tl j)
  (B:R4 F Y D fp tn (i+1) j more o) (I:aO Y (pins++(D,o)::more) σ H t)
  (q:tt σ H fun b H3=>if b=true then tl σ H3 fun a H4=>∃G,G<n/\W (i+1) G a σ H4 else ∃G,G<n/\W (i+1) G j σ H3) :
  BI (model Y.prog Y.w) Y.A Y.env E L lay (fun t=>∃m,m<n/\DP F Y pins D fp tn W m t) t:=by
 refine wpAny_mono (ht _ t σ H _ I q) (fun ok t1 ⟨H1,I1,S⟩=>?_) fun e t z=>(hx e t z).elim;cases ok
 ·rw[if_neg Bool.false_ne_true]at S⊢;obtain⟨m,hm,w⟩:=S;obtain⟨b1,b2⟩:=B.back (fun p hp=>by simp[hp]) I1;obtain⟨U,l2,Z⟩:=CP I1;exact⟨m,hm,i+1,σ,H1,j,Z,b1,b2,U,B.fill _ l2,w⟩
 ·rw[if_pos rfl]at S⊢;refine thn (hl _ _ o σ H1 t1 _ I1 (by simp) B.fill S) fun _ t3 ⟨t2,h3,tk,H2,N,e3,I2,s3,f3,m,hm,w⟩=>?_;subst e3;obtain⟨b1,b2⟩:=B.back (fun p hp=>by simp[hp]) I2;obtain⟨U,l2,Z⟩:=CP I2;have f:=P.list H2 U;have far:∀b o,b≠D->t2.heap.get? b=some o->h3.get? b=some o:=fun b o hb e=>s3.extBut b o hb e;exact⟨m,hm,i+1,σ,H2,N,Z.turned (t':=tk) far f.1 f.2.1 f.2.2.2.1 f.2.2.2.2.1 f.2.2.2.2.2,T.keep _ _ _ b1 fun b hb o e=>far b o (fun z=>P.off (z ▸ hb)) e,b2,U,f3,w⟩
theorem BI.go {j:kU}{lay:Sem Unit}{c:Code}{n:Nat}{t:Shared}{E:cE}(h:BI (model Y.prog Y.w) Y.A Y.env E j lay (fun t=>∃m,m<n/\DP F Y pins D fp tn W m t) t) :
  wpAny (model Y.prog Y.w) Y.A (layOn j lay Y.env c) (fun f t=>f = .again c/\∃m,m<n/\DP F Y pins D fp tn W m t) E t :=
 BI.run (thn h fun ok t q=>by
  cases ok
  ·exact⟨rfl,q⟩
  ·exact thn q fun _ _ q=>⟨rfl,q⟩)
end
noncomputable def tlLst (q:TE)(j:List V):St->Hp->(List V->Hp->Prop)->Prop:=fun σ H N=>q σ H fun y B=>j.length<sizeLine/\N (j++[y]) B
theorem AK {Y:Cx}{D:Addr}{G:Expr}{L:TE}{B:List V}(hx:∀e s,¬Y.xe e s)(he:PE Y G L):KQ NU Y D (yA G (.ref D) Y.env) (tlLst L B) B:=by
 intro E pl o σ H t N I hm hf q;refine wpAny_bind (wpAny_mono (he _ t σ H _ I q) (fun y S ⟨yv,H2,Z,r2,hl,w⟩=>?_) fun e t z=>(hx e t z).elim);obtain⟨hz,items,p2,U⟩:=hf _ (Z.pin (D,o) (List.mem_append_right _ hm)).1;have j:items.size<=sizeLine:=by rw[←Array.length_toList,←U.length];exact hz
 refine wpAny_bind (wpAny_list_append_plain (hsz:=j) p2 fun h3 p3 s3=>wpAny_pure ⟨S,h3,S.toks,H2,B++[yv],rfl,Z,s3,⟨?_,items.push y,p3,?_⟩,w⟩)
 ·rw[List.length_append];exact hl
 ·rw[Array.toList_push];exact U.append (.cons r2 .nil)
noncomputable def OC (J:It)(g:TG)(I:TT)(L:TE)(Fin:List V->Hp->Prop)(W:CW):Prop:=∀i m j σ H,W i m j σ H ->
 (J.stop i H/\Fin j H) ∨
 (J.go i H/\∀x H',J.yld i H x H'->g x σ H' fun B S=>I B S fun b G =>
  if b=true then L B G fun y N=>j.length<sizeLine/\∃q,q<m/\W (i+1) q (j++[y]) B N else ∃q,q<m/\W (i+1) q j B G)
noncomputable def tComp (src:List (Option Nat))(q:TI)(g:TG)(B:TT)(G:TE):TE:=fun σ H Q=>q σ H fun J I=>∃W:CW,(∃m,W 0 m [] (stC src σ) I)/\OC J g B G (fun j H=>∀p,H p=none->Q (.ref p) (upd H p (.lst j))) W
section
variable {prog:Program}{w:World}{A:Around}{ce:Expr}{c:Comprehension}{rest:List Comprehension}
theorem A4 (L:K1 ce)(B:clausesOf ce=c::rest)(N:c.is_async=0){it j:Value}{env:Env}{R:Result->Shared->Prop}{s:Shared}(S:codeAny (model prog w) A (.compLoop ce 0 it j env) R s)
  (h:wpAny (model prog w) A (pyIter it) (fun q G=>codeAny (model prog w) A (.compLoop ce 0 q j env) R G) (XN prog w A env R) s) :
  codeAny (model prog w) A (.compStart ce 0 it j env) R s:=by
 apply codeAny_of_tree;apply GS L;obtain⟨U,iter,I,_⟩:=c;cases N;unfold compStart;rw[B];change wpAny _ _ (ask >>= _) _ _ s;apply wpAny_bind;apply wpAny_askSetting;by_cases b:(⟨(model prog w).prog,(model prog w).w.params⟩:Setting).params.followText "comprehension-iter-twice" = true
 ·rw[if_pos b];exact wpAny_pure ⟨rfl,S⟩
 ·rw[if_neg b];refine wpAny_bind (wpAny_rule ?_);change wpAny _ _ (standAt iter.pos >>= _) _ _ s;exact wpAny_bind (wpAny_standAt (wpAny_bind (thn h fun q G z=>wpAny_pure ⟨rfl,z⟩)))
noncomputable def BG {β:Type}(F:Heap->Addr->β->Prop)(q:β)(prog:Program)(w:World)(A:Around)(j:Sem Value):Prop :=
 ∀(Q:cE) (E:cE) (s:Shared),(∀o:Obj,o.isFreed=false->(∀h:Heap,h.get? s.heap.objs.size=some o->F h s.heap.objs.size q)->Q (.ref s.heap.objs.size) {s with heap:=s.heap.push o})->wpAny (model prog w) A j Q E s
theorem vO:BG NU [] prog w A (newList []):=fun _ _ _ q=>wpAny_newObj_type (q _ rfl fun _ e=>⟨Nat.zero_le _,#[],⟨_,e⟩,.nil⟩)
end
section
variable {β:Type}{F:Heap->Addr->β->Prop}{e0:β}{mk:Sem Value}{ce:Expr}{cls:List Comprehension}{ob:HO}
variable {X:Cx}{scope:Scope}{N':aW}{src:List (Option Nat)}{pins:cW}{σ:St}{H₂:Hp}{s₂:Shared}{fp:List Addr}{it:Addr}{tn:KN}{J:It}{tg iter:Expr}{ifs:kU}
theorem NG {pl:cW}{S:St}{H':Hp}{I:Shared}{C D:Addr}(I2:aO X pins σ H₂ s₂)(Z:∀b∈fp,fK X pins H₂ b)
  (G:aO (blk X scope N' C s₂ H₂ fp) pl S H' I) (hD:s₂.heap.objs.size<=D) (N:H' D=none) (ok:bY X.prog X.w (upd H' D ob) I.heap D ob):aO X pins σ (upd H' D ob) I:=by
 have u:=G.base;have L:∀b o,s₂.heap.get? b=some o->b≠D:=fun b o e=>Nat.ne_of_lt (Nat.lt_of_lt_of_le (Heap.lt_size e) hD);have j:∀b o,H' b=some o->b≠D:=fun b o e z=>by rw[z,N]at e;cases e
 refine I2.call' (ch:=fp) G.os ⟨u.keep,u.slot,fun b o e n U=>?_,u.there,fun b xs e=>?_,fun b o xs e=>?_,fun b ps e=>?_⟩ (fun b o e=>?_) G.bare fun b B=>?_
 ·rw[aB (L b o e)];exact u.free b o e n U
 ·have q:=u.tups b xs e;rw[aB (j b _ q)];exact q
 ·have q:=u.frzs b o xs e;rw[aB (j b _ q)];exact q
 ·obtain⟨more,q⟩:=u.tbls b ps e;exact⟨more,by rw[aB (j b _ q)];exact q⟩
 ·by_cases B:b=D
  ·subst B;rw[upd_same]at e;cases e;exact ok
  ·rw[aB B]at e;exact(G.hok b o e).stay (fun _ _ _ q=>q) (fun c q=>by rw[aB (j c _ q)];exact q) fun c xs q=>by rw[aB (j c _ q)];exact q
 ·obtain⟨f0,f1,f2,f3,f4,f5⟩:=Z b B;exact⟨f3,f1,f4,f5⟩
theorem EB {P:Program}{w:World}{H:Hp}{h:Heap}{a:Addr}{j:List V}:NU h a j->bY P w H h a (.lst j):=fun⟨hz,items,⟨n,ho⟩,r⟩=>⟨hz,items.toList,n,r,by simpa using ho⟩
structure EZ (F:Heap->Addr->β->Prop)(e0:β)(X:Cx)(scope:Scope)(N':aW)(src:List (Option Nat))(s₂:Shared)(H₂:Hp)(σ:St)(fp:List Addr)(tn:KN)(D C:Addr)(t:Shared):Prop where
 at_:s₂.heap.objs.size=D
 le:s₂.heap.objs.size<=C
 ne:D≠C
 place:qQ (blk X scope N' C s₂ H₂ fp) [] D fp
 betw:∀W:KZ β,(∃m,W 0 m e0 (stC src σ) H₂)->∃m,DP F (blk X scope N' C s₂ H₂ fp) [] D fp tn W m t
theorem HL {h h':Heap}{o j:Obj}(ho:o.isFreed=false)(q:Heap.SameBut (h.push o).objs.size ((h.push o).push j) h'):(∀b x,h.get? b=some x->h'.get? b=some x)/\h'.get? h.objs.size=some o:=by have key:∀b x,(h.push o).get? b=some x->h'.get? b=some x:=fun b x e=>q.extBut b x (Nat.ne_of_lt (Heap.lt_size e)) (Heap.get?_push_of_some j e);exact⟨fun b x e=>key b x (Heap.get?_push_of_some o e),key _ _ (Heap.get?_push_size h ho)⟩
theorem qP {RR:Value->Addr->Result->Shared->Prop}{E:cE}(Z:BG F e0 X.prog X.w X.A mk)(hk:K1 ce)(hcl:clausesOf ce=⟨tg,iter,ifs,0⟩::cls)(S:bJ X scope N' src)(G:aO X pins σ H₂ s₂)(T:∀C,wR (blk X scope N' C s₂ H₂ fp) tg J fp it tn)(I:tn 0 s₂.heap)(hf:∀b∈fp,fK X pins H₂ b)
  (k:∀D C t,EZ F e0 X scope N' src s₂ H₂ σ fp tn D C t->codeAny (model X.prog X.w) X.A (.compLoop ce 0 (.ref it) (.ref D) (blk X scope N' C s₂ H₂ fp).env) (RR (.ref D) C) t) :
  wpAny (model X.prog X.w) X.A mk (fun N s₃=>wpAny (model X.prog X.w) X.A (newFunctionEnv scope X.env.globals (closL X.env.cells scope.names []) [] X.env.qual none .none (some X.env)) (fun q s₄ =>
   codeAny (model X.prog X.w) X.A (.compStart ce 0 (.ref it) N {q with scope:=relabel scope X.env}) (RR N q.locals) s₄) E s₃) E s₂:=by
 refine Z _ _ _ fun o of ox=>?_;refine wpAny_newFunctionEnv S.cell (fun _ z=>nomatch z) (fun h₁ ns sb=>?_) S.kind;obtain⟨B,new⟩:=HL of sb;have sz:(s₂.heap.push o).objs.size=s₂.heap.objs.size+1:=Heap.size_push ..;dsimp only at ns B new⊢;rw[sz]at ns⊢;have lt:∀b∈fp,b<s₂.heap.objs.size:=fun b j=>let⟨_,e,_⟩:=(T 0).obj 0 _ I b j;Heap.lt_size e;have L:tn 0 h₁:=(T 0).keep _ _ _ I fun b _ o e=>B b o e;have off:s₂.heap.objs.size∉fp:=fun z=>Nat.lt_irrefl _ (lt _ z);have I1:=S.start (tk:=s₂.toks+([]:List (Str×Value)).length) (pl:=[]) G hf lt (Nat.le_succ _) B ns (fun _ z=>nomatch z);have pl:qQ (blk X scope N' (s₂.heap.objs.size+1) s₂ H₂ fp) [] s₂.heap.objs.size fp:=by
  refine⟨off,fun H U=>?_,fun H U b j=>?_⟩
  ·have f:=G.fpOk (Nat.le_refl _) U;refine⟨U,Nat.ne_of_lt (Nat.lt_succ_self _),fun z=>?_,.inr (Nat.le_refl _),fun x c e=>f.2.2.2.2.1 x c (S.cl G e),fun _ z=>nomatch z⟩;exact(List.mem_cons.mp (G.stkSub _ z)).elim f.2.1 f.2.2.1
  ·exact⟨U b j,Nat.ne_of_lt (Nat.lt_succ_of_lt (lt b j)),I1.ok.exfs b j,.inl j,fun x c e=>(hf b j).2.2.2.2.1 x c (S.cl G e),fun _ z=>nomatch z⟩
 have bg:EZ F e0 X scope N' src s₂ H₂ σ fp tn s₂.heap.objs.size (s₂.heap.objs.size+1) {s₂ with heap:=h₁,toks:=s₂.toks+([]:List (Str×Value)).length} :=
  ⟨rfl,Nat.le_succ _,Nat.ne_of_lt (Nat.lt_succ_self _),pl,fun W ⟨m,w⟩=>⟨m,0,_,H₂,e0,I1,L,fun b j=>(hf b j).1,G.hok.fresh (Nat.le_refl _),ox _ new,w⟩⟩
 have go:=k _ _ _ bg;exact A4 hk hcl rfl go ((T 0).self _ 0 _ _ _ L go)
theorem EZ.out {D C:Addr}{t s:Shared}{H':Hp}{j:St}(B:EZ F e0 X scope N' src s₂ H₂ σ fp tn D C t)(L:aO X pins σ H₂ s₂)(q:∀b∈fp,fK X pins H₂ b)(I:aO (blk X scope N' C s₂ H₂ fp) [] j H' s)(G:H' D=none)(ok:bY X.prog X.w (upd H' D ob) s.heap D ob) :
  H' C=none/\(∃m,s.heap.Ns C m)/\aO X pins σ (upd H' D ob) s :=
 ⟨I.free,⟨_,I.loc.choose_spec.1⟩,NG L q I (Nat.le_of_eq B.at_) G ok⟩
variable {elt:Expr}{pos:Pos}{g:TG}{tt:TT}{te:TE}{tl:β->St->Hp->(β->Hp->Prop)->Prop}
noncomputable def uI (J:It)(g:TG)(I:TT)(tl:β->St->Hp->(β->Hp->Prop)->Prop)(Fin:β->Hp->Prop)(W:KZ β):Prop:=∀i m j σ H,W i m j σ H ->
 (J.stop i H/\Fin j H) ∨
 (J.go i H/\∀x H',J.yld i H x H'->g x σ H' fun B N=>I B N fun b G =>
  if b=true then tl j B G fun a L=>∃q,q<m/\W (i+1) q a B L else ∃q,q<m/\W (i+1) q j B G)
theorem tP {W:KZ β}{Fin:β->Hp->Prop}{RR:Value->Addr->Result->Shared->Prop}{E:cE}{lay:Value->Env->Sem Unit}{obj:Addr->β->HO}{ps:Pos}(hF:KP F)(U:BG F e0 X.prog X.w X.A mk)(hk:K1 ce)(Z:clausesOf ce=⟨tg,iter,ifs,0⟩::cls)(hb:∀it j env,compTurn ce 0 it j env=mP ps it tg env (layOn ifs (lay j env) env (.compLoop ce 0 it j env)))(hok:∀H h D j,F h D j->bY X.prog X.w H h D (obj D j))
  (S:bJ X scope N' src) (I2:aO X pins σ H₂ s₂) (T:∀C,wR (blk X scope N' C s₂ H₂ fp) tg J fp it tn) (G:tn 0 s₂.heap) (hf:∀b∈fp,fK X pins H₂ b)
  (hg:∀C,PG (blk X scope N' C s₂ H₂ fp) tg g) (ht:∀C,N7 (blk X scope N' C s₂ H₂ fp) ifs tt) (hl:∀C D j,KQ F (blk X scope N' C s₂ H₂ fp) D (lay (.ref D) (blk X scope N' C s₂ H₂ fp).env) (tl j) j)
  (w0:∃m,W 0 m e0 (stC src σ) H₂) (turn:uI J g tt tl Fin W)
  (hRR:∀D C L H' j,s₂.heap.objs.size<=C->H' C=none->D≠C->(∃m,L.heap.Ns C m)->aO X pins σ (upd H' D (obj D j)) L->H' D=none->Fin j H'->RR (.ref D) C (.ok .next) L) :
  wpAny (model X.prog X.w) X.A mk (fun j s₃=>wpAny (model X.prog X.w) X.A (newFunctionEnv scope X.env.globals (closL X.env.cells scope.names []) [] X.env.qual none .none (some X.env)) (fun q s₄ =>
   codeAny (model X.prog X.w) X.A (.compStart ce 0 (.ref it) j {q with scope:=relabel scope X.env}) (RR j q.locals) s₄) E s₃) E s₂:=by
 refine qP U hk Z S I2 T G hf fun D C t B=>?_;obtain⟨m,b⟩:=B.betw W w0;refine sP hk (hb ..) (DP F (blk X scope N' C s₂ H₂ fp) [] D fp tn W) (fun n s b=>?_) m b;refine(wB (Y:=blk X scope N' C s₂ H₂ fp) hF (fun _ _ z=>z) (T C) B.place (hg C) turn (fun s σc H j I hD hp fin=>?_) n s b).mono (fun _ z=>z) ?_
 ·obtain⟨o1,o2,o3⟩:=B.out I2 hf I hD (hok _ _ _ _ hp);exact hRR D C s H j B.le o1 B.ne o2 o3 hD fin
 ·rintro t ⟨i,j,o,more,σ3,H3,N,I3,q3⟩;exact BI.go (AL (W:=W) (fun _ _ z=>z) B.place (T C) (ht C) (hl C D j) N I3 q3)
theorem AZ {Q:VK}{D C:Addr}{j:Shared}{H':Hp}(Z:aO X pins σ H₂ s₂)(U:s₂.heap.objs.size<=C)(L:H' C=none)(I:D≠C)(G:∃m,j.heap.Ns C m)(I':aO X pins σ (upd H' D ob) j)(q:Q (.ref D) (upd H' D ob)) :
  compPost (model X.prog X.w) X.A X.xe none (EP X pins σ Q) (.ref D) C (.ok .next) j:=by
 obtain⟨m,N⟩:=G;have f:=Z.fpOk (H':=upd H' D ob) U (by rw[aB (Ne.symm I)];exact L);exact⟨m,N,fun h' B=>⟨.ref D,_,I'.turned (t':=j.toks) (fun b o S e=>B.extBut b o S e) f.1 f.2.1 f.2.2.2.1 f.2.2.2.2.1 f.2.2.2.2.2,rfl,q⟩⟩
theorem KA {Z:iN}{D C:Addr}{j:Shared}{H':Hp}{i:Nat}{y:Str}{py:Pos}(hN:X.N.Nodup)(I:X.N[i]?=some y)(U:X.env.scope.names.lookup y=some .local)(I2:aO X pins σ H₂ s₂)(hC:s₂.heap.objs.size<=C)(S:H' C=none)(L:D≠C)(G:∃m,j.heap.Ns C m)(I':aO X pins σ (upd H' D ob) j)(q:Z.nx (σ.set i (some (.ref D))) (upd H' D ob)) :
  compPost (model X.prog X.w) X.A X.xe (some (assign (.Name y py) X.env)) (fun _ j=>SP X pins Z .next j) (.ref D) C (.ok .next) j:=by
 obtain⟨m,hn⟩:=G;have f:=I2.fpOk (H':=upd H' D ob) hC (by rw[aB (Ne.symm L)];exact S);refine wpAny_assign_Name (vA I' hN I (.inl U) (v:=.ref D) rfl (fun t It ⟨a,sb,ha⟩=>?_) (.inr U));have ne:C≠a:=ha.elim (fun e=>e ▸ f.2.1) fun e z=>f.2.2.2.2.1 y a e z.symm;exact⟨m,hn.sameBut sb ne,fun h' B=>⟨_,_,It.turned (t':=t.toks) (fun b o hb e=>B.extBut b o hb e) f.1 f.2.1 f.2.2.2.1 f.2.2.2.2.1 f.2.2.2.2.2,q⟩⟩
theorem E3 {gens:List Comprehension}{y:Str}{B j:Pos}{Q:Flow->Shared->Prop}{s:Shared}(G:swapsWith (.ListComp elt gens scope pos) (some (.Name y B)) j.line X.env=pure true)
  (h:wpAny (model X.prog X.w) X.A (comprehension (.ListComp elt gens scope pos) scope X.env (firstIterPos gens pos) (newList []) (firstAsync gens) (firstIter gens X.env) (some (assign (.Name y B) X.env))) (fun _=>Q .next) X.xe s) :
  wpAny (model X.prog X.w) X.A (exec (.Assign [.Name y B] (.ListComp elt gens scope pos) j) X.env) Q X.xe s:=by
 have u:wpAny (model X.prog X.w) X.A (evalThenUse (.ListComp elt gens scope pos) X.env (assign (.Name y B) X.env)) (fun _=>Q .next) X.xe s:=wpAny_bind (thn h fun _ _ q=>wpAny_pure q);exact(exec_Assign_Name_used y B _ j G) ▸ wpAny_bind (wpAny_standAt (wpAny_bind (thn u fun _ _ q=>wpAny_pure q)))
theorem pX {Z:TI}{B:Option (Value->Sem Unit)}{Q:cE}{s:Shared}{H:Hp}{K:It->Hp->Prop}{ps:Pos}(U:clausesOf ce=⟨tg,iter,ifs,0⟩::cls)(S:bJ X scope N' src)(hi:PI X tg iter Z)(hs:∀x,foldedSetIterable iter X.env x=pure x)(I:aO X pins σ H s)(h:Z σ H K)
  (k:∀G H₂ it fp N J,aO X pins σ H₂ G->m8 X.prog X.w X.K tg J fp it N->N 0 G.heap->(∀b∈fp,fK X pins H₂ b)->K J H₂ ->
   wpAny (model X.prog X.w) X.A mk (fun L s₃=>wpAny (model X.prog X.w) X.A (newFunctionEnv scope X.env.globals (closL X.env.cells scope.names []) [] X.env.qual none .none (some X.env)) (fun j s₄ =>
    codeAny (model X.prog X.w) X.A (.compStart ce 0 (.ref it) L {j with scope:=relabel scope X.env}) (compPost (model X.prog X.w) X.A X.xe B Q L j.locals) s₄) X.xe s₃) X.xe G) :
  wpAny (model X.prog X.w) X.A (comprehension ce scope X.env ps mk false (eval iter X.env) B) Q X.xe s:=by
 refine wpAny_comprehension_free U hs (uP (S.cells I)) S.kind S.names (thn (hi pins s σ H K I h) fun _ _ q=>thn q ?_);rintro _ G ⟨it,fp,N,J,H₂,rfl,I2,T,st,f,q⟩;exact k G H₂ it fp N J I2 T st f q
theorem iI {B:TI}(hc:X.calm=true)(S:bJ X scope N' src)(hi:PI X tg iter B)(hg:∀C s H fp,PG (blk X scope N' C s H fp) tg g)(U:∀C s H fp,N7 (blk X scope N' C s H fp) ifs tt)(he:∀C s H fp,PE (blk X scope N' C s H fp) elt te)
  (Z:∀x,foldedSetIterable iter X.env x=pure x:=by intro _;rfl):PE X (.ListComp elt [⟨tg,iter,ifs,0⟩] scope pos) (tComp src B g tt te):=by
 intro G s σ H Q I h;rw[eval_ListComp];refine pX rfl S hi Z I h fun j H₂ it fp tn J L T st f ⟨W,N,turn⟩=>?_;exact tP (lay:=yA elt) (tl:=tlLst te) (obj:=fun _=>.lst) vQ vO (.lst ..) rfl (zF elt tg iter ifs scope pos) (fun _ _ _ _=>EB) S L (fun C=>m8.y (Y:=blk X scope N' C j H₂ fp) T hc) st f (fun C=>hg C j H₂ fp) (fun C=>U C j H₂ fp) (fun C D q=>AK (fun _ _ z=>z) (he C j H₂ fp)) N turn fun D C s' H' q a1 a2 a3 a4 a5 a6 fin=>AZ L a1 a2 a3 a4 a5 (fin D a6)
theorem iH {U:TI}{i:Nat}{y:Str}{Z j:Pos}(hN:X.N.Nodup)(G:X.N[i]?=some y)(hy:X.env.scope.names.lookup y=some .local)(B:swapsWith (.ListComp elt [⟨tg,iter,ifs,0⟩] scope pos) (some (.Name y Z)) j.line X.env=pure true)
  (hc:X.calm=true) (S:bJ X scope N' src) (hi:PI X tg iter U) (hg:∀C s H fp,PG (blk X scope N' C s H fp) tg g) (ht:∀C s H fp,N7 (blk X scope N' C s H fp) ifs tt) (he:∀C s H fp,PE (blk X scope N' C s H fp) elt te)
  (hs:∀x,foldedSetIterable iter X.env x=pure x:=by intro _;rfl):PS X (.Assign [.Name y Z] (.ListComp elt [⟨tg,iter,ifs,0⟩] scope pos) j) (tAsg (tComp src U g tt te) (gName i)):=by
 intro pins s σ H D I h;refine E3 B ?_;refine pX rfl S hi hs I h fun q H₂ it fp tn J I2 T st f ⟨W,w0,turn⟩=>?_;exact tP (lay:=yA elt) (tl:=tlLst te) (obj:=fun _=>.lst) vQ vO (.lst ..) rfl (zF elt tg iter ifs scope pos) (fun _ _ _ _=>EB) S I2 (fun C=>m8.y (Y:=blk X scope N' C q H₂ fp) T hc) st f (fun C=>hg C q H₂ fp) (fun C=>ht C q H₂ fp) (fun C D L=>AK (fun _ _ z=>z) (he C q H₂ fp)) w0 turn fun D C s' H' L a1 a2 a3 a4 a5 a6 fin=>KA hN G hy I2 a1 a2 a3 a4 a5 (fin D a6)
end
noncomputable def xX:aW->Bool
 | []=>true
 | x::r=>!r.contains x && xX r
theorem vJ:∀{l:aW},xX l=true->l.Nodup
 | [],_=>List.nodup_nil
 | x::r,h=>by simp only[xX,Bool.and_eq_true,Bool.not_eq_true',List.contains_eq_mem,decide_eq_false_iff_not]at h;exact List.nodup_cons.mpr ⟨h.1,vJ h.2⟩
noncomputable def compB (N:aW)(names:List (Str×NameKind))(scope:Scope)(N':aW)(src:List (Option Nat)):Bool :=
 decide (scope.kind = .function) && scope.names.all (fun y=>decide (y.2≠.cell)) && scope.names.all (fun y=>decide (y.2≠.local) || decide (scope.names.lookup y.1=some .local)) &&
 scope.names.all (fun y=>decide (y.2≠.free) || (decide (names.lookup y.1=some .cell) || decide (names.lookup y.1=some .free))) && xX N' && srcOk N scope.names src N'
theorem bJ.by {X:Cx}{N:aW}{names:List (Str×NameKind)}{scope:Scope}{N':aW}{src:List (Option Nat)}(h:compB N names scope N' src=true)(B:X.N=N)(G:X.env.scope.names=names):bJ X scope N' src:=by subst B G;simp only[compB,Bool.and_eq_true,List.all_eq_true,Bool.or_eq_true,decide_eq_true_eq]at h;obtain⟨⟨⟨⟨⟨h1,Z⟩,U⟩,S⟩,L⟩,I⟩:=h;exact⟨h1,Z,fun y j q=>(U y j).resolve_left fun z=>z q,fun y j q=>(S y j).resolve_left fun z=>z q,vJ L,I⟩
noncomputable def cK (P:Program)(w:World)(K:PySem.W.Frag)(mg:fM)(base:Heap)(CX:zB)(k:Nat)(x:Str)(sp:Sp):Prop :=
 ∃f j ps,cA P w K mg base CX k f j ps sp/\mg x=some (.ref f)/\PySem.W.keepIn K (.ref f)=true/\fN K j ps []
section
variable {X:Cx}{CX:zB}{k:Nat}{sp:Sp}{E:XK}{x:Str}{p pos:Pos}{e:Expr}{es:kU}{t:TA}
theorem aM (O:cK X.prog X.w X.K X.mg X.base CX k x sp)(G:eK k X.A)(B:jO CX X E)(N:Gl X x)(Z:PA X (e::es) t)(q:(x == ("__debug__" : Str))=false:=by decide)
  (S:starEach (e::es) X.env=(false,eval e X.env)::starEach es X.env:=by rfl) (j:(backTo pos (starEach es X.env)).any (·.1)=false:=by rfl):PE X (.Call (.Name x p) (e::es) [] pos) (tCall sp [] E t):=by
 obtain⟨f,fd,ps,F,I,L,U⟩:=O;exact LW F G N I L U .nil B Z q S j
theorem gO {v:V}(j:∃u,X.mg x=some u/\aT v u)(q:Gl X x)(hd:(x == ("__debug__" : Str))=false:=by decide):PE X (.Name x pos) (tC v):=by obtain⟨u,h,r⟩:=j;exact LV q h r hd
end
noncomputable def G8 (P:Program)(w:World)(K:PySem.W.Frag)(mg:fM)(base:Heap)(CX:zB)(k:Nat)(C:Addr)(m:Str)(sp:Sp):Prop :=
 ∃f j ps,cA P w K mg base CX k f j ps sp/\NR K C m f/\fN K j ps []/\HA K C
section
variable {X:Cx}
noncomputable def ixV (H:Hp):V->V->Option V
 | .ref p,.int i=>match H p with
  | some (.lst xs)=>atI xs i
  | some (.tup xs)=>atI xs i
  | some (.frz _ (.lst xs))=>atI xs i
  | _=>none
 | .str z,.int i=>if z.length<=sizeLine then(atI z.cps.toList i).map fun c=>.str ⟨#[c]⟩else none
 | _,_=>none
theorem dN:KW X (fun x y H Q=>∃v,ixV H x y=some v/\Q v H):=by
 intro j B G s σ H x y v u Q I S N h U;obtain⟨z,e,q⟩:=h;refine JR j B G s σ H x y v u Q I S N ?_ U;cases x with
 | ref p =>
  cases y with
  | int i =>
   unfold ixV at e;dsimp only at e;split at e
   ·rename_i xs L;exact .inl ⟨p,xs,i,z,rfl,rfl,fA.of L,e,q⟩
   ·rename_i xs L;exact .inr (.inl ⟨p,xs,i,z,rfl,rfl,hZ.of L,e,q⟩)
   ·rename_i o xs L;exact .inl ⟨p,xs,i,z,rfl,rfl,.inl (.inr ⟨o,L⟩),e,q⟩
   ·cases e
  | _=>cases e
 | str t =>
  cases y with
  | int i =>
   unfold ixV at e;dsimp only at e;split at e
   ·rename_i hz;cases ea:atI t.cps.toList i with
    | none=>rw[ea]at e;cases e
    | some c =>
     rw[ea]at e;cases e;exact .inr (.inr ⟨t,i,c,rfl,rfl,hz,ea,q⟩)
   ·cases e
  | _=>cases e
 | _=>cases e
noncomputable def lenV (H:Hp):V->Option Nat
 | .ref p=>match H p with
  | some (.lst xs)=>some xs.length
  | some (.tup xs)=>some xs.length
  | some (.frz _ (.lst xs))=>some xs.length
  | some (.dK j)=>some j.length
  | _=>none
 | .str z=>if z.length<=sizeLine then some z.length else none
 | _=>none
theorem cT.or' {f:Value}{r G:List V->Hp->VK->Prop}(h:cT X f r)(h':cT X f G):cT X f (fun xs H Q=>r xs H Q∨G xs H Q):=by
 intro j s σ H xs us Q I B q;rcases q with q|q
 ·exact h j s σ H xs us Q I B q
 ·exact h' j s σ H xs us Q I B q
theorem cT.imp {f:Value}{r B:List V->Hp->VK->Prop}(h:cT X f r)(i:∀xs H Q,B xs H Q->r xs H Q):cT X f B:=fun j s σ H xs us Q I G q=>h j s σ H xs us Q I G (i _ _ _ q)
theorem i5.imp {f:Value->Value->Sem Value}{r B:R2}(h:i5 X f r)(i:∀x y H Q,B x y H Q->r x y H Q):i5 X f B:=fun j s σ H x y v u Q I L G q=>h j s σ H x y v u Q I L G (i _ _ _ _ q)
noncomputable def r1 (f:Hp->V->Option V):List V->Hp->VK->Prop:=fun xs H Q=>∃x v,xs=[x]/\f H x=some v/\Q v H
theorem bH:cT X (.builtin "len") (r1 fun H x=>(lenV H x).map fun n=>.int n):=by
 refine((kH.or' yV).or' G2).imp fun xs H Q h=>?_;obtain⟨x,v,rfl,e,q⟩:=h;cases x with
 | ref p =>
  unfold lenV at e;dsimp only at e;split at e
  ·rename_i xs j;cases e;exact .inl (.inl ⟨p,xs,rfl,.inl (fA.of j),q⟩)
  ·rename_i xs j;cases e;exact .inl (.inl ⟨p,xs,rfl,.inr (hZ.of j),q⟩)
  ·rename_i o xs j;cases e;exact .inl (.inl ⟨p,xs,rfl,.inl (.inl (.inr ⟨o,j⟩)),q⟩)
  ·rename_i B j;cases e;exact .inr ⟨p,B,rfl,j,q⟩
  ·cases e
 | str z =>
  unfold lenV at e;dsimp only at e;split at e
  ·rename_i hz;cases e;exact .inl (.inr ⟨z,rfl,hz,q⟩)
  ·cases e
 | _=>cases e
noncomputable def intV:V->Option V
 | .int i=>some (.int i)
 | .bl k=>some (.int (if k then 1 else 0))
 | _=>none
theorem pY:cT X (.type "int") (r1 fun _ x=>intV x):=by
 refine G3.imp fun xs H Q h=>?_;obtain⟨x,v,rfl,e,q⟩:=h;cases x with
 | int i=>cases e;exact .inl ⟨i,rfl,q⟩
 | bl k=>cases e;exact .inr ⟨k,rfl,q⟩
 | _=>cases e
noncomputable def addV:V->V->Option V
 | .int i,.int j=>some (.int (i+j))
 | .str i,.str j=>if i.length+j.length<=sizeLine then some (.str (i++j))else none
 | _,_=>none
noncomputable def catO (H:Hp):V->V->Option HO
 | .ref a,.ref b=>match H a,H b with
  | some (.lst xs),some (.lst ys)=>if xs.length+ys.length<=sizeLine then some (.lst (xs++ys))else none
  | some (.tup xs),some (.tup ys)=>if xs.length+ys.length<=sizeLine/\xs≠[]/\ys≠[]then some (.tup (xs++ys))else none
  | _,_=>none
 | _,_=>none
noncomputable def rAddF:R2:=fun x y H Q=>(∃v,addV x y=some v/\Q v H)∨(∃o,catO H x y=some o/\∀p,H p=none->Q (.ref p) (upd H p o))
theorem bV:i5 X (binaryOp .Add) rAddF:=by
 refine((PH.or CC).or (PF.or L7)).imp fun x y H Q h=>?_;rcases h with⟨v,e,q⟩|⟨o,e,q⟩
 ·cases x with
  | int i=>cases y with
   | int j=>cases e;exact .inl (.inl ⟨i,j,rfl,rfl,q⟩)
   | _=>cases e
  | str i=>cases y with
   | str j =>
    unfold addV at e;dsimp only at e;split at e
    ·rename_i hz;cases e;exact .inl (.inr ⟨i,j,rfl,rfl,hz,q⟩)
    ·cases e
   | _=>cases e
  | _=>cases e
 ·cases x with
  | ref a=>cases y with
   | ref b =>
    unfold catO at e;dsimp only at e;split at e
    ·rename_i xs ys G B;split at e
     ·rename_i hz;cases e;exact .inr (.inl ⟨a,b,xs,ys,rfl,rfl,G,B,hz,q⟩)
     ·cases e
    ·rename_i xs ys G B;split at e
     ·rename_i hz;cases e;exact .inr (.inr ⟨a,b,xs,ys,rfl,rfl,hZ.of G,hZ.of B,hz.2.1,hz.1,fun w=>absurd w hz.2.2,fun _=>q⟩)
     ·cases e
    ·cases e
   | _=>cases e
  | _=>cases e
end
inductive D where
 | non|bl (b:Bool)|int (i:Int)|str (x:Str)|tup (xs:List D)|lst (xs:List D)
mutual
noncomputable def bD (H:Hp):D->V->Prop
 | .non,v=>v = .non
 | .bl b,v=>v = .bl b
 | .int i,v=>v = .int i
 | .str x,v=>v = .str x
 | .tup ds,v=>∃a vs,v = .ref a/\H a=some (.tup vs)/\Reps H ds vs
 | .lst ds,v=>∃a vs,v = .ref a/\H a=some (.lst vs)/\Reps H ds vs
noncomputable def Reps (H:Hp):List D->List V->Prop
 | [],vs=>vs=[]
 | d::ds,vs=>∃v r,vs=v::r/\bD H d v/\Reps H ds r
end
mutual
theorem bD.same {H H':Hp}(s:aH H H'):∀{d:D} {v:V},bD H d v->bD H' d v
 | .non,_,h=>h
 | .bl _,_,h=>h
 | .int _,_,h=>h
 | .str _,_,h=>h
 | .tup _,_,⟨a,vs,e,h,r⟩=>⟨a,vs,e,s _ _ h,Reps.same s r⟩
 | .lst _,_,⟨a,vs,e,h,r⟩=>⟨a,vs,e,s _ _ h,Reps.same s r⟩
theorem Reps.same {H H':Hp}(s:aH H H'):∀{ds:List D} {vs:List V},Reps H ds vs->Reps H' ds vs
 | [],_,h=>h
 | _::_,_,⟨v,r,e,h,q⟩=>⟨v,r,e,bD.same s h,Reps.same s q⟩
end
theorem Reps.length {H:Hp}:∀{ds:List D} {vs:List V},Reps H ds vs->vs.length=ds.length
 | [],_,h=>by cases h;rfl
 | _::_,_,⟨v,r,e,_,q⟩=>by subst e;simp[Reps.length q]
theorem Reps.append {H:Hp}:∀{ds j:List D} {vs ws:List V},Reps H ds vs->Reps H j ws->Reps H (ds++j) (vs++ws)
 | [],_,_,_,h,k=>by cases h;exact k
 | _::_,_,_,_,⟨v,r,e,h,q⟩,k=>by subst e;exact⟨v,r++_,rfl,h,Reps.append q k⟩
theorem Reps.get {H:Hp}:∀{ds:List D} {vs:List V} {i:Nat} {v:V},Reps H ds vs->vs[i]?=some v->∃d,ds[i]?=some d/\bD H d v
 | [],_,_,_,h,e=>by cases h;simp at e
 | d::_,_,0,_,⟨v,r,e,h,q⟩,k=>by subst e;simp at k;subst k;exact⟨d,rfl,h⟩
 | _::_,_,i+1,_,⟨v,r,e,h,q⟩,k=>by subst e;simp at k;obtain⟨d,B,j⟩:=Reps.get q k;exact⟨d,by simpa using B,j⟩
theorem Reps.get' {H:Hp}:∀{ds:List D} {vs:List V} {i:Nat} {d:D},Reps H ds vs->ds[i]?=some d->∃v,vs[i]?=some v/\bD H d v
 | [],_,_,_,_,e=>by simp at e
 | d::_,_,0,_,⟨v,r,e,h,q⟩,k=>by subst e;simp at k;subst k;exact⟨v,rfl,h⟩
 | _::_,_,i+1,_,⟨v,r,e,h,q⟩,k=>by subst e;simp at k;obtain⟨w,B,j⟩:=Reps.get' q k;exact⟨w,by simpa using B,j⟩
mutual
noncomputable def eqD:D->D->Bool
 | .non,.non=>true
 | .bl a,.bl b=>a == b
 | .bl a,.int b=>(if a then 1 else 0) == b
 | .int a,.bl b=>a == (if b then 1 else 0)
 | .int a,.int b=>a == b
 | .str a,.str b=>a == b
 | .tup xs,.tup ys=>eqDs xs ys
 | .lst xs,.lst ys=>eqDs xs ys
 | _,_=>false
noncomputable def eqDs:List D->List D->Bool
 | [],[]=>true
 | x::xs,y::ys=>eqD x y && eqDs xs ys
 | _,_=>false
end
mutual
noncomputable def depD:D->Nat
 | .tup xs=>depDs xs+1
 | .lst xs=>depDs xs+1
 | _=>0
noncomputable def depDs:List D->Nat
 | []=>0
 | x::xs=>max (depD x) (depDs xs)
end
end L2
namespace L2
open PySem PySem.Spec PyProof.Rows PySem.SeqAt
mutual
theorem bD.inj {H:Hp}:∀{d e:D} {v:V},bD H d v->bD H e v->d=e
 | .non,e,v,h,k=>by cases h;cases e <;> first|rfl|(exact absurd k (by simp[bD]))|(obtain⟨_,_,z,_⟩:=k;cases z)
 | .bl b,e,v,h,k=>by cases h;cases e <;> first|(cases k;rfl)|(exact absurd k (by simp[bD]))|(obtain⟨_,_,z,_⟩:=k;cases z)
 | .int b,e,v,h,k=>by cases h;cases e <;> first|(cases k;rfl)|(exact absurd k (by simp[bD]))|(obtain⟨_,_,z,_⟩:=k;cases z)
 | .str b,e,v,h,k=>by cases h;cases e <;> first|(cases k;rfl)|(exact absurd k (by simp[bD]))|(obtain⟨_,_,z,_⟩:=k;cases z)
 | .tup ds,e,v,⟨a,vs,N,G,L⟩,k=>by
  subst N;cases e with
  | tup S =>
   obtain⟨b,I,q,j,B⟩:=k;cases q;rw[G]at j;cases j;rw[Reps.inj L B]
  | lst S =>
   obtain⟨b,I,q,j,B⟩:=k;cases q;rw[G]at j;cases j
  | _=>exact absurd k (by simp[bD])
 | .lst ds,e,v,⟨a,vs,N,G,L⟩,k=>by
  subst N;cases e with
  | lst S =>
   obtain⟨b,I,q,j,B⟩:=k;cases q;rw[G]at j;cases j;rw[Reps.inj L B]
  | tup S =>
   obtain⟨b,I,q,j,B⟩:=k;cases q;rw[G]at j;cases j
  | _=>exact absurd k (by simp[bD])
theorem Reps.inj {H:Hp}:∀{ds j:List D} {vs:List V},Reps H ds vs->Reps H j vs->ds=j
 | [],[],_,_,_=>rfl
 | [],e::j,_,h,k=>by cases h;obtain⟨_,_,z,_⟩:=k;cases z
 | d::ds,[],_,h,k=>by cases k;obtain⟨_,_,z,_⟩:=h;cases z
 | d::ds,e::j,_,⟨v,r,S,N,L⟩,⟨w,q,I,G,B⟩=>by subst S;cases I;rw[bD.inj N G,Reps.inj L B]
end
mutual
theorem hX:∀d:D,eqD d d=true
 | .non=>rfl
 | .bl b=>by simp[eqD]
 | .int b=>by simp[eqD]
 | .str b=>by simp[eqD]
 | .tup xs=>by rw[eqD];exact pW xs
 | .lst xs=>by rw[eqD];exact pW xs
theorem pW:∀ds:List D,eqDs ds ds=true
 | []=>rfl
 | d::ds=>by rw[eqDs,hX d,pW ds];rfl
end
theorem tW (n:Nat)(f:Nat->Bool):(List.range (n+1)).all f=(f 0 && (List.range n).all fun j=>f (j+1)):=by have e:=List.range_succ_eq_map (n:=n);rw[e,List.all_cons,List.all_map];rfl
theorem hW:∀ds q:List D,eqDs ds q=((List.range (min ds.length q.length)).all (fun j=>eqD (ds.getD j .non) (q.getD j .non)) && ds.length == q.length)
 | [],[]=>rfl
 | [],e::q=>by simp[eqDs]
 | d::ds,[]=>by simp[eqDs]
 | d::ds,e::q=>by
  rw[eqDs,hW ds q];have B:min (d::ds).length (e::q).length=min ds.length q.length+1:=by simp only[List.length_cons];omega
  rw[B,tW];simp only[List.getD_cons_zero,List.getD_cons_succ,List.length_cons];rw[Bool.and_assoc];congr 2;rw[Bool.eq_iff_iff];simp
section
variable {P:Program}{w:World}{H:Hp}{s:Shared}
theorem hV (ok:gR P w H s.heap){a:Addr}{vs:List V}(h:H a=some (.lst vs)):∃its:bZ,aR vs its/\s.heap.IsList a its.toArray:=by obtain⟨_,its,n,r,e⟩:=ok a _ h;exact⟨its,r,⟨_,e,rfl,n,rfl⟩⟩
theorem jE (ok:gR P w H s.heap){a:Addr}{vs:List V}(h:H a=some (.tup vs)):∃its:bZ,aR vs its/\s.heap.IsTuple a its.toArray:=by obtain⟨_,its,r,e⟩:=ok a _ h;exact⟨its,r,e⟩
theorem eS (A:Around):A.in1.units=A.units+1:=rfl
noncomputable def RO (u:Value):Prop:=u = .none∨(∃b,u = .bool b)∨(∃i t,u = .int i t)∨(∃x t,u = .str x t)∨∃a,u = .ref a
theorem HX {H:Hp}{d:D}{v:V}{u:Value}(h:bD H d v)(r:aT v u):RO u:=by
 cases d with
 | non=>cases h;exact .inl r
 | bl b=>cases h;exact .inr (.inl ⟨b,r⟩)
 | int i=>cases h;obtain⟨t,e⟩:=r;exact .inr (.inr (.inl ⟨i,t,e⟩))
 | str x=>cases h;obtain⟨t,e⟩:=r;exact .inr (.inr (.inr (.inl ⟨x,t,e⟩)))
 | tup ds=>obtain⟨a,vs,e,_⟩:=h;subst e;exact .inr (.inr (.inr (.inr ⟨a,r⟩)))
 | lst ds=>obtain⟨a,vs,e,_⟩:=h;subst e;exact .inr (.inr (.inr (.inr ⟨a,r⟩)))
theorem NB {A:Around}{s:Shared}{u j:Value}{b:Bool}(L:RO u)(B:RO j)(N:u≠j)(q:RcAt A s u j b):EqAt A s u j b:=by intro prog w E Q S;unfold eqBool;refine wpAny_holding ?_;refine wpAny_ite_split (fun G=>absurd (eq_of_beq G) N) (fun _=>?_);have q':=q prog w E (fun v I=>wpAny (model prog w) A (truthOfDropped v) Q E I) (wpAny_truthy_bool S);rcases L with rfl|⟨_,rfl⟩|⟨_,_,rfl⟩|⟨_,_,rfl⟩|⟨_,rfl⟩ <;> rcases B with rfl|⟨_,rfl⟩|⟨_,_,rfl⟩|⟨_,_,rfl⟩|⟨_,rfl⟩ <;> exact wpAny_bind q'
theorem ES {A:Around}{d e:D}{v B:V}{u j:Value}(h:bD H d v)(k:bD H e B)(r:aT v u)(G:aT B j)(q:RcAt A s u j (eqD d e)):EqAt A s u j (eqD d e):=by
 by_cases I:u=j
 ·subst I;have N:v=B:=r.inj G;subst N;have L:=bD.inj h k;subst L;rw[hX];exact EqAt.same u
 ·exact NB (HX h r) (HX k G) I q
noncomputable def rH (s:Shared)(H:Hp)(n:Nat):Prop:=∀(d e:D) (A:Around) (v v':V) (u u':Value),depD d<n->bD H d v->bD H e v'->aT v u->aT v' u'->A.units+depD d<cLine->RcAt A s u u' (eqD d e)
theorem yR {n:Nat}(ih:rH s H n):∀{ds B:List D} {A:Around} {vs I:List V} {us q:bZ},depDs ds<n->Reps H ds vs->Reps H B I->aR vs us->aR I q->A.units+depDs ds<cLine ->
  ∀j (L:j<us.length) (Z:j<q.length),EqAt A s us[j] q[j] (eqD (ds.getD j .non) (B.getD j .non)):=by
 intro ds
 induction ds with
 | nil=>intro B A vs I us q _ h _ r _ _ j L;cases h;cases r;exact absurd L (Nat.not_lt_zero _)
 | cons d ds hs =>
  intro B A vs I us q U h k r r' S j L Z;cases B with
  | nil=>cases k;cases r';exact absurd Z (Nat.not_lt_zero _)
  | cons e B =>
   obtain⟨v,vr,q1,q2,q3⟩:=h;obtain⟨y,wr,p1,p2,p3⟩:=k;subst q1 p1;rw[depDs]at S U;cases r with
   | cons r1 r2 =>
    cases r' with
    | cons G N =>
     cases j with
     | zero=>exact ES q2 p2 r1 G (ih d e A v y _ _ (Nat.lt_of_le_of_lt (Nat.le_max_left _ _) U) q2 p2 r1 G (Nat.lt_of_le_of_lt (Nat.add_le_add_left (Nat.le_max_left _ _) _) S))
     | succ j=>exact hs (Nat.lt_of_le_of_lt (Nat.le_max_right _ _) U) q3 p3 r2 N (Nat.lt_of_le_of_lt (Nat.add_le_add_left (Nat.le_max_right _ _) _) S) j (Nat.lt_of_succ_lt_succ L) (Nat.lt_of_succ_lt_succ Z)
theorem LF (ok:gR P w H s.heap){n:Nat}(ih:rH s H n){ds G:List D}{A:Around}{v S:V}{u U:Value}(hn:depDs ds<n)(h:bD H (.tup ds) v)(k:bD H (.tup G) S)(r:aT v u)(r':aT S U)(hu:A.units+depDs ds+1<cLine):RcAt A s u U (eqD (.tup ds) (.tup G)):=by
 obtain⟨a,vs,N,L,h3⟩:=h;obtain⟨b,ws,k1,k2,k3⟩:=k;subst N k1;cases r;cases r';obtain⟨its,Z,hl⟩:=jE ok L;obtain⟨its2,B,I⟩:=jE ok k2;have q:=RcAt.tuples (A:=A) hl I (by omega) (e:=fun j=>eqD (ds.getD j .non) (G.getD j .non)) fun j N L=>yR ih hn h3 k3 Z B (A:=A.in1) (by rw[eS];omega) j N L;have e1:its.toArray.size=ds.length:=by rw[List.size_toArray,←Z.length,h3.length]
 have e2:its2.toArray.size=G.length:=by rw[List.size_toArray,←B.length,k3.length]
 rw[e1,e2,←hW]at q;exact q
theorem LG (ok:gR P w H s.heap){n:Nat}(ih:rH s H n){ds B:List D}{A:Around}{v Z:V}{u u':Value}(hn:depDs ds<n)(h:bD H (.lst ds) v)(k:bD H (.lst B) Z)(r:aT v u)(r':aT Z u')(hu:A.units+depDs ds+1<cLine):RcAt A s u u' (eqD (.lst ds) (.lst B)):=by
 obtain⟨a,vs,N,L,h3⟩:=h;obtain⟨b,ws,k1,k2,k3⟩:=k;subst N k1;cases r;cases r';obtain⟨its,rv,hl⟩:=hV ok L;obtain⟨its2,G,I⟩:=hV ok k2;have U:its.toArray.size=ds.length:=by rw[List.size_toArray,←rv.length,h3.length]
 have e2:its2.toArray.size=B.length:=by rw[List.size_toArray,←G.length,k3.length]
 by_cases hz:its.toArray.size=its2.toArray.size
 ·have q:=RcAt.lists (A:=A) hl I hz (by omega) (e:=fun j=>eqD (ds.getD j .non) (B.getD j .non)) fun j N L=>yR ih hn h3 k3 rv G (A:=A.in1) (by rw[eS];omega) j N L;have e3:ds.length=B.length:=by rw[←U,←e2];exact hz
  have S:eqD (.lst ds) (.lst B)=(List.range its.toArray.size).all fun j=>eqD (ds.getD j .non) (B.getD j .non):=by rw[eqD,hW,e3,Nat.min_self,U,e3,beq_self_eq_true,Bool.and_true]
  rw[S];exact q
 ·have q:=RcAt.lists_lengths (A:=A) hl I (bne_iff_ne.mpr hz) (by omega);have S:eqD (.lst ds) (.lst B)=false:=by rw[eqD,hW];have:(ds.length == B.length)=false:=beq_eq_false_iff_ne.mpr (by rw[←U,←e2];exact hz);rw[this,Bool.and_false]
  rw[S];exact q
inductive Kd (s:Shared):D->Value->Prop
 | non:Kd s .non .none
 | bl (b:Bool):Kd s (.bl b) (.bool b)
 | int (i:Int) (t:Tok):Kd s (.int i) (.int i t)
 | str (x:Str) (t:Tok):Kd s (.str x) (.str x t)
 | tup {ds:List D} {a:Addr} {its:bZ}:s.heap.IsTuple a its.toArray->Kd s (.tup ds) (.ref a)
 | lst {ds:List D} {a:Addr} {its:bZ}:s.heap.IsList a its.toArray->Kd s (.lst ds) (.ref a)
theorem EL (ok:gR P w H s.heap):∀{d:D} {v:V} {u:Value},bD H d v->aT v u->Kd s d u
 | .non,_,_,h,r=>by cases h;cases r;exact .non
 | .bl b,_,_,h,r=>by cases h;cases r;exact .bl b
 | .int i,_,_,h,r=>by cases h;obtain⟨t,rfl⟩:=r;exact .int i t
 | .str x,_,_,h,r=>by cases h;obtain⟨t,rfl⟩:=r;exact .str x t
 | .tup _,_,_,⟨_,_,e,h,_⟩,r=>by subst e;cases r;obtain⟨_,_,j⟩:=jE ok h;exact .tup j
 | .lst _,_,_,⟨_,_,e,h,_⟩,r=>by subst e;cases r;obtain⟨_,_,j⟩:=hV ok h;exact .lst j
theorem LH {A:Around}{d e:D}{u B:Value}(j:A.units<cLine)(h:Kd s d u)(k:Kd s e B)(n1:∀xs ys,d = .tup xs->e≠.tup ys)(n2:∀xs ys,d = .lst xs->e≠.lst ys):RcAt A s u B (eqD d e):=by
 cases h with
 | non=>cases k with
  | non=>exact RcAt.none_none
  | bl c=>exact RcAt.none_bool c
  | int c t=>exact RcAt.none_int c t
  | str c t=>exact RcAt.none_str c t
  | tup l=>exact RcAt.none_tuple l j
  | lst l=>exact RcAt.none_list l j
 | bl x=>cases k with
  | non=>exact RcAt.bool_none x
  | bl c=>exact RcAt.bool_bool x c
  | int c t=>exact RcAt.bool_int x c t
  | str c t=>exact RcAt.bool_str x c t
  | tup l=>exact RcAt.bool_tuple x l j
  | lst l=>exact RcAt.bool_list x l j
 | int x q=>cases k with
  | non=>exact RcAt.int_none x q
  | bl c=>exact RcAt.int_bool x q c
  | int c t=>exact RcAt.int_int x q c t
  | str c t=>exact RcAt.int_str x q c t
  | tup l=>exact RcAt.int_tuple x q l j
  | lst l=>exact RcAt.int_list x q l j
 | str x q=>cases k with
  | non=>exact RcAt.str_none x q
  | bl c=>exact RcAt.str_bool x q c
  | int c t=>exact RcAt.str_int x q c t
  | str c t=>exact RcAt.str_str x q c t
  | tup l=>exact RcAt.str_tuple x q l j
  | lst l=>exact RcAt.str_list x q l j
 | tup m=>cases k with
  | non=>exact RcAt.tuple_none m j
  | bl c=>exact RcAt.tuple_bool c m j
  | int c t=>exact RcAt.tuple_int c t m j
  | str c t=>exact RcAt.tuple_str c t m j
  | tup l=>exact absurd rfl (n1 _ _ rfl)
  | lst l=>exact RcAt.tuple_list m l j
 | lst m=>cases k with
  | non=>exact RcAt.list_none m j
  | bl c=>exact RcAt.list_bool c m j
  | int c t=>exact RcAt.list_int c t m j
  | str c t=>exact RcAt.list_str c t m j
  | tup l=>exact RcAt.list_tuple m l j
  | lst l=>exact absurd rfl (n2 _ _ rfl)
theorem nT (ok:gR P w H s.heap):∀n,rH s H n
 | 0=>fun _ _ _ _ _ _ _ h=>absurd h (Nat.not_lt_zero _)
 | n+1=>fun d e A v U u Z q h k r B j=>by
  have S:A.units<cLine:=Nat.lt_of_le_of_lt (Nat.le_add_right _ _) j;by_cases N:∃xs ys,d = .tup xs/\e = .tup ys
  ·obtain⟨xs,ys,rfl,rfl⟩:=N;rw[depD]at j q;exact LF ok (nT ok n) (Nat.lt_of_succ_lt_succ q) h k r B j
  ·by_cases L:∃xs ys,d = .lst xs/\e = .lst ys
   ·obtain⟨xs,ys,rfl,rfl⟩:=L;rw[depD]at j q;exact LG ok (nT ok n) (Nat.lt_of_succ_lt_succ q) h k r B j
   ·exact LH S (EL ok h r) (EL ok k B) (fun xs ys I G=>N ⟨xs,ys,I,G⟩) (fun xs ys I G=>L ⟨xs,ys,I,G⟩)
theorem rcAtD (ok:gR P w H s.heap)(d e:D)(A:Around)(v j:V)(u q:Value)(h:bD H d v)(k:bD H e j)(r:aT v u)(B:aT j q)(G:A.units+depD d<cLine):RcAt A s u q (eqD d e):=nT ok _ d e A v j u q (Nat.lt_succ_self _) h k r B G
theorem eqAtD (ok:gR P w H s.heap)(d e:D)(A:Around)(v j:V)(u q:Value)(h:bD H d v)(k:bD H e j)(r:aT v u)(B:aT j q)(G:A.units+depD d<cLine):EqAt A s u q (eqD d e):=ES h k r B (rcAtD ok d e A v j u q h k r B G)
end
section
variable {X:Cx}
noncomputable def rEqD:R2:=fun x y H Q=>∃d e,bD H d x/\bD H e y/\depD d<=60/\Q (.bl (eqD d e)) H
noncomputable def rNeD:R2:=fun x y H Q=>∃d e,bD H d x/\bD H e y/\depD d<=60/\Q (.bl (!eqD d e)) H
theorem eJ (N:X.A.units+64<cLine):i5 X (compareOp .Eq) rEqD:=by intro j s σ H x y v u Q I G B h;obtain⟨d,e,hd,L,hz,q⟩:=h;exact rcAtD I.hok d e X.A x y v u hd L G B (by omega) X.prog X.w X.xe _ ⟨.bl _,H,I,rfl,q⟩
end
section
variable {P:Program}{w:World}{H:Hp}{s:Shared}
theorem LC (ok:gR P w H s.heap){ds G:List D}{A:Around}{v S:V}{u U:Value}(h:bD H (.tup ds) v)(k:bD H (.tup G) S)(r:aT v u)(r':aT S U)(hu:A.units+depDs ds+1<cLine):RcNeAt A s u U (!eqD (.tup ds) (.tup G)):=by
 obtain⟨a,vs,N,L,h3⟩:=h;obtain⟨b,ws,k1,k2,k3⟩:=k;subst N k1;cases r;cases r';obtain⟨its,Z,hl⟩:=jE ok L;obtain⟨its2,B,I⟩:=jE ok k2;have q:=RcNeAt.tuples (A:=A) hl I (by omega) (e:=fun j=>eqD (ds.getD j .non) (G.getD j .non)) fun j N L=>yR (nT ok _) (Nat.lt_succ_self _) h3 k3 Z B (A:=A.in1) (by rw[eS];omega) j N L;have e1:its.toArray.size=ds.length:=by rw[List.size_toArray,←Z.length,h3.length]
 have e2:its2.toArray.size=G.length:=by rw[List.size_toArray,←B.length,k3.length]
 rw[e1,e2,←hW]at q;exact q
theorem LD (ok:gR P w H s.heap){ds B:List D}{A:Around}{v Z:V}{u u':Value}(h:bD H (.lst ds) v)(k:bD H (.lst B) Z)(r:aT v u)(r':aT Z u')(hu:A.units+depDs ds+1<cLine):RcNeAt A s u u' (!eqD (.lst ds) (.lst B)):=by
 obtain⟨a,vs,N,L,h3⟩:=h;obtain⟨b,ws,k1,k2,k3⟩:=k;subst N k1;cases r;cases r';obtain⟨its,rv,hl⟩:=hV ok L;obtain⟨its2,G,I⟩:=hV ok k2;have U:its.toArray.size=ds.length:=by rw[List.size_toArray,←rv.length,h3.length]
 have e2:its2.toArray.size=B.length:=by rw[List.size_toArray,←G.length,k3.length]
 by_cases hz:its.toArray.size=its2.toArray.size
 ·have q:=RcNeAt.lists (A:=A) hl I hz (by omega) (e:=fun j=>eqD (ds.getD j .non) (B.getD j .non)) fun j N L=>yR (nT ok _) (Nat.lt_succ_self _) h3 k3 rv G (A:=A.in1) (by rw[eS];omega) j N L;have e3:ds.length=B.length:=by rw[←U,←e2];exact hz
  have S:eqD (.lst ds) (.lst B)=(List.range its.toArray.size).all fun j=>eqD (ds.getD j .non) (B.getD j .non):=by rw[eqD,hW,e3,Nat.min_self,U,e3,beq_self_eq_true,Bool.and_true]
  rw[S];exact q
 ·have q:=RcNeAt.lists_lengths (A:=A) hl I (bne_iff_ne.mpr hz) (by omega);have S:eqD (.lst ds) (.lst B)=false:=by rw[eqD,hW];have:(ds.length == B.length)=false:=beq_eq_false_iff_ne.mpr (by rw[←U,←e2];exact hz);rw[this,Bool.and_false]
  rw[S];exact q
theorem LE {A:Around}{d e:D}{u B:Value}(j:A.units<cLine)(h:Kd s d u)(k:Kd s e B)(n1:∀xs ys,d = .tup xs->e≠.tup ys)(n2:∀xs ys,d = .lst xs->e≠.lst ys):RcNeAt A s u B (!eqD d e):=by
 cases h with
 | non=>cases k with
  | non=>exact RcNeAt.none_none
  | bl c=>exact RcNeAt.none_bool c
  | int c t=>exact RcNeAt.none_int c t
  | str c t=>exact RcNeAt.none_str c t
  | tup l=>exact RcNeAt.none_tuple l j
  | lst l=>exact RcNeAt.none_list l j
 | bl x=>cases k with
  | non=>exact RcNeAt.bool_none x
  | bl c=>exact RcNeAt.bool_bool x c
  | int c t=>exact RcNeAt.bool_int x c t
  | str c t=>exact RcNeAt.bool_str x c t
  | tup l=>exact RcNeAt.bool_tuple x l j
  | lst l=>exact RcNeAt.bool_list x l j
 | int x q=>cases k with
  | non=>exact RcNeAt.int_none x q
  | bl c=>exact RcNeAt.int_bool x q c
  | int c t=>exact RcNeAt.int_int x q c t
  | str c t=>exact RcNeAt.int_str x q c t
  | tup l=>exact RcNeAt.int_tuple x q l j
  | lst l=>exact RcNeAt.int_list x q l j
 | str x q=>cases k with
  | non=>exact RcNeAt.str_none x q
  | bl c=>exact RcNeAt.str_bool x q c
  | int c t=>exact RcNeAt.str_int x q c t
  | str c t=>exact RcNeAt.str_str x q c t
  | tup l=>exact RcNeAt.str_tuple x q l j
  | lst l=>exact RcNeAt.str_list x q l j
 | tup m=>cases k with
  | non=>exact RcNeAt.tuple_none m j
  | bl c=>exact RcNeAt.tuple_bool c m j
  | int c t=>exact RcNeAt.tuple_int c t m j
  | str c t=>exact RcNeAt.tuple_str c t m j
  | tup l=>exact absurd rfl (n1 _ _ rfl)
  | lst l=>exact RcNeAt.tuple_list m l j
 | lst m=>cases k with
  | non=>exact RcNeAt.list_none m j
  | bl c=>exact RcNeAt.list_bool c m j
  | int c t=>exact RcNeAt.list_int c t m j
  | str c t=>exact RcNeAt.list_str c t m j
  | tup l=>exact RcNeAt.list_tuple m l j
  | lst l=>exact absurd rfl (n2 _ _ rfl)
theorem LJ (ok:gR P w H s.heap)(d e:D)(A:Around)(v I:V)(u L:Value)(h:bD H d v)(k:bD H e I)(r:aT v u)(q:aT I L)(j:A.units+depD d<cLine):RcNeAt A s u L (!eqD d e):=by
 have U:A.units<cLine:=Nat.lt_of_le_of_lt (Nat.le_add_right _ _) j;by_cases S:∃xs ys,d = .tup xs/\e = .tup ys
 ·obtain⟨xs,ys,rfl,rfl⟩:=S;rw[depD]at j;exact LC ok h k r q j
 ·by_cases N:∃xs ys,d = .lst xs/\e = .lst ys
  ·obtain⟨xs,ys,rfl,rfl⟩:=N;rw[depD]at j;exact LD ok h k r q j
  ·exact LE U (EL ok h r) (EL ok k q) (fun xs ys G B=>S ⟨xs,ys,G,B⟩) (fun xs ys G B=>N ⟨xs,ys,G,B⟩)
end
section
variable {X:Cx}
theorem fJ (N:X.A.units+64<cLine):i5 X (compareOp .NotEq) rNeD:=by intro j s σ H x y v u Q I G B h;obtain⟨d,e,hd,L,hz,q⟩:=h;exact LJ I.hok d e X.A x y v u hd L G B (by omega) X.prog X.w X.xe _ ⟨.bl _,H,I,rfl,q⟩
noncomputable def inD (d:D)(ds:List D):Bool:=ds.any fun e=>eqD e d
noncomputable def rInD (j:Bool):R2:=fun x y H Q=>∃d ds,bD H d x/\(bD H (.lst ds) y∨bD H (.tup ds) y)/\depDs ds<=60/\Q (.bl (if j then !inD d ds else inD d ds)) H
open Classical in
noncomputable def datOf (H:Hp)(y:Value):D:=if h:∃d v,absV y=some v/\bD H d v then h.choose else .non
theorem KH {H:Hp}{d:D}{v:V}{y:Value}(r:aT v y)(h:bD H d v):datOf H y=d:=by
 have e:∃d v,absV y=some v/\bD H d v:=⟨d,v,r.abs,h⟩
 unfold datOf;rw[dif_pos e];obtain⟨B,j,q⟩:=e.choose_spec;rw[r.abs]at j;cases j;exact bD.inj q h
theorem tD {P:Program}{w:World}{H:Hp}{s:Shared}(ok:gR P w H s.heap){A:Around}{d:D}{v:V}{u:Value}(h:bD H d v)(r:aT v u):∀(ds:List D) (vs:List V) (us:bZ),Reps H ds vs->aR vs us->A.units+depDs ds<cLine ->
  (∀y∈us,EqAt A s y u (eqD (datOf H y) d))/\us.any (fun y=>eqD (datOf H y) d)=inD d ds
 | [],vs,us,j,r1,_=>by cases j;cases r1;exact⟨by simp,rfl⟩
 | e::ds,vs,us,j,r1,hu=>by
  obtain⟨I,G,Z,q,U⟩:=j;subst Z;rw[depDs]at hu;cases r1 with
  | @cons _ N _ L r1 S =>
   obtain⟨hf,hs⟩:=tD ok (A:=A) h r ds G L U S (by omega);have hd:=eqAtD ok e d A I v N u q h r1 r (by omega);have B:=KH r1 q;refine⟨fun y hy=>?_,?_⟩
   ·rcases List.mem_cons.mp hy with z|z
    ·subst z;rw[B];exact hd
    ·exact hf y z
   ·rw[List.any_cons,B,hs];rfl
theorem PJ (hu:X.A.units+64<cLine):i5 X (compareOp .In) (fun x y H Q=>rInD false x y H Q∨∃i j,x = .str i/\y = .str j/\Q (.bl (!(Builtin.Str.occurrences j i 0 j.length 1).isEmpty)) H):=by
 refine i5.or ?_ pJ;intro pins s σ H x y v u Q I rx ry h;obtain⟨d,ds,hd,B,hz,q⟩:=h;have q:Q (.bl (inD d ds)) H:=q;rcases B with⟨a,vs,e,S,L⟩|⟨a,vs,e,S,L⟩
 ·subst e;cases ry;obtain⟨its,G,N⟩:=hV I.hok S;obtain⟨Z,U⟩:=tD I.hok (A:=X.A.in1) hd rx ds vs its L G (by rw[eS];omega);refine in_listAt (fun y=>eqD (datOf H y) d) N (fun y B=>Z y (by simpa using B)) ?_;refine⟨.bl (inD d ds),H,I,?_,q⟩;show _=Value.bool _;rw[←U];simp
 ·subst e;cases ry;obtain⟨its,G,N⟩:=jE I.hok S;obtain⟨Z,U⟩:=tD I.hok (A:=X.A.in1) hd rx ds vs its L G (by rw[eS];omega);refine in_tupleAt (fun y=>eqD (datOf H y) d) N (fun y B=>Z y (by simpa using B)) ?_;refine⟨.bl (inD d ds),H,I,?_,q⟩;show _=Value.bool _;rw[←U];simp
theorem FP (hu:X.A.units+64<cLine):i5 X (compareOp .NotIn) (fun x y H Q=>rInD true x y H Q∨∃i j,x = .str i/\y = .str j/\Q (.bl (!(!(Builtin.Str.occurrences j i 0 j.length 1).isEmpty))) H):=by
 refine i5.or ?_ xW;intro pins s σ H x y v u Q I rx ry h;obtain⟨d,ds,hd,B,hz,q⟩:=h;have q:Q (.bl (!inD d ds)) H:=q;rcases B with⟨a,vs,e,S,L⟩|⟨a,vs,e,S,L⟩
 ·subst e;cases ry;obtain⟨its,G,N⟩:=hV I.hok S;obtain⟨Z,U⟩:=tD I.hok (A:=X.A.in1) hd rx ds vs its L G (by rw[eS];omega);refine notIn_listAt (fun y=>eqD (datOf H y) d) N (fun y B=>Z y (by simpa using B)) ?_;refine⟨.bl (!inD d ds),H,I,?_,q⟩;show _=Value.bool _;rw[←U];simp
 ·subst e;cases ry;obtain⟨its,G,N⟩:=jE I.hok S;obtain⟨Z,U⟩:=tD I.hok (A:=X.A.in1) hd rx ds vs its L G (by rw[eS];omega);refine notIn_tupleAt (fun y=>eqD (datOf H y) d) N (fun y B=>Z y (by simpa using B)) ?_;refine⟨.bl (!inD d ds),H,I,?_,q⟩;show _=Value.bool _;rw[←U];simp
end
end L2
namespace L2
open PySem PySem.Spec PyProof.Rows
section
variable {X:Cx}{pins:cW}{σ:St}{H:Hp}{s:Shared}
noncomputable def tyN (H:Hp):V->Option String
 | .non=>some "NoneType"
 | .bl _=>some "bool"
 | .int _=>some "int"
 | .str _=>some "str"
 | .ref p=>match H p with
  | some (.lst _)=>some "list"
  | some (.tup _)=>some "tuple"
  | some (.dK _)=>some "dict"
  | _=>none
 | _=>none
noncomputable def okT (c:String):Bool:=c == "str" || c == "int" || c == "bool" || c == "list" || c == "tuple" || c == "dict"
noncomputable def subT (t c:String):Bool:=t == c || (t == "bool" && c == "int")
noncomputable def tysV:List V->Option (List String)
 | []=>some []
 | .ty n::r=>(tysV r).map (n :: ·)
 | _::_=>none
noncomputable def clsV (H:Hp):V->Option (List String)
 | .ty n=>some [n]
 | .ref p=>match H p with
  | some (.tup vs)=>tysV vs
  | _=>none
 | _=>none
noncomputable def isV (H:Hp)(x c:V):Option Bool:=match tyN H x,clsV H c with
 | some t,some j=>if j.all okT then some (j.any (subT t))else none
 | _,_=>none
theorem Q3 {x:V}{u:Value}{t:String}(I:aO X pins σ H s)(j:aT x u)(e:tyN H x=some t) :
  ∃HH:Heap->Prop,PySem.W.KitX X.K u (.type t) HH/\HH s.heap/\u≠.builtin "__main__.__loader__#opaque":=by
 cases x with
 | non=>cases e;cases j;exact⟨_,PySem.W.kitx_none,True.intro,fun z=>nomatch z⟩
 | bl b=>cases e;cases j;exact⟨_,PySem.W.kitx_bool,True.intro,fun z=>nomatch z⟩
 | int i=>cases e;obtain⟨t,rfl⟩:=j;exact⟨_,PySem.W.kitx_int,True.intro,fun z=>nomatch z⟩
 | str i=>cases e;obtain⟨t,rfl⟩:=j;exact⟨_,PySem.W.kitx_str,True.intro,fun z=>nomatch z⟩
 | ref p =>
  cases j;unfold tyN at e;dsimp only at e;split at e
  ·rename_i xs q;cases e;obtain⟨_,_,n,_,B⟩:=(show bY X.prog X.w H s.heap p (.lst xs)from I.hok p _ q)
   exact⟨_,PySem.W.kitx_list,⟨_,B,rfl⟩,fun z=>nomatch z⟩
  ·rename_i xs q;cases e;obtain⟨_,_,_,o,B,L,_⟩:=(show bY X.prog X.w H s.heap p (.tup xs)from I.hok p _ q)
   exact⟨_,PySem.W.kitx_tuple,⟨o,B,L⟩,fun z=>nomatch z⟩
  ·rename_i G q;cases e;obtain⟨_,_,vs,_,o,N,S,B,L,_⟩:=(show bY X.prog X.w H s.heap p (.dK G)from I.hok p _ q)
   exact⟨_,PySem.W.kitx_dict,⟨o,B,L.1⟩,fun z=>nomatch z⟩
  ·cases e
 | _=>cases e
theorem OL {x:V}{t:String}(e:tyN H x=some t):t="NoneType"∨t="bool"∨t="int"∨t="str"∨t="list"∨t="tuple"∨t="dict":=by
 cases x with
 | non=>cases e;simp
 | bl b=>cases e;simp
 | int i=>cases e;simp
 | str i=>cases e;simp
 | ref p =>
  unfold tyN at e;dsimp only at e;split at e <;> cases e <;> simp
 | _=>cases e
theorem PU {c:String}(e:okT c=true):c="str"∨c="int"∨c="bool"∨c="list"∨c="tuple"∨c="dict":=by simp only[okT,Bool.or_eq_true,beq_iff_eq]at e;rcases e with((((e|e)|e)|e)|e)|e <;> simp[e]
theorem EI {K:PySem.W.Frag}{x:V}{t c:String}(e:tyN H x=some t)(hc:okT c=true):PySem.W.kitOne K (.type t) (.type c)=some (subT t c):=by rcases OL e with rfl|rfl|rfl|rfl|rfl|rfl|rfl <;> rcases PU hc with rfl|rfl|rfl|rfl|rfl|rfl <;> with_unfolding_all rfl
theorem EJ {K:PySem.W.Frag}{x:V}{t:String}(e:tyN H x=some t):∀{j:List String},j.all okT=true->PySem.W.kitAny K (.type t) (j.map Value.type)=some (j.any (subT t))
 | [],_=>rfl
 | c::r,h=>by
  replace h:=Bool.and_eq_true_iff.mp (List.all_cons ▸ h)
  rw[List.map_cons];unfold PySem.W.kitAny;rw[EI e h.1];cases q:subT t c with
  | true=>simp[q]
  | false=>simp only[List.any_cons,q,Bool.false_or];exact EJ e h.2
theorem u7:∀{vs:List V} {j:List String} {us:bZ},tysV vs=some j->aR vs us->us=j.map Value.type
 | [],j,us,h,r=>by cases h;cases r;rfl
 | .ty n::vs,j,us,h,r=>by
  unfold tysV at h;cases e:tysV vs with
  | none=>rw[e]at h;cases h
  | some B =>
   rw[e]at h;cases h;cases r with
   | cons r1 q =>
    cases r1;rw[List.map_cons,u7 e q]
 | .non::_,_,_,h,_=>by cases h
 | .bl _::_,_,_,h,_=>by cases h
 | .int _::_,_,_,h,_=>by cases h
 | .str _::_,_,_,h,_=>by cases h
 | .byt _::_,_,_,h,_=>by cases h
 | .flt _::_,_,_,h,_=>by cases h
 | .ref _::_,_,_,h,_=>by cases h
noncomputable def rIs:List V->Hp->VK->Prop:=fun xs H Q=>∃x c b,xs=[x,c]/\isV H x c=some b/\Q (.bl b) H
theorem aL:cT X (.builtin "isinstance") rIs:=by
 intro B s σ H xs us Q I r h;obtain⟨x,c,b,rfl,e,q⟩:=h;cases r with
 | cons rx r2 =>
  cases r2 with
  | cons U r3 =>
   cases r3;unfold isV at e;split at e
   ·rename_i t cs S j;split at e
    ·rename_i L;cases e;obtain⟨HH,Z,hh,G⟩:=Q3 I rx S;have fin:∀tk,EP X B σ Q (.bool (cs.any (subT t))) {s with toks:=tk}:=fun tk=>⟨.bl _,H,I.tok tk,rfl,q⟩
     cases c with
     | ty n =>
      cases U;cases j;have N:okT n=true:=by simpa using L
      refine PySem.W.kia_one Z I.kIn hh (EI S N) G ?_;intro tk;have:=fin tk
      simpa using this
     | ref p =>
      cases U;unfold clsV at j;dsimp only at j;split at j
      ·rename_i vs hp;obtain⟨_,its,rv,o,N,h2,n,h3⟩:=(show bY X.prog X.w H s.heap p (.tup vs)from I.hok p _ hp)
       obtain⟨cl,dd,dt,sl⟩:=o;cases h2;cases h3;have e1:=u7 j rv;subst e1;exact PySem.W.kia_tup Z I.kIn hh N (EJ S L) G fin
      ·cases j
     | _=>cases j
    ·cases e
   ·cases e
noncomputable def seqV (H:Hp):V->Option (List V)
 | .ref p=>match H p with
  | some (.lst xs)=>some xs
  | some (.tup xs)=>some xs
  | _=>none
 | _=>none
theorem tR:cT X (.type "list") (fun xs H Q=>∃x ys,xs=[x]/\seqV H x=some ys/\∀l,H l=none->Q (.ref l) (upd H l (.lst ys))):=by
 refine yU.imp fun xs H Q h=>?_;obtain⟨x,ys,rfl,e,q⟩:=h;cases x with
 | ref p =>
  unfold seqV at e;dsimp only at e;split at e
  ·rename_i B j;cases e;exact⟨p,_,rfl,.inl (fA.of j),q⟩
  ·rename_i B j;cases e;exact⟨p,_,rfl,.inr (hZ.of j),q⟩
  ·cases e
 | _=>cases e
theorem G5:cT X (.builtin "abs") (fun xs H Q=>∃i,xs=[.int i]/\Q (.int (if i<0 then -i else i)) H):=KI
noncomputable def rSlF:V->Option Int->Option Int->Hp->VK->Prop:=fun x j q H Q=>∃a,x = .ref a /\
 ((∃xs,H a=some (.lst xs)/\∀p,H p=none->Q (.ref p) (upd H p (.lst (cutV xs j q)))) ∨
  (∃xs,H a=some (.tup xs)/\¬(HT.sIx xs.length 0 j=0/\HT.sIx xs.length xs.length q=xs.length)/\∀p,H p=none->Q (.ref p) (upd H p (.tup (cutV xs j q)))))
end
noncomputable def q8 (J:It)(g:TG)(G:TS)(D:iN)(σ:St)(L:Hp):Prop:=∃W:Nat->Nat->St->Hp->Prop,(∃m,W 0 m σ L)/\∀i m σ H,W i m σ H ->
 (J.stop i H/\D.nx σ H)∨(J.go i H/\∃N:St->Hp->Prop,(∀j H',N j H'->∃q,q<m/\W (i+1) q j H')/\∀x H',J.yld i H x H'->g x σ H' fun B I=>G {D with nx:=N,ct:=N,bk:=D.nx} B I)
theorem tFor_eq {j:TI}{g:TG}{q:TS}{D:iN}{σ:St}{H:Hp}:tFor j g q D σ H=j σ H fun J B=>q8 J g q D σ B:=rfl
noncomputable def oO (J:It)(g:TG)(q:TT)(B:TE)(Q:VK)(σ:St)(G:Hp):Prop:=∃W:CW,(∃m,W 0 m [] σ G)/\OC J g q B (fun j H=>∀p,H p=none->Q (.ref p) (upd H p (.lst j))) W
theorem tComp_eq {src:List (Option Nat)}{j:TI}{g:TG}{q:TT}{B:TE}{σ:St}{H:Hp}{Q:VK}:tComp src j g q B σ H Q=j σ H fun J G=>oO J g q B Q (stC src σ) G:=rfl
section
variable {X:Cx}{tg:Expr}
noncomputable def iAny (K:PySem.W.Frag)(tl:TE):TI:=fun σ H R=>tl σ H fun x j=>∃a,x = .ref a/\((∃xs,j a=some (.lst xs)/\R (OA K a) j)∨(∃xs,j a=some (.tup xs)/\R (N9 K a) j))
end
section
variable {g:TG}{tb:TS}{D:iN}{σ:St}{H:Hp}{tt:TT}{te:TE}{Q:VK}{K:PySem.W.Frag}
theorem fW {j:Int}{n:Nat}(Pv:Nat->St->Hp->Prop)(G:Pv 0 σ H)
  (B:∀i σ H,i<n->Pv i σ H->g (.int (j+i)) σ H fun q I=>tb {D with nx:=Pv (i+1),ct:=Pv (i+1),bk:=D.nx} q I) (hd:∀σ H,Pv n σ H->D.nx σ H):q8 (KY j n) g tb D σ H:=GM Pv G B hd
theorem GO {a:Addr}(xs:List V)(Pv:Nat->St->Hp->Prop)(I:Pv 0 σ H)(B:∀i σ H,i<=xs.length->Pv i σ H->H a=some (.lst xs))
  (q:∀i x σ H,xs[i]?=some x->Pv i σ H->g x σ H fun j L=>tb {D with nx:=Pv (i+1),ct:=Pv (i+1),bk:=D.nx} j L) (hd:∀σ H,Pv xs.length σ H->D.nx σ H):q8 (OA K a) g tb D σ H :=
 JX Pv I (fun i σ H G p=>fA.of (B i σ H G p)) q hd
theorem JY {a:Addr}(xs:List V)(Pv:Nat->St->Hp->Prop)(I:Pv 0 σ H)(B:∀i σ H,i<=xs.length->Pv i σ H->H a=some (.tup xs))
  (q:∀i x σ H,xs[i]?=some x->Pv i σ H->g x σ H fun j L=>tb {D with nx:=Pv (i+1),ct:=Pv (i+1),bk:=D.nx} j L) (hd:∀σ H,Pv xs.length σ H->D.nx σ H):q8 (N9 K a) g tb D σ H :=
 M4 Pv I (fun i σ H G p=>hZ.of (B i σ H G p)) q hd
noncomputable def CStep (g:TG)(G:TT)(I:TE)(x:V)(j:List V)(σ:St)(H:Hp)(N:List V->St->Hp->Prop):Prop :=
 g x σ H fun q S=>G q S fun b B=>if b=true then I q B fun y L=>j.length<sizeLine/\N (j++[y]) q L else N j q B
theorem oG {J:It}{n:Nat}(Pv:Nat->List V->St->Hp->Prop)(L:Pv 0 [] σ H)
  (I:∀i j σ H,i<n->Pv i j σ H->J.go i H/\∀x H',J.yld i H x H'->CStep g tt te x j σ H' (Pv (i+1)))
  (hd:∀j σ H,Pv n j σ H->J.stop n H/\∀p,H p=none->Q (.ref p) (upd H p (.lst j))):oO J g tt te Q σ H:=by
 refine⟨fun i m j σ H=>m=n - i/\i<=n/\Pv i j σ H,⟨n,by simp,Nat.zero_le _,L⟩,?_⟩;rintro i m j σ H ⟨rfl,N,p⟩;by_cases B:i<n
 ·obtain⟨go,step⟩:=I i j σ H B p;refine .inr ⟨go,fun x H' y=>?_⟩;have e:∀j σ H,(∃G,G<n - i/\G=n - (i+1)/\i+1<=n/\Pv (i+1) j σ H)=Pv (i+1) j σ H:=fun j σ H=>propext ⟨fun⟨_,_,_,_,q⟩=>q,fun q=>⟨n - (i+1),by omega,rfl,B,q⟩⟩;simp only[e];exact step x H' y
 ·have e:i=n:=by omega
  subst e;obtain⟨a,b⟩:=hd j σ H p;exact .inl ⟨a,b⟩
theorem A6 {q:Int}{n:Nat}(Pv:Nat->List V->St->Hp->Prop)(I:Pv 0 [] σ H)(G:∀i j σ H,i<n->Pv i j σ H->CStep g tt te (.int (q+i)) j σ H (Pv (i+1)))
  (hd:∀j σ H,Pv n j σ H->∀p,H p=none->Q (.ref p) (upd H p (.lst j))):oO (KY q n) g tt te Q σ H :=
 oG Pv I (fun i j σ H B p=>⟨B,fun x H' y=>by obtain⟨rfl,rfl⟩:=y;exact G i j σ _ B p⟩) fun j σ H p=>⟨Nat.le_refl _,hd j σ H p⟩
theorem DD {a:Addr}(xs:List V)(Pv:Nat->List V->St->Hp->Prop)(I:Pv 0 [] σ H)(q:∀i j σ H,i<=xs.length->Pv i j σ H->H a=some (.lst xs))
  (G:∀i x j σ H,xs[i]?=some x->Pv i j σ H->CStep g tt te x j σ H (Pv (i+1))) (hd:∀j σ H,Pv xs.length j σ H->∀p,H p=none->Q (.ref p) (upd H p (.lst j))):oO (OA K a) g tt te Q σ H :=
 oG (n:=xs.length) Pv I (fun i j σ H B p=>⟨⟨xs,xs[i],fA.of (q i j σ H (Nat.le_of_lt B) p),by simp[B]⟩,fun x H' y=>by obtain⟨rfl,y⟩:=y;exact G i x j σ _ (y xs (fA.of (q i j σ _ (Nat.le_of_lt B) p))) p⟩)
  fun j σ H p=>⟨⟨xs,fA.of (q _ j σ H (Nat.le_refl _) p),Nat.le_refl _⟩,hd j σ H p⟩
theorem GW {a:Addr}(xs:List V)(Pv:Nat->List V->St->Hp->Prop)(I:Pv 0 [] σ H)(q:∀i j σ H,i<=xs.length->Pv i j σ H->H a=some (.tup xs))
  (G:∀i x j σ H,xs[i]?=some x->Pv i j σ H->CStep g tt te x j σ H (Pv (i+1))) (hd:∀j σ H,Pv xs.length j σ H->∀p,H p=none->Q (.ref p) (upd H p (.lst j))):oO (N9 K a) g tt te Q σ H :=
 oG (n:=xs.length) Pv I (fun i j σ H B p=>⟨⟨xs,xs[i],hZ.of (q i j σ H (Nat.le_of_lt B) p),by simp[B]⟩,fun x H' y=>by obtain⟨rfl,y⟩:=y;exact G i x j σ _ (y xs (hZ.of (q i j σ _ (Nat.le_of_lt B) p))) p⟩)
  fun j σ H p=>⟨⟨xs,hZ.of (q _ j σ H (Nat.le_refl _) p),Nat.le_refl _⟩,hd j σ H p⟩
theorem OH {c:TT}(Pv:St->Hp->Prop)(μ:St->Hp->Nat)(L:Pv σ H)
  (G:∀σ H,Pv σ H->∃b:Bool,(∀R:Bool->Hp->Prop,R b H->c σ H R)/\(b=true->tb {D with nx:=fun j H'=>Pv j H'/\μ j H'<μ σ H,ct:=fun j H'=>Pv j H'/\μ j H'<μ σ H,bk:=D.nx} σ H)/\(b=false->D.nx σ H)):wX c tb D σ H:=by
 refine⟨fun m σ H=>m=μ σ H/\Pv σ H,⟨_,rfl,L⟩,?_⟩;rintro m σ H ⟨rfl,p⟩;obtain⟨b,hc,B,I⟩:=G σ H p;refine hc _ ?_;cases b with
 | true=>exact⟨_,fun j H' ⟨q,l⟩=>⟨_,l,rfl,q⟩,B rfl⟩
 | false=>exact I rfl
theorem C0 {n:Nat}{i:Int}(q:0<=i)(j:i<n):ixN n i=some i.toNat:=by unfold ixN;rw[if_pos q,if_pos j]
theorem jM {α:Type}{xs:List α}{i:Int}(q:0<=i)(j:i<xs.length):atI xs i=xs[i.toNat]?:=by unfold atI;rw[C0 q j];rfl
theorem atI_zero {α:Type}{a:α}{xs:List α}:atI (a::xs) 0=some a:=by rw[jM (by decide) (by simp only[List.length_cons];omega)];rfl
theorem atI_one {α:Type}{a b:α}{xs:List α}:atI (a::b::xs) 1=some b:=by rw[jM (by decide) (by simp only[List.length_cons];omega)];rfl
theorem ixN_zero {n:Nat}:ixN (n+1) 0=some 0:=by rw[C0 (by decide) (by omega)];rfl
theorem ixN_one {n:Nat}:ixN (n+1+1) 1=some 1:=by rw[C0 (by decide) (by omega)];rfl
end
theorem aH.upd {H:Hp}{a:Addr}{o:HO}(h:H a=none):aH H (upd H a o):=fun b u e=>by rw[aB (aE e h)];exact e
noncomputable def bT (p:Addr)(H H':Hp):Prop:=∀b o,b≠p->H b=some o->H' b=some o
theorem bT.refl (p:Addr)(H:Hp):bT p H H:=fun _ _ _ h=>h
theorem bT.trans {p:Addr}{H q j:Hp}(a:bT p H q)(b:bT p q j):bT p H j:=fun c o n h=>b c o n (a c o n h)
theorem bT.upd (p:Addr)(H:Hp)(o:HO):bT p H (upd H p o):=fun c u n h=>by rw[aB n];exact h
theorem bT.new {p a:Addr}{H:Hp}{o:HO}(h:H a=none):bT p H (L2.upd H a o):=fun c u n e=>by rw[aB (aE e h)];exact e
theorem aH.but {p:Addr}{H H':Hp}(s:aH H H'):bT p H H':=fun b o _ h=>s b o h
end L2
namespace L2
open PySem PySem.Spec PyProof.Rows PyProof.Rows.LSm
section
variable {X:Cx}
theorem qO:∀{bs:List Bool} {us:bZ},aR (bs.map V.bl) us->BoolsAre us bs
 | [],_,r=>by cases r;exact .nil
 | b::bs,_,r=>by
  cases r with
  | cons r1 j=>cases r1;exact .cons b (qO j)
theorem C1 {prog:Program}{w:World}{A:Around}{E:cE}{s:Shared}{p:Addr}{its:bZ}{bs:List Bool}(d:Bool){K:Bool->Shared->Prop}{j:Nat->(Nat->Bool)->Bool}(U:A.handled=none)(at_:s.heap.IsList p its.toArray)(B:BoolsAre its bs)
  (k:∀h' tk,(∀b x,s.heap.get? b=some x->h'.get? b=some x)->K (j bs.length fun i=>(bs[i]?).getD d) {s with heap:=h',toks:=tk}) :
  wpAny (model prog w) A (pyIter (.ref p)) (fun it t=>∃I fp L n P St tr,it = .ref I/\Walks prog w A I fp L n P St/\St 0 t.heap/\TruthOf prog w A P tr /\
   ∀h' tk,(∀b x,b∉L->t.heap.get? b=some x->h'.get? b=some x)->K (j n tr) {t with heap:=h',toks:=tk}) E s:=by
 have ne:p≠s.heap.objs.size:=let⟨_,e,_⟩:=id at_;Nat.ne_of_lt (Heap.lt_size e);have q:TruthOf prog w A (fun i v=>its.toArray[i]?=some v) fun i=>(bs[i]?).getD d:=by intro i v t Q X N G;obtain⟨b,is,rfl⟩:=LSm.BoolsAre.get B i v (by simpa using N);have G:Q ((bs[i]?).getD d) t:=G;rw[is]at G;exact wpAny_truthy_bool G
 have len:its.toArray.size=bs.length:=(List.size_toArray ..).trans (LSm.BoolsAre.length B);refine wpAny_pyIter_list at_ ⟨_,_,_,_,_,_,_,rfl,Walks.list U s.heap.objs.size p ne its.toArray,?_,q,fun h' tk S=>?_⟩
 ·exact aI ⟨_,Heap.get?_push_size _ rfl,rfl,rfl⟩ (at_.push _)
 ·rw[len];exact k h' tk (LSm.kept_iter S)
noncomputable def rAll:List V->Hp->VK->Prop:=fun xs H Q=>∃(p:Addr) (bs:List Bool),xs=[.ref p]/\H p=some (.lst (bs.map V.bl))/\Q (.bl (bs.all id)) H
noncomputable def rAny:List V->Hp->VK->Prop:=fun xs H Q=>∃(p:Addr) (bs:List Bool),xs=[.ref p]/\H p=some (.lst (bs.map V.bl))/\Q (.bl (bs.any id)) H
noncomputable def rSum:List V->Hp->VK->Prop:=fun xs H Q=>∃(p:Addr) (ns:List Int),xs=[.ref p]/\H p=some (.lst (ns.map V.int))/\Q (.int ns.sum) H
theorem tT (hc:X.calm=true){nm:String}{B:Nat->(Nat->Bool)->Bool}{j:List Bool->Bool}(d:Bool)(is:∀bs:List Bool,B bs.length (fun i=>(bs[i]?).getD d)=j bs)
  (ask:∀{s:Shared} {x:Value} {Q E:cE},wpAny (model X.prog X.w) X.A.in1 (pyIter x) (fun it t=>∃I fp L n P St tr,it = .ref I/\Walks X.prog X.w X.A.in1 I fp L n P St/\St 0 t.heap/\TruthOf X.prog X.w X.A.in1 P tr /\
   ∀h' tk,(∀b x,b∉L->t.heap.get? b=some x->h'.get? b=some x)->Q (.bool (B n tr)) {t with heap:=h',toks:=tk}) E s->wpAny (model X.prog X.w) X.A (call (.builtin nm) [x]) Q E s) :
  cT X (.builtin nm) fun xs H Q=>∃(p:Addr) (bs:List Bool),xs=[.ref p]/\H p=some (.lst (bs.map V.bl))/\Q (.bl (j bs)) H:=by
 rintro G s σ H _ us Q I r ⟨p,bs,rfl,S,q⟩;obtain⟨u,rfl,e⟩:=vals1 r;cases e;obtain⟨its,N,pl,_⟩:=I.list (fA.of S);refine ask (C1 (K:=fun b t=>EP X G σ Q (.bool b) t) d (show X.A.in1.handled=none from I.ok.hd hc) pl.isList (qO N) fun h' tk U=>?_);rw[is bs];exact⟨.bl (j bs),H,I.kept (t':=tk) U,rfl,q⟩
theorem pZ (hc:X.calm=true):cT X (.builtin "all") rAll:=tT hc true LSm.range_all call_all_walk
theorem G4 (hc:X.calm=true):cT X (.builtin "any") rAny:=tT hc false LSm.range_any call_any_walk
theorem G0 (hc:X.calm=true):cT X (.builtin "max") (fun xs H Q=>∃i j,xs=[.int i,.int j]/\Q (.int (if j > i then j else i)) H):=G1 hc
theorem wK (hc:X.calm=true):cT X (.builtin "min") (fun xs H Q=>∃i j,xs=[.int i,.int j]/\Q (.int (if j<i then j else i)) H):=GZ hc
end
end L2
namespace L2
open PySem PySem.Spec PyProof.Rows
section
variable {X:Cx}{pins:cW}{σ:St}{H:Hp}{s:Shared}{h':Heap}
theorem aO.turnedL {t':Nat}{ch:List Addr}(I:aO X pins σ H s)(k:∀b o,b∉ch->s.heap.get? b=some o->h'.get? b=some o)(B:∀b∈ch,fK X pins H b):aO X pins σ H {s with heap:=h',toks:=t'}:=by
 have j:∀b u,H b=some u->b∉ch:=fun b u e z=>by rw[(B b z).1]at e;cases e
 have hL:X.env.locals∉ch:=fun z=>(B _ z).2.1 rfl;refine I.step (g':=s.gens) (d':=s.drawn) (ch:=ch) (fun b L=>?_) (fun b o _ _ hc e _=>k b o hc e) (fun b o _ _ hc e _=>⟨o.slots,k b o hc e⟩) (fun _ _ _ _ n=>n)
  (fun b o hc e=>⟨o,k b o hc e⟩) (fun _ _ e=>e) (fun _ _ _ e=>e) (fun b ps e=>⟨#[],by rw[e];simp⟩) (fun m G=>?_) (fun b u e=>?_) I.bare
 ·obtain⟨f0,f1,f2,f3,f4,N⟩:=B b L;exact⟨f3,f1,f4,N⟩
 ·obtain⟨o,S,U,ho,r⟩:=G;exact⟨o,S,U,k _ o hL ho,r⟩
 ·refine(I.hok b u e).stay (fun c v hc q=>k c v ?_ q) (fun _ q=>q) fun _ _ q=>q;rcases hc with z|z
  ·rw[z];exact j b u e
  ·exact j c _ z
theorem aO.turnedLaid {t':Nat}{ch:List Addr}{T:Addr}{o:HO}(I:aO X pins σ H s)(k:∀b o,b∉ch->s.heap.get? b=some o->h'.get? b=some o)(N:∀b∈ch,fK X pins H b)
  (S:s.heap.objs.size<=T) (new:bY X.prog X.w (upd H T o) h' T o):aO X pins σ (upd H T o) {s with heap:=h',toks:=t'}:=by
 have B:H T=none:=I.hok.fresh S;have j:∀b u,H b=some u->b∉ch:=fun b u e z=>by rw[(N b z).1]at e;cases e
 have hL:X.env.locals∉ch:=fun z=>(N _ z).2.1 rfl;have lt:∀b G,s.heap.get? b=some G->b≠T:=fun b G e=>Nat.ne_of_lt (Nat.lt_of_lt_of_le (Heap.lt_size e) S);refine I.step (g':=s.gens) (d':=s.drawn) (ch:=ch) (fun b L=>?_) (fun b o _ _ hc e _=>k b o hc e) (fun b o _ _ hc e _=>⟨o.slots,k b o hc e⟩) (fun b G _ e n=>by rw[aB (lt b G e)];exact n)
  (fun b o hc e=>⟨o,k b o hc e⟩) (fun b xs e=>by rw[aB (aE e B)];exact e) (fun b _ _ e=>by rw[aB (aE e B)];exact e) (fun b ps e=>⟨#[],by rw[aB (aE e B),e];simp⟩) (fun m U=>?_) (fun b u e=>?_) I.bare
 ·obtain⟨f0,f1,f2,f3,f4,Z⟩:=N b L;exact⟨f3,f1,f4,Z⟩
 ·obtain⟨o,es,ep,ho,r⟩:=U;exact⟨o,es,ep,k _ o hL ho,r⟩
 ·by_cases L:b=T
  ·subst L;rw[upd_same]at e;cases e;exact new
  ·rw[aB L]at e;refine(I.hok b u e).stay (fun c v hc q=>k c v ?_ q) (fun c q=>by rw[aB (aE q B)];exact q) fun c xs q=>by rw[aB (aE q B)];exact q
   rcases hc with z|z
   ·rw[z];exact j b u e
   ·exact j c _ z
end
noncomputable def SH (K:PySem.W.Frag)(a b:Addr):It :=
 ⟨fun i H=>∃xs ys x y,fA K H a xs/\fA K H b ys/\xs[i]?=some x/\ys[i]?=some y,
  fun i H z H'=>∃T x y,z = .ref T/\H T=none/\H'=upd H T (.tup [x,y])/\∀xs ys,fA K H a xs->fA K H b ys->xs[i]?=some x/\ys[i]?=some y,
  fun i H=>∃xs ys,fA K H a xs/\fA K H b ys/\(xs.length<=i∨ys.length<=i)⟩
structure ZipAt (z TI TO i1 i2:Addr):Prop where
 TIz:TI≠z
 TOz:TO≠z
 i1z:i1≠z
 i2z:i2≠z
 TITO:TI≠TO
 TIi1:TI≠i1
 TIi2:TI≠i2
 TOi1:TO≠i1
 TOi2:TO≠i2
 i12:i1≠i2
section
variable {X:Cx}{elts:kU}{tk0:_}{tpos:Pos}
noncomputable def iZip (K:PySem.W.Frag)(q:TA):TI:=fun σ H R=>q σ H fun vs j=>∃a b,vs=[.ref a,.ref b]/\(∃xs,fA K j a xs)/\(∃ys,fA K j b ys)/\R (SH K a b) j
end
noncomputable def QR (J:It)(g:TG)(I:TT)(L:TE)(Fin:List V->St->Hp->Prop)(W:CW):Prop:=∀i m j σ H,W i m j σ H ->
 (J.stop i H/\Fin j σ H) ∨
 (J.go i H/\∀x H',J.yld i H x H'->g x σ H' fun B S=>I B S fun b G =>
  if b=true then L B G fun y N=>j.length<sizeLine/\∃q,q<m/\W (i+1) q (j++[y]) B N else ∃q,q<m/\W (i+1) q j B G)
noncomputable def SK (J:It)(g:TG)(q:TT)(B:TE)(Fin:List V->St->Hp->Prop)(j:List V)(σ:St)(H:Hp):Prop:=∃W:CW,(∃m,W 0 m j σ H)/\QR J g q B Fin W
noncomputable def KS (J:It)(Z:TG)(B:TI)(U:TG)(N:TT)(S:TE)(Q:VK)(σ:St)(H1:Hp):Prop:=∃W:CW,(∃m,W 0 m [] σ H1)/\∀i m j σ H,W i m j σ H ->
 (J.stop i H/\∀p,H p=none->Q (.ref p) (upd H p (.lst j))) ∨
 (J.go i H/\∀x H',J.yld i H x H'->Z x σ H' fun G H2=>B G H2 fun J2 H3=>SK J2 U N S (fun q L H4=>∃I,I<m/\W (i+1) I q L H4) j G H3)
noncomputable def OV (src:List (Option Nat))(q:TI)(L:TG)(j:TI)(I:TG)(B:TT)(G:TE):TE:=fun σ H Q=>q σ H fun J N=>KS J L j I B G Q (stC src σ) N
end L2
namespace L2
open PySem PySem.Spec PyProof.Rows
open PySem.AutoSeq1 (wpAny_loadPart')
open PySem.MeetsSeq PySem.MeetsSeq2 PySem.MeetsSeq3
noncomputable def DN (items:i4)(i:Nat)(ns:List Int):Prop:=i<=items.size/\IntsAre (items.toList.drop i) ns
theorem DN.end_ {items:i4}{i:Nat}(h:DN items i []):items.size=i/\items[i]?=none:=by obtain⟨q,j⟩:=h;have e:=j.length;rw[List.length_drop,Array.length_toList,List.length_nil]at e;exact⟨by omega,Array.getElem?_eq_none (by omega)⟩
theorem DN.next {items:i4}{i:Nat}{a:Int}{ns:List Int}(h:DN items i (a::ns)):i<items.size/\(∃t,items[i]?=some (.int a t))/\DN items (i+1) ns:=by
 obtain⟨G,j⟩:=h;generalize e:items.toList.drop i=us at j;cases j with
 | cons _ t r =>
  have lt:i<items.toList.length:=by have z:=congrArg List.length e;rw[List.length_drop,List.length_cons]at z;omega
  rw[List.drop_eq_getElem_cons lt]at e;injection e with B q;rw[Array.length_toList]at lt;refine⟨lt,⟨t,?_⟩,lt,q ▸ r⟩;rw[Array.getElem?_eq_getElem lt,←B];rfl
noncomputable abbrev y6 (l b:Addr)(ol ob:Obj)(xs ys:List Int):PySem.Spec:=fun _ R s=>s.heap.get? l=some ol/\s.heap.get? b=some ob/\R (.ok (.ret (.bool (HT.lexLt xs ys)))) s
noncomputable abbrev ltAsk (l b:Addr)(i:Nat):Args:=⟨[.ref l,.ref b,rawInt i,rawInt 0],[]⟩
theorem AI {l b:Addr}{ol j:Obj}{xs ys:List Int}{i:Nat}{prog:Program}{w:World}{A:Around}{R:Result->Shared->Prop}{s:Shared}(m:Meets (Builtin.«list.__eq__.loop» (ltAsk l b i)) (y6 l b ol j xs ys))(h:y6 l b ol j xs ys A R s) :
  (Code.builtin "list.__eq__.loop" (ltAsk l b i)).quiet=true/\codeAny (model prog w) A (.builtin "list.__eq__.loop" (ltAsk l b i)) R s:=by
 refine⟨plainId_quiet plain_eq_loop (ltAsk l b i),codeAny_builtin entry_eq_loop ?_⟩;have u:=A.under_plainId plain_eq_loop (ltAsk l b i);rw[u];exact m prog w A R s h
theorem EA (l b:Addr)(us vs:i4)(n k:Nat)(du dv:Option Addr)(Z U:Array (Option Value)):∀(xs ys:List Int) (i:Nat),DN us i xs->DN vs i ys ->
  Meets (Builtin.«list.__eq__.loop» (ltAsk l b i)) (y6 l b {cls:=.type "list",dict:=du,data:=.seq us n,slots:=Z} {cls:=.type "list",dict:=dv,data:=.seq vs k,slots:=U} xs ys)
 | [],ys,i,f,g=>by
  rintro prog w A R ⟨N,S,d,tk,os⟩ ⟨j,q,h⟩;obtain⟨z,no⟩:=f.end_;have B:HT.lexLt [] ys=decide (us.size<vs.size):=by
   cases ys with
   | nil=>exact(decide_eq_false (by rw[z,(g.end_).1];exact Nat.lt_irrefl _)).symm
   | cons y r=>exact(decide_eq_true (by rw[z];exact(g.next).1)).symm
  rw[B]at h
  wp_walk using wpAny_loadPart' j,wpAny_loadPart' q
  rw[show((i:Nat):Int).toNat=i from rfl,no];cases vs[i]? <;> wp_walk using wpAny_loadPart' j,wpAny_loadPart' q <;> exact h
 | x::xs,[],i,f,g=>by
  rintro prog w A R ⟨N,S,d,tk,os⟩ ⟨j,q,h⟩;obtain⟨z,no⟩:=g.end_;obtain⟨lt,⟨t,is⟩,_⟩:=f.next
  have B:HT.lexLt (x::xs) []=decide (us.size<vs.size):=(decide_eq_false (by omega)).symm;rw[B]at h
  wp_walk using wpAny_loadPart' j,wpAny_loadPart' q
  rw[show((i:Nat):Int).toNat=i from rfl,no,is]
  wp_walk using wpAny_loadPart' j,wpAny_loadPart' q
  exact h
 | x::xs,y::ys,i,f,g=>by
  have go:=EA l b us vs n k du dv Z U xs ys (i+1) (f.next).2.2 (g.next).2.2;rintro prog w A R ⟨N,S,d,tk,os⟩ ⟨j,q,h⟩;obtain⟨_,⟨t,I⟩,_⟩:=f.next
  obtain⟨_,⟨t',isV⟩,_⟩:=g.next
  wp_walk using wpAny_loadPart' j,wpAny_loadPart' q
  rw[show((i:Nat):Int).toNat=i from rfl,I,isV];obtain⟨e,asked,iff⟩:=HT.eqAt_int A.in1 ⟨N,S,d,tk,os⟩ x t y t';refine wpAny_bind (asked prog w _ _ ?_);by_cases L:x=y
  ·rw[HT.lexLt_cons,if_pos L]at h;rw[iff.mpr L]
   wp_walk
   exact AI go ⟨j,q,h⟩
  ·rw[HT.lexLt_cons,if_neg L]at h;have e0:e=false:=by cases e with|false=>rfl|true=>exact absurd (iff.mp rfl) L
   subst e0;have G:=HT.rcLt_int A.in1 ⟨N,S,d,tk,os⟩ x t y t' prog w
   wp_walk using wpAny_loadPart' j,wpAny_loadPart' q
   rw[I,isV]
   wp_walk using G
   exact h
theorem x8 (l b:Addr)(us vs:i4)(n k:Nat)(L I:Option Addr)(G B:Array (Option Value))(xs ys:List Int)(S:IntsAre us.toList xs)(N:IntsAre vs.toList ys) :
  Meets (Builtin.«list.__lt__» ⟨[.ref l,.ref b],[]⟩) (y6 l b {cls:=.type "list",dict:=L,data:=.seq us n,slots:=G} {cls:=.type "list",dict:=I,data:=.seq vs k,slots:=B} xs ys):=by
 have go:=EA l b us vs n k L I G B xs ys 0 ⟨Nat.zero_le _,S⟩ ⟨Nat.zero_le _,N⟩;rintro prog w A R ⟨U,Z,d,tk,os⟩ ⟨j,q,h⟩;have kind:=AutoSeq1.sub_list_list
 wp_walk using wpAny_loadPart' j,wpAny_loadPart' q
 exact AI go ⟨j,q,h⟩
section
variable {prog:Program}{w:World}{A:Around}{E:cE}{s:Shared}
theorem AH {l b:Addr}{items j:i4}{ns q:List Int}{Q:cE}(hl:s.heap.IsList l items)(hb:s.heap.IsList b j)(hi:IntsAre items.toList ns)(hj:IntsAre j.toList q)
  (hu:A.units<cLine) (h:Q (.bool (HT.lexLt ns q)) s):wpAny (model prog w) A (compareOp .Lt (.ref l) (.ref b)) Q E s:=by
 obtain⟨⟨cls,dd,data,Z⟩,ho,hc,n,hd⟩:=id hl;obtain⟨⟨U,N,S,L⟩,B,I,n2,G⟩:=id hb;simp only at hc hd I G;subst hc hd I G;exact richCompare_meets_room (op:=.Lt) ⟨_,ho,rfl⟩ ⟨_,B,rfl⟩ PySem.F.slot_list_lt PySem.F.entry_list_lt (PySem.F.args_list_lt_2 _ _) (x8 l b items j n n2 dd N Z L ns q hi hj)
  ⟨ho,B,show Value.bool (HT.lexLt ns q)≠Value.notImplemented/\Q (.bool (HT.lexLt ns q)) s from⟨(fun x=>nomatch x),h⟩⟩ hu
end
section
variable {X:Cx}
noncomputable def rLtL:R2:=fun x y H Q=>∃a b ns j,x = .ref a/\y = .ref b/\H a=some (.lst (ns.map V.int))/\H b=some (.lst (j.map V.int))/\Q (.bl (HT.lexLt ns j)) H
theorem PC (hu:X.A.units<cLine):i5 X (compareOp .Lt) rLtL:=by intro j s σ H x y v u Q I L G h;obtain⟨a,b,ns,B,rfl,rfl,ha,hb,q⟩:=h;cases L;cases G;obtain⟨its,r1,U,_⟩:=I.list (fA.of ha);obtain⟨its2,N,S,_⟩:=I.list (fA.of hb);have i1:IntsAre its.toArray.toList ns:=tB r1;have Z:IntsAre its2.toArray.toList B:=tB N;exact AH U.isList S.isList i1 Z hu ⟨.bl (HT.lexLt ns B),H,I,rfl,q⟩
end
end L2
namespace L2
open PySem PySem.Spec PyProof.Rows
section
variable {X:Cx}{pos:Pos}
theorem LQ {i j:Nat}{x y:Str}{L I:Pos}{k:_}(hc:X.calm=true)(G:X.N.Nodup)(U:X.N[i]?=some x)(S:X.N[j]?=some y)(B:X.env.scope.names.lookup x=some .local)(q:X.env.scope.names.lookup y=some .local) :
  PG X (.Tuple [.Name x L,.Name y I] k pos) (gTup X.K 2 (gCons (gName i) (gCons (gName j) gNil))) :=
 IH hc (nX (bQ G U (.inl B) (.inr B)) (nX (bQ G S (.inl q) (.inr q)) D2))
end
section
variable {g g1 g2:TG}{tb:TS}{D:iN}{σ:St}{H:Hp}{tt:TT}{te:TE}{Q:VK}{K:PySem.W.Frag}{wi2:TI}{acc:List V}{Fin:List V->St->Hp->Prop}
theorem tComp2_eq {src:List (Option Nat)}{j:TI}{σ:St}{H:Hp}{Q:VK}:OV src j g1 wi2 g2 tt te σ H Q=j σ H fun J q=>KS J g1 wi2 g2 tt te Q (stC src σ) q:=rfl
end
section
variable {X:Cx}
theorem jH (q:X.A.units+64<cLine):i5 X (compareOp .Lt) (fun x y H Q=>(rI0 (fun i j=>.bl (decide (i<j))) x y H Q∨(∃i j,x = .str i/\y = .str j/\Q (.bl (decide (i.cps.toList<j.cps.toList))) H))∨rLtL x y H Q) :=
 (Q0.or FO).or (PC (by omega))
end
section
variable {H:Hp}{a p:Addr}{xs:List V}{Q:VK}{K:PySem.W.Frag}
theorem rIs_eq {x c:V}:rIs [x,c] H Q = ∃b,isV H x c=some b/\Q (.bl b) H:=propext ⟨fun⟨j,B,b,e,h,q⟩=>by cases e;exact⟨b,h,q⟩,fun⟨b,h,q⟩=>⟨x,c,b,rfl,h,q⟩⟩
theorem truV_bl {b k:Bool}:NM K (.bl b) H k=(k=b):=rfl
theorem isV_ii {n:Int}:isV H (.int n) (.ty "int")=some true:=rfl
theorem isV_ib {n:Int}:isV H (.int n) (.ty "bool")=some false:=rfl
theorem isV_bb {n:Bool}:isV H (.bl n) (.ty "bool")=some true:=rfl
theorem isV_ll (h:H a=some (.lst xs)):isV H (.ref a) (.ty "list")=some true:=by unfold isV tyN;simp only[h];rfl
theorem isV_tl (h:H a=some (.tup xs)):isV H (.ref a) (.ty "list")=some false:=by unfold isV tyN;simp only[h];rfl
theorem JU (h:H a=some (.lst xs))(j:H p=some (.tup [.ty "list",.ty "tuple"])):isV H (.ref a) (.ref p)=some true:=by unfold isV tyN clsV;simp only[h,j];rfl
theorem JT (h:H a=some (.tup xs))(j:H p=some (.tup [.ty "list",.ty "tuple"])):isV H (.ref a) (.ref p)=some true:=by unfold isV tyN clsV;simp only[h,j];rfl
theorem lenV_l (h:H a=some (.lst xs)):lenV H (.ref a)=some xs.length:=by unfold lenV;simp only[h]
theorem lenV_t (h:H a=some (.tup xs)):lenV H (.ref a)=some xs.length:=by unfold lenV;simp only[h]
theorem seqV_l (h:H a=some (.lst xs)):seqV H (.ref a)=some xs:=by unfold seqV;simp only[h]
theorem seqV_t (h:H a=some (.tup xs)):seqV H (.ref a)=some xs:=by unfold seqV;simp only[h]
theorem ixV_l {i:Int}(h:H a=some (.lst xs)):ixV H (.ref a) (.int i)=atI xs i:=by unfold ixV;simp only[h]
theorem ixV_t {i:Int}(h:H a=some (.tup xs)):ixV H (.ref a) (.int i)=atI xs i:=by unfold ixV;simp only[h]
end
section
noncomputable def fL (H:Hp)(a:Addr)(xs:List V):Prop:=H a=some (.lst xs)∨H a=some (.tup xs)
theorem fL.same {H H':Hp}{a:Addr}{xs:List V}(h:fL H a xs)(s:aH H H'):fL H' a xs:=h.elim (fun e=>.inl (s _ _ e)) fun e=>.inr (s _ _ e)
variable {g:TG}{tt:TT}{te:TE}{Q:VK}{K:PySem.W.Frag}{σ:St}{H:Hp}
variable {tb:TS}{D:iN}
end
section
variable {X:Cx}{pos:Pos}{tg:Expr}
theorem cR (K:PySem.W.Frag)(Z:X.K=K){i j:Nat}{x y:Str}{B q:Pos}{k:_}(hc:X.calm=true)(U:X.N.Nodup)(S:X.N[i]?=some x)(L:X.N[j]?=some y)(I:X.env.scope.names.lookup x=some .local)(G:X.env.scope.names.lookup y=some .local) :
  PG X (.Tuple [.Name x B,.Name y q] k pos) (gTup K 2 (gCons (gName i) (gCons (gName j) gNil))):=by subst Z;exact LQ hc U S L I G
noncomputable def tTruth (K:PySem.W.Frag)(q:TE):TT:=fun σ H Q=>q σ H fun x j=>∃k,NM K x j k/\Q k j
theorem aX (K:PySem.W.Frag)(I:X.K=K){a:Expr}{q:TE}(G:PE X a q)(B:∀j,isTrue a X.env j=(do let v ←j;standAt a.pos;holding [v] (truthy v))):PT X a (tTruth K q):=by subst I;exact IE G B
end
noncomputable def NV (K:PySem.W.Frag)(a:Addr)(xs:List V)(J:It)(H:Hp):Prop:=(J=OA K a/\H a=some (.lst xs))∨(J=N9 K a/\H a=some (.tup xs))
noncomputable def iSq (K:PySem.W.Frag)(tl:TE):TI:=fun σ H R=>tl σ H fun x j=>∃a xs,x = .ref a/\fL j a xs/\∀J,NV K a xs J j->R J j
section
variable {X:Cx}{tg:Expr}
theorem dM (K:PySem.W.Frag)(hK:X.K=K){l:Expr}{tl:TE}(hl:PE X l tl):PI X tg l (iSq K tl):=by
 subst hK;intro G s σ H R I h;refine thn (hl G s σ H _ I h) fun v j ⟨x,S,B,r1,Z⟩=>?_;obtain⟨a,xs,e,hs,q⟩:=Z;subst e;cases r1;rcases hs with L|L
 ·obtain⟨its,U,p,hz⟩:=B.list (fA.of L);refine wpAny_pyIter_list p.isList ?_;refine⟨j.heap.objs.size,[j.heap.objs.size],_,_,S,rfl,B.kept (t':=j.toks) fun b o e=>Heap.get?_push_of_some _ e,E6 a _,⟨_,Heap.get?_push_size _ rfl,rfl,rfl⟩,fun b N=>?_,q _ (.inl ⟨rfl,L⟩)⟩;have e:b=j.heap.objs.size:=by simpa using N
  subst e;exact B.fpOk (Nat.le_refl _) (B.hok.fresh (Nat.le_refl _))
 ·obtain⟨its,U,p,hz⟩:=B.tuple (hZ.of L);refine wpAny_pyIter_tuple (show j.heap.IsTuple a its.toArray from p) ?_;refine⟨j.heap.objs.size,[j.heap.objs.size],_,_,S,rfl,B.kept (t':=j.toks) fun b o e=>Heap.get?_push_of_some _ e,BO a _,⟨_,Heap.get?_push_size _ rfl,rfl,rfl⟩,fun b N=>?_,q _ (.inr ⟨rfl,L⟩)⟩;have e:b=j.heap.objs.size:=by simpa using N
  subst e;exact B.fpOk (Nat.le_refl _) (B.hok.fresh (Nat.le_refl _))
end
section
variable {g g1 g2:TG}{tb:TS}{D:iN}{σ:St}{H:Hp}{tt:TT}{te:TE}{Q:VK}{K:PySem.W.Frag}{wi2:TI}{J:It}{a:Addr}{xs:List V}
theorem jF (L:NV K a xs J H)(Pv:Nat->St->Hp->Prop)(G:Pv 0 σ H)(B:∀i σ H',i<=xs.length->Pv i σ H'->H' a=H a)
  (q:∀i x σ H,xs[i]?=some x->Pv i σ H->g x σ H fun I N=>tb {D with nx:=Pv (i+1),ct:=Pv (i+1),bk:=D.nx} I N) (hd:∀σ H,Pv xs.length σ H->D.nx σ H):q8 J g tb D σ H:=by
 rcases L with⟨rfl,e⟩|⟨rfl,e⟩
 ·exact GO xs Pv G (fun i σ H' j p=>(B i σ H' j p).trans e) q hd
 ·exact JY xs Pv G (fun i σ H' j p=>(B i σ H' j p).trans e) q hd
theorem dP (L:NV K a xs J H)(Pv:Nat->List V->St->Hp->Prop)(I:Pv 0 [] σ H)(G:∀i j σ H',i<=xs.length->Pv i j σ H'->H' a=H a)
  (B:∀i x j σ H,xs[i]?=some x->Pv i j σ H->CStep g tt te x j σ H (Pv (i+1))) (hd:∀j σ H,Pv xs.length j σ H->∀p,H p=none->Q (.ref p) (upd H p (.lst j))):oO J g tt te Q σ H:=by
 rcases L with⟨rfl,e⟩|⟨rfl,e⟩
 ·exact DD xs Pv I (fun i j σ H' q p=>(G i j σ H' q p).trans e) B hd
 ·exact GW xs Pv I (fun i j σ H' q p=>(G i j σ H' q p).trans e) B hd
end
noncomputable def rSlU:V->Option Int->Option Int->Hp->VK->Prop:=fun x j q H Q=>∃a xs,x = .ref a/\fL H a xs/\((∃ys,H a=some (.tup ys))->¬(HT.sIx xs.length 0 j=0/\HT.sIx xs.length xs.length q=xs.length)) /\
 ∀p o,H p=none->(o = .lst (cutV xs j q)/\H a=some (.lst xs)∨o = .tup (cutV xs j q)/\H a=some (.tup xs))->Q (.ref p) (upd H p o)
theorem kX {X:Cx}:Q9 X rSlU:=by
 intro j s σ H x v N L lo hi S Q I U hs pl Z h;obtain⟨a,xs,rfl,B|B,hw,q⟩:=h
 ·exact K8 j s σ H _ v N L lo hi S Q I U hs pl Z ⟨a,xs,rfl,fA.of B,fun p G=>q p _ G (.inl ⟨rfl,B⟩)⟩
 ·exact OY j s σ H _ v N L lo hi S Q I U hs pl Z ⟨a,xs,rfl,hZ.of B,hw ⟨_,B⟩,fun p G=>q p _ G (.inr ⟨rfl,B⟩)⟩
section
variable {H:Hp}{Q:VK}
theorem rEqD_ii {i j:Int}:rEqD (.int i) (.int j) H Q=Q (.bl (decide (i=j))) H:=by
 have e:eqD (.int i) (.int j)=decide (i=j):=by show(i == j)=_;rw[Bool.eq_iff_iff];simp
 refine propext ⟨fun⟨d,I,G,B,_,q⟩=>?_,fun q=>⟨.int i,.int j,rfl,rfl,Nat.zero_le _,by rw[e];exact q⟩⟩;have N:d = .int i:=bD.inj G (show bD H (.int i) (.int i)from rfl);have L:I = .int j:=bD.inj B (show bD H (.int j) (.int j)from rfl);rw[N,L,e]at q;exact q
theorem rNeD_ii {i j:Int}:rNeD (.int i) (.int j) H Q=Q (.bl (!decide (i=j))) H:=by
 have e:eqD (.int i) (.int j)=decide (i=j):=by show(i == j)=_;rw[Bool.eq_iff_iff];simp
 refine propext ⟨fun⟨d,I,G,B,_,q⟩=>?_,fun q=>⟨.int i,.int j,rfl,rfl,Nat.zero_le _,by rw[e];exact q⟩⟩;have N:d = .int i:=bD.inj G (show bD H (.int i) (.int i)from rfl);have L:I = .int j:=bD.inj B (show bD H (.int j) (.int j)from rfl);rw[N,L,e]at q;exact q
theorem rEqD_ss {i j:Str}:rEqD (.str i) (.str j) H Q=Q (.bl (decide (i=j))) H:=by
 have e:eqD (.str i) (.str j)=decide (i=j):=by show(i == j)=_;rw[Bool.eq_iff_iff];simp
 refine propext ⟨fun⟨d,I,G,B,_,q⟩=>?_,fun q=>⟨.str i,.str j,rfl,rfl,Nat.zero_le _,by rw[e];exact q⟩⟩;have N:d = .str i:=bD.inj G (show bD H (.str i) (.str i)from rfl);have L:I = .str j:=bD.inj B (show bD H (.str j) (.str j)from rfl);rw[N,L,e]at q;exact q
theorem rNeD_ss {i j:Str}:rNeD (.str i) (.str j) H Q=Q (.bl (!decide (i=j))) H:=by
 have e:eqD (.str i) (.str j)=decide (i=j):=by show(i == j)=_;rw[Bool.eq_iff_iff];simp
 refine propext ⟨fun⟨d,I,G,B,_,q⟩=>?_,fun q=>⟨.str i,.str j,rfl,rfl,Nat.zero_le _,by rw[e];exact q⟩⟩;have N:d = .str i:=bD.inj G (show bD H (.str i) (.str i)from rfl);have L:I = .str j:=bD.inj B (show bD H (.str j) (.str j)from rfl);rw[N,L,e]at q;exact q
theorem rG {a b:Addr}{xs ys:List V}(q:H a=some (.lst xs))(j:H b=some (.lst ys))(hz:xs.length+ys.length<=sizeLine):catO H (.ref a) (.ref b)=some (.lst (xs++ys)):=by unfold catO;simp only[q,j];rw[if_pos hz]
theorem catO_i {i:Int}{y:V}:catO H (.int i) y=none:=by cases y <;> rfl
theorem catO_s {i:Str}{y:V}:catO H (.str i) y=none:=by cases y <;> rfl
end
noncomputable def rTupU:List V->Hp->VK->Prop:=fun xs H Q=>∃p ys,xs=[.ref p]/\fL H p ys/\∀l H',(H p=some (.tup ys)/\l=p/\H'=H∨H p=some (.lst ys)/\H l=none/\H'=upd H l (.tup ys))->Q (.ref l) H'
theorem gB {X:Cx}:cT X (.type "tuple") rTupU:=by
 refine uQ.imp fun xs H Q h=>?_;obtain⟨p,ys,rfl,j|j,q⟩:=h
 ·exact⟨p,ys,rfl,.inl ⟨fA.of j,fun l B=>q l _ (.inr ⟨j,B,rfl⟩)⟩⟩
 ·exact⟨p,ys,rfl,.inr ⟨hZ.of j,q p _ (.inl ⟨j,rfl,rfl⟩)⟩⟩
section
variable {X:Cx}{x:Str}{C:Addr}{np cpos pos:Pos}{e:Expr}{ta:TA}{E:XK}
noncomputable def tRaise (C:Addr)(E:XK)(j:TA):TS:=fun _ σ H=>j σ H fun vs q=>vs.length<=1000/\E (.ref C) none q
end
noncomputable abbrev Cx.tr (X:Cx)(pn:cW)(E:cE):Cx:={X with pn:=pn,xe:=E}
section
variable {X:Cx}{pins:cW}{σ:St}{H:Hp}{s:Shared}{e:Value}
theorem Cx.Ok.tr (ok:X.Ok)(pn:cW)(E:cE):(X.tr pn E).Ok :=
 ⟨ok.mod,ok.kind,ok.glob,ok.blt,ok.above,ok.inj,ok.has,ok.cab,ok.hd,ok.frames,ok.stk,ok.exf,ok.bs,ok.bsz,ok.noex,ok.exfs,ok.funs,ok.frf⟩
theorem aO.tr (I:aO X pins σ H s)(E:cE):aO (X.tr (X.pn++pins) E) [] σ H s:=⟨I.ok.tr _ E,I.os,I.bare,I.base,I.loc,I.cell,I.free,I.freeC,fun p j=>I.pin p (by simpa using j),I.hok,I.len⟩
theorem aO.untr {E:cE}{pl:cW}(ok:X.Ok)(I:aO (X.tr (X.pn++pins) E) pl σ H s):aO X pins σ H s:=⟨ok,I.os,I.bare,I.base,I.loc,I.cell,I.free,I.freeC,fun p j=>I.pin p (List.mem_append_left _ j),I.hok,I.len⟩
theorem SP.untr {D:iN}{f:Flow}{j:Shared}{E:cE}{pl:cW}(ok:X.Ok)(h:SP (X.tr (X.pn++pins) E) pl D f j):SP X pins D f j:=by
 cases f with
 | next=>obtain⟨σ,H,I,q⟩:=h;exact⟨σ,H,I.untr ok,q⟩
 | brk=>obtain⟨σ,H,I,q⟩:=h;exact⟨σ,H,I.untr ok,q⟩
 | cont=>obtain⟨σ,H,I,q⟩:=h;exact⟨σ,H,I.untr ok,q⟩
 | ret v=>obtain⟨x,σ,H,I,r,q⟩:=h;exact⟨x,σ,H,I.untr ok,r,q⟩
end
section
variable {X:Cx}{x:Str}{C:Addr}{np hp pos:Pos}{EX:XK}{b0:Stmt}{suite body:List Stmt}{tb th:TS}
noncomputable def tTry (B:TS)(EX:XK)(q:TS):TS:=fun D σ H=>B D σ H/\∀cls d j H',EX cls d H'->q D j H'
end
noncomputable def SJ (K:PySem.W.Frag)(a:Addr):It :=
 ⟨fun i H=>∃xs x,fA K H a xs/\xs[i]?=some x,fun i H z H'=>∃T x,z = .ref T/\H T=none/\H'=upd H T (.tup [.int i,x])/\∀xs,fA K H a xs->xs[i]?=some x,fun i H=>∃xs,fA K H a xs/\xs.length<=i⟩
noncomputable def iEnum (K:PySem.W.Frag)(q:TA):TI:=fun σ H R=>q σ H fun vs j=>∃a,vs=[.ref a]/\(∃xs,fA K j a xs)/\R (SJ K a) j
noncomputable def jN (h:Heap)(i a:Addr)(k:Nat):Prop:=h.IsListIter i a k∨h.IsTupleIter i a k
noncomputable def qE (h:Heap)(a:Addr)(xs:i4):Prop:=∃o n,h.get? a=some o/\o.data = .seq xs n
theorem jN.at {h h':Heap}{i a:Addr}{k:Nat}(x:jN h i a k)(e:∀o,h.get? i=some o->h'.get? i=some o):jN h' i a k:=x.elim (fun y=>.inl (y.at e)) fun y=>.inr (y.at e)
theorem qE.at {h h':Heap}{a:Addr}{xs:i4}(x:qE h a xs)(e:∀o,h.get? a=some o->h'.get? a=some o):qE h' a xs:=by obtain⟨o,n,ho,hd⟩:=x;exact⟨o,n,e o ho,hd⟩
theorem jN.obj {h:Heap}{i a:Addr}{k:Nat}(x:jN h i a k):∃o,h.get? i=some o/\o.data = .fields #[.ref a,.int k 0]:=by
 rcases x with⟨o,e,_,d⟩|⟨o,e,_,d⟩
 ·exact⟨o,e,d⟩
 ·exact⟨o,e,d⟩
section
variable {prog:Program}{w:World}{A:Around}{E:cE}{s:Shared}{it l:Addr}{i:Nat}{items:i4}
theorem lY {T id:String}{b:Builtin}{Q:cE}(kind:s.TypeIs (.ref it) T)(slot:Slot T "__next__" id)(j:entryFor table id=some b)(args:argsOk id ⟨[.ref it],[]⟩)
  (h:wpAny (model prog w) A.in1 (b ⟨[.ref it],[]⟩) (fun f t=>∃v,f = .done (.ret v)/\Q v t) E s):wpAny (model prog w) A (Builtin.SmallTypes.nextOf (.ref it)) Q E s:=by
 have asked:wpAny (model prog w) A (callSpecial? (.ref it) "__next__") (fun r t=>∃v,r=some v/\Q v t) E s :=
  wpAny_callSpecial?_slot kind slot (wpAny_call_entry slot kind j (thn h fun f t ⟨v,e,q⟩=>⟨v,e,v,rfl,q⟩) args)
 refine wpAny_bind (thn asked ?_);rintro _ t ⟨v,rfl,q⟩;exact wpAny_pure q
structure lH (prog:Program)(w:World)(A:Around)(E:cE)(s:Shared)(it l:Addr)(i:Nat)(items:i4):Prop where
 seq:∀(Q:cE),Q (.ref l) s->wpAny (model prog w) A (field (.ref it) 0) Q E s
 place:∀(Q:cE),Q (.int i 0) s->wpAny (model prog w) A (field (.ref it) 1) Q E s
 items:∀(Q:Option (i4)->Shared->Prop),Q (some items) s->wpAny (model prog w) A (seqItems? (.ref l)) Q E s
 set:∀(k:Nat) (v:Value) (Q:Unit->Shared->Prop),k<2->Q () {s with heap:=s.heap.update it (Obj.mapFields (·.setIfInBounds k v))}->wpAny (model prog w) A (setField (.ref it) k v) Q E s
theorem lH.of {o:Obj}(ho:s.heap.get? it=some o)(hd:o.data = .fields #[.ref l,.int i 0])(B:qE s.heap l items):lH prog w A E s it l i items:=by obtain⟨ol,nl,j,q⟩:=B;exact⟨fun _ h=>wpAny_field ho hd rfl h,fun _ h=>wpAny_field ho hd rfl h,fun _ h=>wpAny_seqItems j q h,fun k v _ G h=>wpAny_setField ho hd G h⟩
noncomputable abbrev AU (b:Builtin):Prop:=b=Builtin.«list_iterator.__next__»∨b=Builtin.«tuple_iterator.__next__»
theorem qG {b:Builtin}{x:Value}{Q:cE}(I:AU b)(R:lH prog w A E s it l i items)(G:items[i]?=some x)
  (L:Q x {s with heap:=s.heap.update it (Obj.mapFields (·.setIfInBounds 1 (rawInt (i+1))))}):wpAny (model prog w) A (b ⟨[.ref it],[]⟩) (fun f t=>∃v,f = .done (.ret v)/\Q v t) E s:=by
 have B:=R.seq;have r1:=R.place;have q:=R.items;have j:=fun Q h=>R.set 1 (rawInt (i+1)) Q (by decide) h;rcases I with rfl|rfl
 all_goals
  wp_walk using B,r1,q,j
  rw[Int.toNat_natCast,G]
  wp_walk using B,r1,q,j
  exact⟨x,rfl,L⟩
theorem rY {b:Builtin}{Q:PySem.Fin->Shared->Prop}(I:A.handled=none)(L:AU b)(R:lH prog w A E s it l i items)(G:items[i]?=none)
  (N:∀h' e,Heap.ExtBut it s.heap h'->(∃o,h'.get? e=some o/\o.cls = .type "StopIteration")->E (.ref e) {s with heap:=h'}):wpAny (model prog w) A (b ⟨[.ref it],[]⟩) Q E s:=by
 have B:=R.seq;have r1:=R.place;have q:=R.items;have j:=fun Q h=>R.set 0 .none Q (by decide) h;rcases L with rfl|rfl
 all_goals
  wp_walk using B,r1,q,j
  rw[Int.toNat_natCast,G]
  wp_walk using B,r1,q,j
  exact wpAny_raiseNew_none I (N _ _ (((Heap.SameBut.update ..).extBut.push _).push _) ⟨_,Heap.get?_push_size _ rfl,rfl⟩)
theorem MQ {x:Value}{Q:cE}(q:jN s.heap it l i)(L:qE s.heap l items)(I:items[i]?=some x)(N:∀h',jN h' it l (i+1)->Heap.SameBut it s.heap h'->Q x {s with heap:=h'}):wpAny (model prog w) A (Builtin.SmallTypes.nextOf (.ref it)) Q E s:=by
 obtain⟨o,ho,hd⟩:=q.obj;have new:(s.heap.update it (Obj.mapFields (·.setIfInBounds 1 (rawInt (i+1))))).get? it=some (o.mapFields (·.setIfInBounds 1 (rawInt (i+1)))):=Heap.get?_update_self _ ho (Obj.isFreed_of_fields (Obj.data_mapFields hd _));have data:(o.mapFields (·.setIfInBounds 1 (rawInt (i+1)))).data = .fields #[.ref l,.int (i+1:Nat) 0]:=by rw[Obj.data_mapFields hd];simp[rawInt]
 have cls:(o.mapFields (·.setIfInBounds 1 (rawInt (i+1)))).cls=o.cls:=Obj.cls_mapFields ..;have same:Heap.SameBut it s.heap (s.heap.update it (Obj.mapFields (·.setIfInBounds 1 (rawInt (i+1))))):=Heap.SameBut.update ..;rcases q with G|B
 ·obtain⟨S,j,hc,_⟩:=id G;rw[ho]at j;cases j;exact lY G.typeIs slot_listiter_next entry_listiter_next (args_listiter_next _) (qG (.inl rfl) (lH.of ho hd L) I (N _ (.inl ⟨_,new,cls.trans hc,data⟩) same))
 ·obtain⟨S,j,hc,_⟩:=id B;rw[ho]at j;cases j;exact lY B.typeIs PySem.F.slot_tuple_iterator_next PySem.F.entry_tuple_iterator_next (PySem.F.args_tuple_iterator_next_1 _) (qG (.inr rfl) (lH.of ho hd L) I (N _ (.inr ⟨_,new,cls.trans hc,data⟩) same))
theorem PV {Q:cE}(N:A.handled=none)(j:jN s.heap it l i)(B:qE s.heap l items)(q:items[i]?=none)
  (G:∀h' e,Heap.ExtBut it s.heap h'->(∃o,h'.get? e=some o/\o.cls = .type "StopIteration")->E (.ref e) {s with heap:=h'}):wpAny (model prog w) A (Builtin.SmallTypes.nextOf (.ref it)) Q E s:=by
 obtain⟨o,ho,hd⟩:=j.obj;have no:A.in1.handled=none:=N;rcases j with L|I
 ·exact lY L.typeIs slot_listiter_next entry_listiter_next (args_listiter_next _) (rY no (.inl rfl) (lH.of ho hd B) q G)
 ·exact lY I.typeIs PySem.F.slot_tuple_iterator_next PySem.F.entry_tuple_iterator_next (PySem.F.args_tuple_iterator_next_1 _) (rY no (.inr rfl) (lH.of ho hd B) q G)
end
structure QG (z TI TO i1 i2 l1 l2:Addr):Prop extends ZipAt z TI TO i1 i2 where
 n1:l1∉[z,TO,i1,i2]
 n2:l2∉[z,TO,i1,i2]
structure ZS (h0:Heap)(z TI TO i1 i2 l1 l2:Addr)(xs ys:i4)(h:Heap)(f a b:Value)(k1 k2:Nat):Prop where
 ap:QG z TI TO i1 i2 l1 l2
 zip:IsZip h z TI TO f
 tin:IsPair h TI (.ref i1) (.ref i2)
 tout:IsPair h TO a b
 one:jN h i1 l1 k1
 two:jN h i2 l2 k2
 src1:qE h l1 xs
 src2:qE h l2 ys
 far:∀c o,c∉[z,TO,i1,i2]->h0.get? c=some o->h.get? c=some o
section
variable {prog:Program}{w:World}{A:Around}{E:cE}{s:Shared}{z TI TO i1 i2 l1 l2:Addr}{k1 k2:Nat}{xs ys:i4}{f a b:Value}{h0 h h':Heap}
theorem off4 {c:Addr}(hc:c∉[z,TO,i1,i2]):c≠z/\c≠TO/\c≠i1/\c≠i2:=by simpa using hc
theorem ZS.self (Z:ZS h0 z TI TO i1 i2 l1 l2 xs ys h f a b k1 k2)(e:Heap.ExtBut z h h'){f':Value}(hz:IsZip h' z TI TO f'):ZS h0 z TI TO i1 i2 l1 l2 xs ys h' f' a b k1 k2 :=
 ⟨Z.ap,hz,e _ _ Z.ap.TIz Z.tin,e _ _ Z.ap.TOz Z.tout,Z.one.at fun o=>e _ o Z.ap.i1z,Z.two.at fun o=>e _ o Z.ap.i2z,Z.src1.at fun o=>e _ o (off4 Z.ap.n1).1,Z.src2.at fun o=>e _ o (off4 Z.ap.n2).1,fun c o hc q=>e c o (off4 hc).1 (Z.far c o hc q)⟩
theorem ZS.out (Z:ZS h0 z TI TO i1 i2 l1 l2 xs ys h f a b k1 k2)(e:Heap.ExtBut TO h h'){B j:Value}(G:IsPair h' TO B j):ZS h0 z TI TO i1 i2 l1 l2 xs ys h' f B j k1 k2 :=
 ⟨Z.ap,e _ _ Z.ap.TOz.symm Z.zip,e _ _ Z.ap.TITO Z.tin,G,Z.one.at fun o=>e _ o Z.ap.TOi1.symm,Z.two.at fun o=>e _ o Z.ap.TOi2.symm,Z.src1.at fun o=>e _ o (off4 Z.ap.n1).2.1,Z.src2.at fun o=>e _ o (off4 Z.ap.n2).2.1,fun c o hc q=>e c o (off4 hc).2.1 (Z.far c o hc q)⟩
theorem ZS.on1 (Z:ZS h0 z TI TO i1 i2 l1 l2 xs ys h f a b k1 k2)(e:Heap.ExtBut i1 h h'){k:Nat}(j:jN h' i1 l1 k):ZS h0 z TI TO i1 i2 l1 l2 xs ys h' f a b k k2 :=
 ⟨Z.ap,e _ _ Z.ap.i1z.symm Z.zip,e _ _ Z.ap.TIi1 Z.tin,e _ _ Z.ap.TOi1 Z.tout,j,Z.two.at fun o=>e _ o Z.ap.i12.symm,Z.src1.at fun o=>e _ o (off4 Z.ap.n1).2.2.1,Z.src2.at fun o=>e _ o (off4 Z.ap.n2).2.2.1,fun c o hc q=>e c o (off4 hc).2.2.1 (Z.far c o hc q)⟩
theorem ZS.on2 (Z:ZS h0 z TI TO i1 i2 l1 l2 xs ys h f a b k1 k2)(e:Heap.ExtBut i2 h h'){k:Nat}(j:jN h' i2 l2 k):ZS h0 z TI TO i1 i2 l1 l2 xs ys h' f a b k1 k :=
 ⟨Z.ap,e _ _ Z.ap.i2z.symm Z.zip,e _ _ Z.ap.TIi2 Z.tin,e _ _ Z.ap.TOi2 Z.tout,Z.one.at fun o=>e _ o Z.ap.i12,j,Z.src1.at fun o=>e _ o (off4 Z.ap.n1).2.2.2,Z.src2.at fun o=>e _ o (off4 Z.ap.n2).2.2.2,fun c o hc q=>e c o (off4 hc).2.2.2 (Z.far c o hc q)⟩
theorem ZS.push (Z:ZS h0 z TI TO i1 i2 l1 l2 xs ys h f a b k1 k2)(o:Obj):ZS h0 z TI TO i1 i2 l1 l2 xs ys (h.push o) f a b k1 k2:=by have e:∀c x,h.get? c=some x->(h.push o).get? c=some x:=fun c x q=>Heap.get?_push_of_some o q;exact⟨Z.ap,e _ _ Z.zip,e _ _ Z.tin,e _ _ Z.tout,Z.one.at (e _),Z.two.at (e _),Z.src1.at (e _),Z.src2.at (e _),fun c x hc q=>e c x (Z.far c x hc q)⟩
structure ZF (prog:Program)(w:World)(A:Around)(E:cE)(s:Shared)(z TI TO i1 i2:Addr)(f a b:Value):Prop where
 f0:∀(Q:cE),Q f s->wpAny (model prog w) A (field (.ref z) 0) Q E s
 f2:∀(Q:cE),Q (.bool false) s->wpAny (model prog w) A (field (.ref z) 2) Q E s
 f3:∀(Q:cE),Q (.ref TI) s->wpAny (model prog w) A (field (.ref z) 3) Q E s
 f4:∀(Q:cE),Q (.ref TO) s->wpAny (model prog w) A (field (.ref z) 4) Q E s
 ins:∀(Q:Option (i4)->Shared->Prop),Q (some #[.ref i1,.ref i2]) s->wpAny (model prog w) A (seqItems? (.ref TI)) Q E s
 outs:∀(Q:Option (i4)->Shared->Prop),Q (some #[a,b]) s->wpAny (model prog w) A (seqItems? (.ref TO)) Q E s
 set:∀(v:Value) (Q:Unit->Shared->Prop),(∀h',IsZip h' z TI TO v->Heap.SameBut z s.heap h'->Q () {s with heap:=h'})->wpAny (model prog w) A (setField (.ref z) 0 v) Q E s
 put:∀(k:Nat) (v:Value) (Q:Unit->Shared->Prop),(∀h',IsPair h' TO (if k=0 then v else a) (if k=1 then v else b)->Heap.SameBut TO s.heap h'->Q () {s with heap:=h'})->k<2->wpAny (model prog w) A (updateSeq TO (·.setIfInBounds k v)) Q E s
theorem ZS.asked (Z:ZS h0 z TI TO i1 i2 l1 l2 xs ys s.heap f a b k1 k2):ZF prog w A E s z TI TO i1 i2 f a b:=by
 refine⟨fun _ q=>wpAny_field Z.zip rfl rfl q,fun _ q=>wpAny_field Z.zip rfl rfl q,fun _ q=>wpAny_field Z.zip rfl rfl q,fun _ q=>wpAny_field Z.zip rfl rfl q,fun _ q=>wpAny_seqItems Z.tin rfl q,fun _ q=>wpAny_seqItems Z.tout rfl q,fun v _ q=>?_,fun k v _ q B=>?_⟩
 ·exact wpAny_setField_rec Z.zip (by simp) fun h' e j=>q h' e j
 ·refine wpAny_updateSeq_pair Z.tout fun h' e j=>q h' ?_ j
  match k,B with
  | 0,_=>exact e
  | 1,_=>exact e
noncomputable abbrev Q6 (h0:Heap)(z TI TO i1 i2 l1 l2:Addr)(xs ys:i4)(a b:Value)(k1 k2:Nat)(h:Heap):List (Value×Nat)->Prop
 | []=>∃x y,xs[k1]?=some x/\ys[k2]?=some y/\ZS h0 z TI TO i1 i2 l1 l2 xs ys h .ellipsis x y (k1+1) (k2+1)
 | [p]=>p=(.ref i2,1)/\∃x,xs[k1]?=some x/\ZS h0 z TI TO i1 i2 l1 l2 xs ys h .ellipsis x b (k1+1) k2
 | [p,q]=>p=(.ref i1,0)/\q=(.ref i2,1)/\ZS h0 z TI TO i1 i2 l1 l2 xs ys h .ellipsis a b k1 k2
 | _=>False
noncomputable abbrev zA (h:Heap)(e:Addr):Prop:=∃o,h.get? e=some o/\o.cls = .type "StopIteration"
theorem uU {j:Sem (Option Value)}{i l:Addr}{k:Nat}{items:i4}{Q:Option Value->Shared->Prop}(hd:j=(Builtin.SmallTypes.nextOf (.ref i) >>= fun v=>pure (some v)))(L:A.handled=none)(it:jN s.heap i l k)(src:qE s.heap l items)(hz:IsZip s.heap z TI TO .ellipsis)(I:i≠z)
  (item:∀v h',items[k]?=some v->jN h' i l (k+1)->Heap.SameBut i s.heap h'->Q (some v) {s with heap:=h'})
  (stop:items[k]?=none->∀h' B e,Heap.ExtBut i s.heap h'->Heap.SameBut z h' B->zA B e->E (.ref e) {s with heap:=B}) :
  wpAny (model prog w) A (j.onRaise fun _=>setField (.ref z) 0 .none) Q E s:=by
 subst hd;refine wpAny_onRaise (wpAny_bind ?_);cases e:items[k]? with
 | some v=>exact MQ it src e fun h' S N=>wpAny_pure (item v h' e S N)
 | none =>
  refine PV L it src e fun h' x ext ⟨o,ho,hc⟩=>?_;have zip:=ext z _ I.symm hz;have ne:x≠z:=fun q=>by rw[q,zip]at ho;cases ho;exact absurd (show Value.type "zip" = .type "StopIteration" from hc) (by decide)
  exact wpAny_setField_rec zip (by simp) fun B _ G=>stop e h' B x ext G ⟨o,G.extBut x o ne ho,hc⟩
theorem E1 {Q:cE}(hh:A.handled=none)(Z:ZS s.heap z TI TO i1 i2 l1 l2 xs ys s.heap .none a b k1 k2)
  (item:∀x y h',xs[k1]?=some x->ys[k2]?=some y->ZS s.heap z TI TO i1 i2 l1 l2 xs ys h' (rawInt s.heap.objs.size) x y (k1+1) (k2+1)->IsPair h' s.heap.objs.size x y->h'.objs.size=s.heap.objs.size+1->Q (.ref s.heap.objs.size) {s with heap:=h'})
  (stop:(xs[k1]?=none∨ys[k2]?=none)->∀h' e,(∀c o,c∉[z,TO,i1,i2]->s.heap.get? c=some o->h'.get? c=some o)->zA h' e->E (.ref e) {s with heap:=h'}) :
  wpAny (model prog w) A (Builtin.«zip.__next__» ⟨[.ref z],[]⟩) (fun f t=>∃v,f = .done (.ret v)/\Q v t) E s:=by
 have F:=Z.asked (prog:=prog) (w:=w) (A:=A) (E:=E);have g0:=F.f0;have g2:=F.f2;have g3:=F.f3;have g4:=F.f4;have gi:=F.ins;have gs:=F.set .ellipsis;obtain⟨h,g,d,tk,os⟩:=s;dsimp only at Z item stop
 wp_walk using g0,g2,g3,g4,gi,gs
 intro h1 hz1 sb1;have Z1:=Z.self sb1.extBut hz1;have size1:h1.objs.size=h.objs.size:=sb1.1;clear F g0 g2 g3 g4 gi gs
 wp_walk using wpAny_forIn_list _ (fun rest r t=>r=((none:Option PySem.Fin),())/\∃h',t=⟨h',g,d,tk,os⟩/\h'.objs.size=h.objs.size/\Q6 h z TI TO i1 i2 l1 l2 xs ys a b k1 k2 h' rest) _
 case turn =>
  rintro p rest r t ⟨rfl,h2,rfl,B,zr⟩
  match rest,zr with
  | [],⟨e,x,hx,G⟩ =>
   subst e;refine wpAny_bind (uU rfl hh G.two G.src2 G.zip G.ap.i2z (fun v h3 hv i3 I=>?_) fun no h3 S e ext j st=>?_)
   ·have L:=G.on2 I.extBut i3;refine wpAny_bind (wpAny_seqItems L.tout rfl (wpAny_bind (wpAny_updateSeq_pair L.tout fun S p4 j=>wpAny_bind (wpAny_letGo (wpAny_pure ?_)))));exact⟨rfl,S,rfl,by rw[j.1,I.1];exact B,x,v,hx,hv,L.out j.extBut p4⟩
   ·exact stop (.inr no) S e (fun c o hc q=>j.extBut c o (off4 hc).1 (ext c o (off4 hc).2.2.2 (G.far c o hc q))) st
  | [q],⟨e1,e2,G⟩ =>
   subst e1 e2;refine wpAny_bind (uU rfl hh G.one G.src1 G.zip G.ap.i1z (fun v h3 hv i3 I=>?_) fun no h3 S e ext j st=>?_)
   ·have L:=G.on1 I.extBut i3;refine wpAny_bind (wpAny_seqItems L.tout rfl (wpAny_bind (wpAny_updateSeq_pair L.tout fun S p4 j=>wpAny_bind (wpAny_letGo (wpAny_pure ?_)))));exact⟨rfl,S,rfl,by rw[j.1,I.1];exact B,rfl,v,hv,L.out j.extBut p4⟩
   ·exact stop (.inl no) S e (fun c o hc q=>j.extBut c o (off4 hc).1 (ext c o (off4 hc).2.2.1 (G.far c o hc q))) st
  | _::_::_,zr=>exact zr.elim
 case fin =>
  rintro r t ⟨rfl,h2,rfl,B,x,y,hx,hy,G⟩;refine wpAny_bind (wpAny_seqItems G.tout rfl (wpAny_bind (wpAny_newTuple ?_)));have L:=G.push {cls:=.type "tuple",data:=.seq #[x,y]};refine wpAny_bind (wpAny_bind (wpAny_setField_rec L.zip (by simp) fun S z4 j=>wpAny_setField_rec z4 (by simp) fun h5 z5 sb5=>wpAny_pure ⟨_,rfl,?_⟩));have U:h5.objs.size=h.objs.size+1:=by rw[sb5.1,j.1,Heap.size_push,B]
  have new:z≠h2.objs.size:=Nat.ne_of_lt (Heap.lt_size G.zip);have N:IsPair h5 h2.objs.size x y:=sb5.extBut _ _ new.symm (j.extBut _ _ new.symm (Heap.get?_push_size _ rfl));have Z5:=(L.self j.extBut (f':=rawInt h2.objs.size) z4).self sb5.extBut (f':=rawInt h2.objs.size) z5;rw[B]at N Z5⊢;exact item x y h5 hx hy Z5 N U
 case h=>exact⟨rfl,h1,rfl,size1,rfl,rfl,Z1⟩
theorem FH {it:Addr}{T id:String}{b:Builtin}{Q:Option Value->Shared->Prop}(kind:s.TypeIs (.ref it) T)(slot:Slot T "__next__" id)(j:entryFor table id=some b)(args:argsOk id ⟨[.ref it],[]⟩)
  (h:wpAny (model prog w) A.in1 (b ⟨[.ref it],[]⟩) (fun f t=>∃v,f = .done (.ret v)/\Q (some v) t) (fun x t=>∃e,x = .ref e/\zA t.heap e/\Q none t) s):wpAny (model prog w) A (pyNext (.ref it)) Q E s:=by
 have asked:wpAny (model prog w) A (callSpecial? (.ref it) "__next__") (fun r t=>∃v,r=some v/\Q (some v) t) (fun x t=>∃e,x = .ref e/\zA t.heap e/\Q none t) s :=
  wpAny_callSpecial?_slot kind slot (wpAny_call_entry slot kind j (thn h fun f t ⟨v,e,q⟩=>⟨v,e,v,rfl,q⟩) args)
 refine wpAny_bind (wpAny_attempt (wpAny_mono asked ?_ ?_))
 ·rintro _ t ⟨v,rfl,q⟩;exact wpAny_pure q
 ·rintro _ t ⟨e,rfl,⟨o,ho,hc⟩,q⟩;exact wpAny_bind (wpAny_isInstance ⟨o,ho,hc⟩ isSubtype_stop (wpAny_pure q))
theorem vK {Q:Option Value->Shared->Prop}(j:A.handled=none)(Z:ZS s.heap z TI TO i1 i2 l1 l2 xs ys s.heap .none a b k1 k2)
  (item:∀x y h',xs[k1]?=some x->ys[k2]?=some y->ZS s.heap z TI TO i1 i2 l1 l2 xs ys h' (rawInt s.heap.objs.size) x y (k1+1) (k2+1)->IsPair h' s.heap.objs.size x y->h'.objs.size=s.heap.objs.size+1->Q (some (.ref s.heap.objs.size)) {s with heap:=h'})
  (stop:(xs[k1]?=none∨ys[k2]?=none)->∀h',(∀c o,c∉[z,TO,i1,i2]->s.heap.get? c=some o->h'.get? c=some o)->Q none {s with heap:=h'}):wpAny (model prog w) A (pyNext (.ref z)) Q E s :=
 FH (b:=Builtin.«zip.__next__») ⟨_,Z.zip,rfl⟩ PySem.F.slot_zip_next PySem.F.entry_zip_next (PySem.F.args_zip_next_1 _) (E1 (Q:=fun v t=>Q (some v) t) j Z item fun no h' e far st=>⟨e,rfl,st,stop no h' far⟩)
end
noncomputable def KK (h:Heap)(l:Addr)(nm:String):Prop:=(∃xs,h.IsList l xs/\nm="list_iterator")∨(∃xs,h.IsTuple l xs/\nm="tuple_iterator")
theorem KK.push {h:Heap}{l:Addr}{nm:String}{o:Obj}(x:KK h l nm):KK (h.push o) l nm:=by
 rcases x with⟨xs,y,e⟩|⟨xs,y,e⟩
 ·exact .inl ⟨xs,y.push _,e⟩
 ·exact .inr ⟨xs,y.push _,e⟩
theorem JS {prog:Program}{w:World}{A:Around}{E:cE}{s:Shared}{l:Addr}{nm:String}{Q:cE}(x:KK s.heap l nm)
  (h:Q (.ref s.heap.objs.size) {s with heap:=s.heap.push {cls:=.type nm,data:=.fields #[.ref l,.int 0 0]} }):wpAny (model prog w) A (pyIter (.ref l)) Q E s:=by
 rcases x with⟨xs,y,rfl⟩|⟨xs,y,rfl⟩
 ·exact wpAny_pyIter_list y h
 ·exact wpAny_pyIter_tuple y h
theorem GX {prog:Program}{w:World}{A:Around}{E:cE}{s:Shared}{N l2:Addr}{n1 n2:String}{Q:cE}(a1:KK s.heap N n1)(a2:KK s.heap l2 n2)
  (k:∀h' z TI TO B j,ZipAt z TI TO B j->(∀c∈[z,TI,TO,B,j],s.heap.objs.size<=c)->IsZip h' z TI TO .none->IsPair h' TI (.ref B) (.ref j)->IsPair h' TO .none .none->jN h' B N 0->jN h' j l2 0->(∀c o,s.heap.get? c=some o->h'.get? c=some o)->Q (.ref z) {s with heap:=h'}):wpAny (model prog w) A (call (.type "zip") [.ref N,.ref l2]) Q E s:=by
 have made:Meets (Builtin.«zip.__new__» ⟨[.type "zip",.ref N,.ref l2],[]⟩) (fun _ R t=>KK t.heap N n1/\KK t.heap l2 n2/\∀B j TI TO z Z U S I,B=t.heap.objs.size->Z=t.heap.push {cls:=.type n1,data:=.fields #[.ref N,.int 0 0]} ->
   j=Z.objs.size->U=Z.push {cls:=.type n2,data:=.fields #[.ref l2,.int 0 0]}->TI=U.objs.size->S=U.push {cls:=.type "tuple",data:=.seq #[.ref B,.ref j]}->TO=S.objs.size->I=S.push {cls:=.type "tuple",data:=.seq #[.none,.none]}->z=I.objs.size ->
   R (.ok (.ret (.ref z))) {t with heap:=I.push {cls:=.type "zip",data:=.fields #[.none,.bool false,.bool false,.ref TI,.ref TO]} }):=by
  refine .of_wp fun prog w A R t ⟨b1,b2,q⟩=>?_;have isZip:=sub_zip;obtain⟨h,g,d,tk,os⟩:=t;have r1:=fun(Q:cE) q=>JS (prog:=prog) (w:=w) (A:=A.in1) (E:=fun e s'=>R (.error e) s') (Q:=Q) b1 q;have r2:=fun(Q:cE) q=>JS (prog:=prog) (w:=w) (A:=A.in1) (E:=fun e s'=>R (.error e) s') (Q:=Q) (s:=⟨h.push {cls:=.type n1,data:=.fields #[.ref N,.int 0 0]},g,d,tk,os⟩) (KK.push b2) q
  wp_walk using r1,r2
  exact⟨_,rfl,q _ _ _ _ _ _ _ _ _ rfl rfl rfl rfl rfl rfl rfl rfl rfl⟩
 refine callType_new PySem.F.called_zip (by decide) (PySem.F.typeCall_zip_2 _ _) (PySem.F.newCall_zip_2 _ _) (fun obj=>PySem.F.args_object_init_3 obj _ _) PySem.F.entry_zip_new made ⟨a1,a2,?_⟩;intro B j TI TO z Z U S I e1 d1 e2 d2 e3 d3 e4 d4 e5;have s1:Z.objs.size=s.heap.objs.size+1:=by rw[d1,Heap.size_push]
 have s2:U.objs.size=s.heap.objs.size+2:=by rw[d2,Heap.size_push,s1]
 have s3:S.objs.size=s.heap.objs.size+3:=by rw[d3,Heap.size_push,s2]
 have s4:I.objs.size=s.heap.objs.size+4:=by rw[d4,Heap.size_push,s3]
 have up1:∀c o,s.heap.get? c=some o->Z.get? c=some o:=fun c o q=>by rw[d1];exact Heap.get?_push_of_some _ q
 have up2:∀c o,Z.get? c=some o->U.get? c=some o:=fun c o q=>by rw[d2];exact Heap.get?_push_of_some _ q
 have up3:∀c o,U.get? c=some o->S.get? c=some o:=fun c o q=>by rw[d3];exact Heap.get?_push_of_some _ q
 have L:∀c o,S.get? c=some o->I.get? c=some o:=fun c o q=>by rw[d4];exact Heap.get?_push_of_some _ q
 have p1:Z.get? B=some {cls:=.type n1,data:=.fields #[.ref N,.int 0 0]}:=by rw[e1,d1];exact Heap.get?_push_size _ rfl
 have p2:U.get? j=some {cls:=.type n2,data:=.fields #[.ref l2,.int 0 0]}:=by rw[e2,d2];exact Heap.get?_push_size _ rfl
 have p3:S.get? TI=some {cls:=.type "tuple",data:=.seq #[.ref B,.ref j]}:=by rw[e3,d3];exact Heap.get?_push_size _ rfl
 have p4:I.get? TO=some {cls:=.type "tuple",data:=.seq #[.none,.none]}:=by rw[e4,d4];exact Heap.get?_push_size _ rfl
 have G:∀c o,I.get? c=some o->(I.push {cls:=.type "zip",data:=.fields #[.none,.bool false,.bool false,.ref TI,.ref TO]}).get? c=some o:=fun c o q=>Heap.get?_push_of_some _ q;have p5:IsZip (I.push {cls:=.type "zip",data:=.fields #[.none,.bool false,.bool false,.ref TI,.ref TO]}) z TI TO .none:=by rw[e5];exact Heap.get?_push_size _ rfl
 have sq:∀{l i:Addr} {nm:String} {h:Heap},KK s.heap l nm->h.get? i=some {cls:=.type nm,data:=.fields #[.ref l,.int 0 0]}->jN h i l 0:=fun a e=>by
  rcases a with⟨_,_,rfl⟩|⟨_,_,rfl⟩
  ·exact .inl ⟨_,e,rfl,rfl⟩
  ·exact .inr ⟨_,e,rfl,rfl⟩
 have D:ZipAt z TI TO B j:=by constructor <;> (intro q;have q:(_:Nat)=_:=q;omega)
 refine⟨⟨_,p5,rfl⟩,k _ z TI TO B j D (fun c hc=>?_) p5 (G _ _ (L _ _ p3)) (G _ _ p4) (sq a1 (G _ _ (L _ _ (up3 _ _ (up2 _ _ p1))))) (sq a2 (G _ _ (L _ _ (up3 _ _ p2)))) fun c o q=>G _ _ (L _ _ (up3 _ _ (up2 _ _ (up1 _ _ q))))⟩;simp only[List.mem_cons,List.not_mem_nil,or_false]at hc;rcases hc with q|q|q|q|q <;> (rw[q];show(_:Nat)<=_;omega)
noncomputable def QO (a b:Addr):It :=
 ⟨fun i H=>∃xs ys x y,fL H a xs/\fL H b ys/\xs[i]?=some x/\ys[i]?=some y,
  fun i H z H'=>∃T x y,z = .ref T/\H T=none/\H'=upd H T (.tup [x,y])/\∀xs ys,fL H a xs->fL H b ys->xs[i]?=some x/\ys[i]?=some y,
  fun i H=>∃xs ys,fL H a xs/\fL H b ys/\(xs.length<=i∨ys.length<=i)⟩
theorem fL.inj {H:Hp}{a:Addr}{xs ys:List V}(h:fL H a xs)(k:fL H a ys):xs=ys:=by rcases h with h|h <;> rcases k with k|k <;> rw[h]at k <;> cases k <;> rfl
theorem aO.sq {X:Cx}{j:cW}{σ:St}{H:Hp}{s:Shared}{a:Addr}{xs:List V}(I:aO X j σ H s)(h:fL H a xs):∃its:bZ,aR xs its/\qE s.heap a its.toArray/\∃nm,KK s.heap a nm:=by
 rcases h with h|h
 ·obtain⟨its,q,p,_⟩:=I.list (fA.of h);obtain⟨o,e,c,n,d⟩:=p.isList;exact⟨its,q,⟨o,n,e,d⟩,_,.inl ⟨_,p.isList,rfl⟩⟩
 ·obtain⟨its,q,p,_⟩:=I.tuple (hZ.of h);have p':s.heap.IsTuple a its.toArray:=p;obtain⟨o,e,c,n,d⟩:=id p';exact⟨its,q,⟨o,n,e,d⟩,_,.inr ⟨_,p',rfl⟩⟩
theorem fL.some {H:Hp}{a:Addr}{xs:List V}(h:fL H a xs):∃o,H a=some o:=h.elim (fun e=>⟨_,e⟩) fun e=>⟨_,e⟩
theorem NW {X:Cx}{j:cW}{σ:St}{H:Hp}{s:Shared}{a b z TI TO G B:Addr}{i:Nat}{xs ys:List V}(I:aO X j σ H s)(hf:∀c∈[z,TI,TO,G,B],fK X j H c)(D:ZipAt z TI TO G B)
  (st:IsZip s.heap z TI TO .none/\IsPair s.heap TI (.ref G) (.ref B)/\(∃u v,IsPair s.heap TO u v)/\jN s.heap G a i/\jN s.heap B b i) (N:fL H a xs) (L:fL H b ys) :
  ∃its:bZ,aR xs its/\qE s.heap a its.toArray/\(∃its2:bZ,aR ys its2/\qE s.heap b its2.toArray)/\∀its2:bZ,(aR ys its2/\qE s.heap b its2.toArray)->∃u v,ZS s.heap z TI TO G B a b its.toArray its2.toArray s.heap .none u v i i:=by
 obtain⟨its,rv,p,_⟩:=I.sq N;obtain⟨its2,S,p2,_⟩:=I.sq L;obtain⟨hz,Z,⟨u,v,U⟩,h1,h2⟩:=st;have off:∀{c:Addr} {zs:List V},fL H c zs->c∉[z,TO,G,B]:=fun {c zs} q hm=>by obtain⟨o,e⟩:=q.some;rw[(hf c (by simp at hm⊢;rcases hm with r|r|r|r <;> simp[r])).1]at e;cases e
 exact⟨its,rv,p,⟨its2,S,p2⟩,fun its3 q3=>⟨u,v,{toZipAt:=D,n1:=off N,n2:=off L},hz,Z,U,h1,h2,p,q3.2,fun _ _ _ e=>e⟩⟩
theorem E4 {P:Program}{w:World}{K:PySem.W.Frag}{elts:kU}{tk0}{tpos:Pos}(a b z TI TO S N:Addr)(D:ZipAt z TI TO S N) :
  m8 P w K (.Tuple elts tk0 tpos) (QO a b) [z,TI,TO,S,N] z (fun i h=>IsZip h z TI TO .none/\IsPair h TI (.ref S) (.ref N)/\(∃u v,IsPair h TO u v)/\jN h S a i/\jN h N b i) where
 mem:=by simp
 obj:=fun i h st c hc=>by
  obtain⟨hz,hTI,⟨u,v,hTO⟩,h1,h2⟩:=st;obtain⟨o1,e1,d1⟩:=h1.obj;obtain⟨o2,e2,d2⟩:=h2.obj;simp only[List.mem_cons,List.not_mem_nil,or_false]at hc;rcases hc with rfl|rfl|rfl|rfl|rfl
  ·exact⟨_,hz,fun v z=>by cases z⟩
  ·exact⟨_,hTI,fun v z=>by cases z⟩
  ·exact⟨_,hTO,fun v z=>by cases z⟩
  ·exact⟨_,e1,fun v z=>by rw[d1]at z;cases z⟩
  ·exact⟨_,e2,fun v z=>by rw[d2]at z;cases z⟩
 keep:=fun i h h' st k=>by obtain⟨hz,hTI,⟨u,v,hTO⟩,h1,h2⟩:=st;exact⟨k z (by simp) _ hz,k TI (by simp) _ hTI,⟨u,v,k TO (by simp) _ hTO⟩,h1.at fun o e=>k S (by simp) o e,h2.at fun o e=>k N (by simp) o e⟩
 item:=by
  intro X hP hw hK hc i L s σ H E I hf st ⟨xs,ys,x,y,G,B,hx,hy⟩;subst hP hw hK;obtain⟨its,rv,p,p',Z⟩:=NW I hf D st G B;obtain⟨its2,j⟩:=p';obtain⟨u0,v0,Z⟩:=Z its2 j;refine vK (I.ok.hd hc) Z (fun u v h' hu hv Z' pr size=>?_) fun no=>?_
  ·obtain⟨u',hu',ru⟩:=rv.get hx;obtain⟨v',U,rw'⟩:=j.1.get hy;rw[show its.toArray[i]?=its[i]? from by simp]at hu;rw[show its2.toArray[i]?=its2[i]? from by simp]at hv;rw[hu']at hu;rw[U]at hv;cases hu;cases hv;refine⟨_,rfl,wpAny_letOwnedTupleGo_zip (s:={s with heap:=h'}) Z'.zip fun h2 hz2 sb2=>?_⟩;have Z2:=Z'.self sb2.extBut hz2;have new:z≠s.heap.objs.size:=Nat.ne_of_lt (Heap.lt_size Z.zip);have pr2:IsPair h2 s.heap.objs.size u v:=sb2.extBut _ _ new.symm pr;have far:∀c o,c∉[z,TI,TO,S,N]->s.heap.get? c=some o->h2.get? c=some o:=fun c o hc e=>Z2.far c o (fun q=>hc (by simp at q⊢;rcases q with r|r|r|r <;> simp[r])) e;have I2:aO X L σ (upd H s.heap.objs.size (.tup [x,y])) {s with heap:=h2}:=I.turnedLaid (t':=s.toks) (ch:=[z,TI,TO,S,N]) far hf (Nat.le_refl _) ⟨by show 2<=sizeLine;decide,[u,v],.cons ru (.cons rw' .nil),⟨_,pr2,rfl,_,rfl⟩⟩;refine⟨.ref s.heap.objs.size,_,I2,rfl,⟨s.heap.objs.size,x,y,rfl,I.hok.fresh (Nat.le_refl _),rfl,fun xs' ys' q1 q2=>?_⟩,⟨Z2.zip,Z2.tin,⟨u,v,Z2.tout⟩,Z2.one,Z2.two⟩,fun c hc=>?_⟩
   ·rw[q1.inj G,q2.inj B];exact⟨hx,hy⟩
   ·have live:∃o,s.heap.get? c=some o:=by
     simp only[List.mem_cons,List.not_mem_nil,or_false]at hc;rcases hc with rfl|rfl|rfl|rfl|rfl
     ·exact⟨_,Z.zip⟩
     ·exact⟨_,Z.tin⟩
     ·exact⟨_,Z.tout⟩
     ·obtain⟨o,e,_⟩:=Z.one.obj;exact⟨o,e⟩
     ·obtain⟨o,e,_⟩:=Z.two.obj;exact⟨o,e⟩
    obtain⟨o,e⟩:=live;rw[aB (Nat.ne_of_lt (Heap.lt_size e))];exact(hf c hc).1
  ·obtain⟨u',hu',_⟩:=rv.get hx;obtain⟨v',U,_⟩:=j.1.get hy;rcases no with q|q
   ·rw[show its.toArray[i]?=its[i]? from by simp,hu']at q;cases q
   ·rw[show its2.toArray[i]?=its2[i]? from by simp,U]at q;cases q
 done:=by
  intro X hP hw hK hc i L s σ H E I hf st ⟨xs,ys,G,B,hd⟩;subst hP hw hK;obtain⟨its,rv,p,p',Z⟩:=NW I hf D st G B;obtain⟨its2,j⟩:=p';obtain⟨u0,v0,Z⟩:=Z its2 j;have e1:=rv.length;have e2:=j.1.length;refine vK (I.ok.hd hc) Z (fun u v h' hu hv _ _ _=>?_) fun _ h' far=>⟨rfl,?_⟩
  ·obtain⟨q1,_⟩:=Array.getElem?_eq_some_iff.mp hu;obtain⟨q2,_⟩:=Array.getElem?_eq_some_iff.mp hv;rw[List.size_toArray]at q1 q2;omega
  ·exact I.turnedL (t':=s.toks) (ch:=[z,TI,TO,S,N]) (fun c o hc e=>far c o (fun q=>hc (by simp at q⊢;rcases q with r|r|r|r <;> simp[r])) e) hf
 self:=fun _ _ _ _ _ st h=>wpAny_pyIter_zip st.1 h
noncomputable def iZip2 (q:TA):TI:=fun σ H R=>q σ H fun vs j=>∃a b xs ys,vs=[.ref a,.ref b]/\fL j a xs/\fL j b ys/\R (QO a b) j
theorem LO {X:Cx}{N:kU}{U:_}{j:Pos}{a b:Expr}{Z:TA}{p B:Pos}(hg:Gl X "zip")(hm:X.mg "zip" = none)(ha:PA X [a,b] Z)(hs:starEach [a,b] X.env=[(false,eval a X.env),(false,eval b X.env)]:=by rfl)(L:starEach [b] X.env=[(false,eval b X.env)]:=by rfl) :
  PI X (.Tuple N U j) (.Call (.Name "zip" p) [a,b] [] B) (iZip2 Z):=by
 intro G s σ H R I h;refine Call_ (mX I hg hm boot_zip (PyProof.Rows.callWith_type1 (thn (ha B G s σ H _ I h) fun us s1 ⟨vs,H1,S,r1,q1⟩=>?_) (by rw[hs,L]) (by rw[L];rfl)));obtain⟨l1,l2,xs,ys,e,hx,hy,q⟩:=q1;subst e;obtain⟨u1,u2,rfl,e1,e2⟩:=vals2 r1;cases e1;cases e2;obtain⟨its,rv,p1,nm1,k1⟩:=S.sq hx;obtain⟨its2,rv2,p2,nm2,k2⟩:=S.sq hy;refine GX k1 k2 fun h' z TI TO i1 i2 D new a1 a2 a3 a4 a5 hk=>?_;refine wpAny_pyIter_zip (s:={s1 with heap:=h'}) a1 ?_;exact⟨z,[z,TI,TO,i1,i2],_,_,H1,rfl,S.kept (t':=s1.toks) hk,E4 l1 l2 z TI TO i1 i2 D,⟨a1,a2,⟨_,_,a3⟩,a4,a5⟩,fun c hc=>S.fpOk (new c hc) (S.hok.fresh (new c hc)),q⟩
theorem rNeD_bb {H:Hp}{Q:VK}{i j:Bool}:rNeD (.bl i) (.bl j) H Q=Q (.bl (!decide (i=j))) H:=by
 have e:eqD (.bl i) (.bl j)=decide (i=j):=by cases i <;> cases j <;> rfl
 refine propext ⟨fun⟨d,I,G,B,_,q⟩=>?_,fun q=>⟨.bl i,.bl j,rfl,rfl,Nat.zero_le _,by rw[e];exact q⟩⟩;have N:d = .bl i:=bD.inj G (show bD H (.bl i) (.bl i)from rfl);have L:I = .bl j:=bD.inj B (show bD H (.bl j) (.bl j)from rfl);rw[N,L,e]at q;exact q
theorem rEqD_bb {H:Hp}{Q:VK}{i j:Bool}:rEqD (.bl i) (.bl j) H Q=Q (.bl (decide (i=j))) H:=by
 have e:eqD (.bl i) (.bl j)=decide (i=j):=by cases i <;> cases j <;> rfl
 refine propext ⟨fun⟨d,I,G,B,_,q⟩=>?_,fun q=>⟨.bl i,.bl j,rfl,rfl,Nat.zero_le _,by rw[e];exact q⟩⟩;have N:d = .bl i:=bD.inj G (show bD H (.bl i) (.bl i)from rfl);have L:I = .bl j:=bD.inj B (show bD H (.bl j) (.bl j)from rfl);rw[N,L,e]at q;exact q
end L2
namespace L2
open PySem
theorem RH {H:Hp}{p:Addr}{i:Int}:ixV H (.ref p) (.int i)=(match H p with
  | some (.lst xs)=>atI xs i
  | some (.tup xs)=>atI xs i
  | some (.frz _ (.lst xs))=>atI xs i
  | _=>none):=rfl
noncomputable def abc:Str:="abcdefghijklmnopqrstuvwxyz"
theorem QF (j:Nat)(h:j<26):abc.cps.toList[j]?=some (97+j):=by
 have:∀j:Fin 26,abc.cps.toList[j.1]?=some (97+j.1):=by decide +kernel
 exact this ⟨j,h⟩
theorem NL:abc.cps.toList.length=26:=by decide +kernel
theorem P8 {H:Hp}{i:Int}(q:0<=i)(j:i<26):ixV H (.str abc) (.int i)=some (.str ⟨#[97+i.toNat]⟩):=by show(if abc.length<=sizeLine then(atI abc.cps.toList i).map fun c=>V.str ⟨#[c]⟩else none)=_;rw[if_pos (by decide +kernel),jM q (by rw[NL];exact j),QF _ (by omega)];rfl
noncomputable def wordL:Nat->Int->List Nat
 | 0,_=>[]
 | k+1,n=>(97+(n % 26).toNat)::wordL k (n / 26)
theorem oQ:∀k n,(wordL k n).length=k
 | 0,_=>rfl
 | k+1,n=>by simp[wordL,oQ k]
noncomputable def wordS (k:Nat)(n:Int):Str:=⟨(wordL k n).toArray⟩
theorem tyL {K:PySem.W.Frag}{H:Hp}{p:Addr}{xs:List V}(h:H p=some (.lst xs)):tyV K "list" (.ref p) H:=.inl ⟨rfl,xs,fA.of h⟩
noncomputable def i0 (x:Str):Prop:=1<=x.cps.toList.length/\x.cps.toList.length<=6/\∀c∈x.cps.toList,97<=c/\c<=122
theorem zC:∀(k:Nat) (n:Int),∀c∈wordL k n,97<=c/\c<=122
 | 0,_,_,h=>by simp[wordL]at h
 | k+1,n,c,h=>by
  rw[wordL]at h;rcases List.mem_cons.mp h with e|e
  ·have q:=Int.emod_nonneg n (b:=26) (by decide);have j:=Int.emod_lt_of_pos n (b:=26) (by decide);omega
  ·exact zC k _ c e
theorem HC {k:Nat}{n:Int}(q:1<=k)(j:k<=6):i0 (wordS k n):=by
 have e:(wordS k n).cps.toList=wordL k n:=by simp[wordS]
 refine⟨?_,?_,?_⟩
 ·rw[e,oQ];exact q
 ·rw[e,oQ];exact j
 ·rw[e];exact zC k n
theorem E2 {k:Nat}{a b:Int}(q:1<=k)(h:wordS k a=wordS k b):a % 26=b % 26:=by
 obtain⟨j,rfl⟩:∃j,k=j+1:=⟨k - 1,by omega⟩
 have e:(wordS (j+1) a).cps.toList=(wordS (j+1) b).cps.toList:=by rw[h]
 simp only[wordS,wordL]at e;injection e with I _;have G:=Int.emod_nonneg a (b:=26) (by decide);have B:=Int.emod_nonneg b (b:=26) (by decide);omega
theorem vI {α:Type}[DecidableEq α]:∀{xs ys:List α},xs.Nodup->(∀x∈xs,x∈ys)->xs.length<=ys.length
 | [],_,_,_=>Nat.zero_le _
 | x::xs,ys,nd,h=>by obtain⟨I,G⟩:=List.nodup_cons.mp nd;have B:=h x List.mem_cons_self;have q:=vI (ys:=ys.erase x) G fun y j=>(List.mem_erase_of_ne (fun e=>I (by rw[←e];exact j))).mpr (h y (List.mem_cons_of_mem _ j));rw[List.length_erase_of_mem B]at q;have:=List.length_pos_of_mem B;simp only[List.length_cons];omega
theorem oP {k:Nat}{n:Int}{j:aW}{t:Nat}(G:1<=k)(U:t<=26)(h:∀i,i<t->wordS k (n+i)∈j):t<=j.length:=by
 have nd:((List.range t).map fun i=>wordS k (n+(i:Nat))).Nodup:=by rw[List.nodup_iff_pairwise_ne,List.pairwise_map];refine List.Pairwise.imp_of_mem ?_ (List.pairwise_lt_range (n:=t));intro a b S L N e;have:=E2 G e;have h1:=List.mem_range.mp S;have Z:=List.mem_range.mp L;omega
 have q:=vI nd (ys:=j) fun x B=>by obtain⟨i,I,rfl⟩:=List.mem_map.mp B;exact h i (List.mem_range.mp I)
 simpa using q
theorem pD {H:Hp}:∀(j:aW),Reps H (j.map D.str) (j.map V.str)
 | []=>rfl
 | x::r=>⟨.str x,r.map V.str,rfl,rfl,pD r⟩
theorem tL:∀j:aW,depDs (j.map D.str)=0
 | []=>rfl
 | x::r=>by rw[List.map_cons,depDs,tL r];rfl
theorem tE {x:Str}:∀j:aW,inD (.str x) (j.map D.str)=decide (x∈j)
 | []=>by simp[inD]
 | y::r=>by
  have q:=tE (x:=x) r;unfold inD at q⊢;rw[List.map_cons,List.any_cons,q];have e:eqD (.str y) (.str x)=decide (y=x):=by show(y == x)=_;rw[Bool.eq_iff_iff];simp
  rw[e,Bool.eq_iff_iff];simp only[Bool.or_eq_true,decide_eq_true_eq,List.mem_cons];constructor
  ·rintro(h|h)
   ·exact .inl h.symm
   ·exact .inr h
  ·rintro(h|h)
   ·exact .inl h.symm
   ·exact .inr h
noncomputable def del (H:Hp)(p:Addr):Hp:=fun b=>if b=p then none else H b
theorem eZ {H:Hp}{p b:Addr}{o:HO}(h:H b=some o)(n:b≠p):del H p b=some o:=by unfold del;rw[if_neg n];exact h
theorem dZ {H:Hp}{p b:Addr}{o:HO}(h:del H p b=some o):H b=some o/\b≠p:=by
 unfold del at h;by_cases e:b=p
 ·rw[if_pos e]at h;cases h
 ·rw[if_neg e]at h;exact⟨h,e⟩
theorem tN (H:Hp)(p:Addr):aH (del H p) H:=fun b o h=>(dZ h).1
end L2
section
local macro_rules | `(tactic| walk_at "rd")=>do
 let xs:Array (Lean.TSyntax [`Lean.Parser.Tactic.simpStar,`Lean.Parser.Tactic.simpErase,`Lean.Parser.Tactic.simpLemma]):=("L2.start List.map_cons List.map_nil List.length_cons List.length_nil Nat.reduceAdd Nat.reduceSub Nat.zero_add List.replicate_succ List.replicate_zero List.cons_append List.nil_append List.set_cons_zero List.set_cons_succ L2.tSeq L2.tIfS L2.tTest L2.tOp L2.tVar L2.tC L2.rI0 L2.tAsg L2.gName L2.gSub L2.rI L2.tRet L2.tNext L2.rSetL L2.rAddF L2.rRep L2.tCB L2.r1 L2.tCons L2.tNil L2.tDrop L2.tAnd L2.tOr L2.tNot L2.tIf L2.tLst L2.tTup L2.tCall L2.tFor_eq L2.tComp_eq L2.tComp2_eq L2.iRng1 L2.iRng2 L2.iAny L2.iSq L2.iZip L2.iZip2 L2.iEnum L2.tRaise L2.tTry L2.rLtL L2.rAll L2.rAny L2.rSum L2.tUn L2.rU L2.gTup L2.gCons L2.gNil L2.tBM L2.tBM0 L2.rAppend L2.rPop L2.rPopAt L2.rExtend L2.tSl L2.tNoPart L2.tPart L2.rSlF L2.rSlU L2.rTupU L2.CStep L2.tYes L2.stC Option.bind_some Option.bind_none Option.join_some L2.tAndV L2.tOrV L2.tNotV L2.tNever not_true_eq_false not_false_eq_true L2.tChain L2.tTruth L2.rIs_eq L2.truV_bl L2.isV_ii L2.isV_ib L2.isV_ll L2.lenV_l L2.lenV_t L2.seqV_l L2.seqV_t L2.ixV_l L2.ixV_t if_true if_false Bool.not_true Bool.not_false Bool.false_eq_true Option.bind_eq_bind Option.pure_def L2.rEqD_ii L2.rNeD_ii L2.rEqD_bb L2.rNeD_bb L2.isV_bb L2.rEqD_ss L2.rNeD_ss Int.zero_add L2.catO_i L2.catO_s L2.addV L2.intV L2.atI_zero L2.atI_one L2.ixN_zero L2.ixN_one L2.upd_same L2.upd_upd Option.map_some Option.map_none List.getElem?_cons_zero List.getElem?_cons_succ Option.some.injEq L2.V.int.injEq L2.V.ref.injEq L2.V.bl.injEq L2.V.str.injEq L2.HO.lst.injEq List.cons.injEq and_true true_and exists_eq_left exists_eq_left' exists_eq_right exists_eq_right' exists_and_left exists_and_right exists_const reduceCtorEq false_and and_false exists_false or_false false_or decide_eq_true_eq ite_eq_left_iff Bool.not_eq_true Bool.not_eq_eq_eq_not decide_eq_false_iff_not decide_true decide_false".splitOn " ").toArray.map fun s=>⟨Lean.mkNode `Lean.Parser.Tactic.simpLemma #[Lean.mkNullNode,Lean.mkNullNode,Lean.mkIdent s.toName]⟩
 let xs:=xs.push ⟨Lean.mkNode `Lean.Parser.Tactic.simpStar #[Lean.mkAtom "*"]⟩
 `(tactic| simp only [$xs,*])
namespace Lw
open PySem L2
noncomputable def BF:aW:=["_law_script","_law_k"]
noncomputable def lO:aW:=["_law_script","_law_k"]
theorem xN:aS BF lO (aD eY):=⟨rfl,rfl,rfl,by decide +kernel,rfl,by decide +kernel,by decide +kernel⟩
noncomputable def uC:aW:=["_law_script","_law_k","_law_cell_here"]
noncomputable def nE:aW:=["_law_script","_law_k"]
theorem qF:aS uC nE (aD fT):=⟨rfl,rfl,rfl,by decide +kernel,rfl,by decide +kernel,by decide +kernel⟩
noncomputable def qT:aW:=["_law_pot_here","_law_many","_law_digit"]
noncomputable def lK:aW:=["_law_pot_here","_law_many"]
theorem nR:aS qT lK (aD eU):=⟨rfl,rfl,rfl,by decide +kernel,rfl,by decide +kernel,by decide +kernel⟩
noncomputable def qR:aW:=["_law_size","_law_number","_law_word_here","_law_k"]
noncomputable def lJ:aW:=["_law_size","_law_number"]
theorem gG:aS qR lJ (aD eT):=⟨rfl,rfl,rfl,by decide +kernel,rfl,by decide +kernel,by decide +kernel⟩
noncomputable def oK:aW:=["_law_pot_here","_law_many","_law_found","_law_k","_law_size","_law_number"]
noncomputable def kN:aW:=["_law_pot_here","_law_many"]
theorem eQ:aS oK kN (aD eF):=⟨rfl,rfl,rfl,by decide +kernel,rfl,by decide +kernel,by decide +kernel⟩
noncomputable def iL:aW:=["_law_pot_here","_law_many","_law_sums","_law_names_here","_law_sure","_law_fixed","_law_left","_law_told","_law_name","_law_nought"]
noncomputable def kM:aW:=["_law_pot_here"]
theorem bX:aS iL kM (aD cZ):=⟨rfl,rfl,rfl,by decide +kernel,rfl,by decide +kernel,by decide +kernel⟩
noncomputable def mN:aW:=["_law_pot_here","_law_found","_law_k","_law_wish","_law_j"]
noncomputable def jT:aW:=["_law_pot_here"]
theorem d8:aS mN jT (aD dS):=⟨rfl,rfl,rfl,by decide +kernel,rfl,by decide +kernel,by decide +kernel⟩
noncomputable def lR:aW:=["_law_pot_here","_law_told","_law_own_here","_law_bare","_law_some"]
noncomputable def lN:aW:=["_law_pot_here","_law_told","_law_own_here"]
theorem kC:aS lR lN (aD eB):=⟨rfl,rfl,rfl,by decide +kernel,rfl,by decide +kernel,by decide +kernel⟩
noncomputable def iM:aW:=["_law_told","_law_room","_law_found"]
noncomputable def kO:aW:=["_law_told","_law_room"]
theorem jG:aS iM kO (aD dA):=⟨rfl,rfl,rfl,by decide +kernel,rfl,by decide +kernel,by decide +kernel⟩
noncomputable def qS:aW:=["_law_pot_here","_law_told","_law_own_here","_law_room","_law_deep","_law_heads_here","_law_name","_law_parts","_law_left","_law_row","_law_k","_law_more_here"]
noncomputable def gC:aW:=["_law_pot_here","_law_told","_law_own_here","_law_room","_law_deep"]
theorem cY:aS qS gC (aD dR):=⟨rfl,rfl,rfl,by decide +kernel,rfl,by decide +kernel,by decide +kernel⟩
noncomputable def qU:aW:=["_law_term_here"]
noncomputable def lL:aW:=["_law_term_here"]
theorem xM:aS qU lL (aD eV):=⟨rfl,rfl,rfl,by decide +kernel,rfl,by decide +kernel,by decide +kernel⟩
noncomputable def oM:aW:=["_law_one","_law_other","_law_here","_law_there"]
noncomputable def fH:aW:=["_law_one","_law_other"]
theorem mG:aS oM fH (aD dB):=⟨rfl,rfl,rfl,by decide +kernel,rfl,by decide +kernel,by decide +kernel⟩
noncomputable def mO:aW:=["_law_name","_law_nought","_law_parts","_law_found","_law_part"]
noncomputable def jU:aW:=["_law_name","_law_nought","_law_parts"]
theorem gH:aS mO jU (aD dU):=⟨rfl,rfl,rfl,by decide +kernel,rfl,by decide +kernel,by decide +kernel⟩
noncomputable def lT:aW:=["_law_told","_law_term_here","_law_parts","_law_noughts","_law_found","_law_part","_law_at"]
noncomputable def gE:aW:=["_law_told","_law_term_here"]
theorem eC:aS lT gE (aD dG):=⟨rfl,rfl,rfl,by decide +kernel,rfl,by decide +kernel,by decide +kernel⟩
noncomputable def RD:aW:=["_law_script","_law_pot_here","_law_told","_law_signs_here","_law_some","_law_k"]
noncomputable def N6:aW:=["_law_script"]
theorem pC:aS RD N6 (aD mH):=⟨rfl,rfl,rfl,by decide +kernel,rfl,by decide +kernel,by decide +kernel⟩
noncomputable def qC:aW:=["thing"]
noncomputable def p9:aW:=["thing"]
theorem B5:aS qC p9 (aD fX):=⟨rfl,rfl,rfl,by decide +kernel,rfl,by decide +kernel,by decide +kernel⟩
noncomputable def uA:aW:=["signs","thing"]
noncomputable def nB:aW:=["signs","thing"]
theorem zL:aS uA nB (aD fR):=⟨rfl,rfl,rfl,by decide +kernel,rfl,by decide +kernel,by decide +kernel⟩
noncomputable def kQ:aW:=["signs","thing","todo","at","depth"]
noncomputable def kK:aW:=["signs","thing"]
theorem g9:aS kQ kK (aD dQ):=⟨rfl,rfl,rfl,by decide +kernel,rfl,by decide +kernel,by decide +kernel⟩
noncomputable def BC:aW:=["term","found","todo","at"]
noncomputable def tX:aW:=["term"]
theorem lW:aS BC tX (aD iS):=⟨rfl,rfl,rfl,by decide +kernel,rfl,by decide +kernel,by decide +kernel⟩
noncomputable def oJ:aW:=["term"]
noncomputable def kJ:aW:=["term"]
theorem uM:aS oJ kJ (aD eD):=⟨rfl,rfl,rfl,by decide +kernel,rfl,by decide +kernel,by decide +kernel⟩
noncomputable def lQ:aW:=["term"]
noncomputable def lI:aW:=["term"]
theorem xK:aS lQ lI (aD eA):=⟨rfl,rfl,rfl,by decide +kernel,rfl,by decide +kernel,by decide +kernel⟩
noncomputable def BD:aW:=["name","term"]
noncomputable def tZ:aW:=["name","term"]
theorem FG:aS BD tZ (aD iT):=⟨rfl,rfl,rfl,by decide +kernel,rfl,by decide +kernel,by decide +kernel⟩
noncomputable def uB:aW:=["name","nought","parts","left","part"]
noncomputable def nC:aW:=["name","nought","parts"]
theorem kY:aS uB nC (aD fS):=⟨rfl,rfl,rfl,by decide +kernel,rfl,by decide +kernel,by decide +kernel⟩
noncomputable def kT:aW:=["signs","name","parts","nought"]
noncomputable def iA:aW:=["signs","name","parts"]
theorem j5:aS kT iA (aD cU):=⟨rfl,rfl,rfl,by decide +kernel,rfl,by decide +kernel,by decide +kernel⟩
noncomputable def jW:aW:=["term","filling","whole","made","at","parts"]
noncomputable def jQ:aW:=["term","filling","whole"]
theorem gF:aS jW jQ (aD dE):=⟨rfl,rfl,rfl,by decide +kernel,rfl,by decide +kernel,by decide +kernel⟩
noncomputable def KM:aW:=["signs","filling","term"]
noncomputable def tY:aW:=["signs","filling","term"]
theorem FF:aS KM tY (aD cX):=⟨rfl,rfl,rfl,by decide +kernel,rfl,by decide +kernel,by decide +kernel⟩
noncomputable def qD:aW:=["thing"]
noncomputable def qB:aW:=["thing"]
theorem B7:aS qD qB (aD fY):=⟨rfl,rfl,rfl,by decide +kernel,rfl,by decide +kernel,by decide +kernel⟩
noncomputable def t8:aW:=["thing"]
noncomputable def nA:aW:=["thing"]
theorem zK:aS t8 nA (aD fQ):=⟨rfl,rfl,rfl,by decide +kernel,rfl,by decide +kernel,by decide +kernel⟩
noncomputable def iF:aW:=["thing","least","most","pair"]
noncomputable def iB:aW:=["thing","least","most"]
theorem j6:aS iF iB (aD cG):=⟨rfl,rfl,rfl,by decide +kernel,rfl,by decide +kernel,by decide +kernel⟩
noncomputable def hO:aW:=["pairs","names"]
noncomputable def jS:aW:=["pairs"]
theorem lA:aS hO jS (aD cN):=⟨rfl,rfl,rfl,by decide +kernel,rfl,by decide +kernel,by decide +kernel⟩
noncomputable def jX:aW:=["fixed_rows","name","many"]
noncomputable def jR:aW:=["fixed_rows"]
theorem kZ:aS jX jR (aD dF):=⟨rfl,rfl,rfl,by decide +kernel,rfl,by decide +kernel,by decide +kernel⟩
noncomputable def iG:aW:=["sum_rows","bare_names","name","nought","noughts"]
noncomputable def iC:aW:=["sum_rows","bare_names"]
theorem gX:aS iG iC (aD cH):=⟨rfl,rfl,rfl,by decide +kernel,rfl,by decide +kernel,by decide +kernel⟩
noncomputable def g7:aW:=["self","fixed","sums","fixed_rows","sum_rows"]
noncomputable def gZ:aW:=["self","fixed","sums"]
theorem gJ:aS g7 gZ (aD cB):=⟨rfl,rfl,rfl,by decide +kernel,rfl,by decide +kernel,by decide +kernel⟩
noncomputable def oN:aW:=["self","name"]
noncomputable def kP:aW:=["self","name"]
theorem uN:aS oN kP (aD eG):=⟨rfl,rfl,rfl,by decide +kernel,rfl,by decide +kernel,by decide +kernel⟩
noncomputable def lU:aW:=["self","name"]
noncomputable def iZ:aW:=["self","name"]
theorem qW:aS lU iZ (aD dL):=⟨rfl,rfl,rfl,by decide +kernel,rfl,by decide +kernel,by decide +kernel⟩
noncomputable def G9:aW:=["signs","thing"]
noncomputable def qA:aW:=["signs","thing"]
theorem B6:aS G9 qA (aD gY):=⟨rfl,rfl,rfl,by decide +kernel,rfl,by decide +kernel,by decide +kernel⟩
noncomputable def qZ:aW:=["signs","thing","wish","term"]
noncomputable def iD:aW:=["signs","thing"]
theorem j7:aS qZ iD (aD cV):=⟨rfl,rfl,rfl,by decide +kernel,rfl,by decide +kernel,by decide +kernel⟩
noncomputable def lP:aW:=["filling"]
noncomputable def iW:aW:=["filling"]
theorem qV:aS lP iW (aD cQ):=⟨rfl,rfl,rfl,by decide +kernel,rfl,by decide +kernel,by decide +kernel⟩
noncomputable def mM:aW:=["signs","filling"]
noncomputable def jP:aW:=["signs","filling"]
theorem rX:aS mM jP (aD dD):=⟨rfl,rfl,rfl,by decide +kernel,rfl,by decide +kernel,by decide +kernel⟩
noncomputable def uD:aW:=["_law_pot_here","_law_told","_law_wish","_law_noughts","_law_way","_law_name","_law_nought"]
noncomputable def nF:aW:=["_law_pot_here","_law_told","_law_wish"]
theorem jA:aS uD nF (aD eW):=⟨rfl,rfl,rfl,by decide +kernel,rfl,by decide +kernel,by decide +kernel⟩
noncomputable def uF:aW:=["_law_pot_here","_law_told","_law_some","_law_found","_law_many","_law_k","_law_wish"]
noncomputable def iY:aW:=["_law_pot_here","_law_told","_law_some"]
theorem eM:aS uF iY (aD dJ):=⟨rfl,rfl,rfl,by decide +kernel,rfl,by decide +kernel,by decide +kernel⟩
noncomputable def BE:aW:=["_law_pot_here","_law_some"]
noncomputable def lM:aW:=["_law_pot_here"]
theorem nS:aS BE lM (aD eX):=⟨rfl,rfl,rfl,by decide +kernel,rfl,by decide +kernel,by decide +kernel⟩
noncomputable def uR:aW:=["_law_told","_law_filling_here","_law_found","_law_wish","_law_term_here"]
noncomputable def jV:aW:=["_law_told","_law_filling_here"]
theorem gI:aS uR jV (aD dW):=⟨rfl,rfl,rfl,by decide +kernel,rfl,by decide +kernel,by decide +kernel⟩
noncomputable def y0:aW:=["_law_filling_here","_law_wish"]
noncomputable def kL:aW:=["_law_filling_here"]
theorem mF:aS y0 kL (aD eE):=⟨rfl,rfl,rfl,by decide +kernel,rfl,by decide +kernel,by decide +kernel⟩
noncomputable def uE:aW:=["_law_signs_here","_law_told","_law_filling_here","_law_due","_law_held","_law_found","_law_again"]
noncomputable def iX:aW:=["_law_signs_here","_law_told","_law_filling_here"]
theorem eL:aS uE iX (aD dI):=⟨rfl,rfl,rfl,by decide +kernel,rfl,by decide +kernel,by decide +kernel⟩
structure Txt (mg:fM):Prop where
 n_len:mg "len" = none
 n_range:mg "range" = none
 n_int:mg "int" = none
 n_abs:mg "abs" = none
 n_min:mg "min" = none
 n_max:mg "max" = none
 n_tuple:mg "tuple" = none
 n_list:mg "list" = none
 n_dict:mg "dict" = none
 n_set:mg "set" = none
 n_isinstance:mg "isinstance" = none
 n_str:mg "str" = none
 n_bool:mg "bool" = none
 n_sorted:mg "sorted" = none
 n_reversed:mg "reversed" = none
 n_all:mg "all" = none
 n_any:mg "any" = none
 n_zip:mg "zip" = none
 n_repr:mg "repr" = none
 c_WISH_SIGNS:∃u,mg "WISH_SIGNS" = some u/\aT (.str "abcdefghijklmnopqrstuvwxyz0123456789") u
 c_LETTERS:∃u,mg "LETTERS" = some u/\aT (.str "abcdefghijklmnopqrstuvwxyz") u
 c_LONGEST_WISH:∃u,mg "LONGEST_WISH" = some u/\aT (.int 9) u
 c_DEEPEST:∃u,mg "DEEPEST" = some u/\aT (.int 1000) u
 c_LONGEST_NAME:∃u,mg "LONGEST_NAME" = some u/\aT (.int 6) u
 c_MOST_FIXED:∃u,mg "MOST_FIXED" = some u/\aT (.int 12) u
 c_MOST_SUMS:∃u,mg "MOST_SUMS" = some u/\aT (.int 3) u
 c_MOST_PARTS:∃u,mg "MOST_PARTS" = some u/\aT (.int 3) u
section
variable {P:Program}{w:World}{K:PySem.W.Frag}{mg:fM}{base:Heap}
noncomputable def B3 (K:PySem.W.Frag):Sp:=fun vs H Q _=>∃(a:Addr) (k:Int) (ns:List Int),vs=[.ref a,.int k]/\fA K H a (ns.map V.int)/\0<=k/\k<=1000/\∀n,Q (.int n) H
theorem MO {f:Addr}{B:FuncData}(F:gU K "_law_cell" "_law_cell" eY f B)(T:Txt mg):cA P w K mg base a0 1 f B lO (B3 K):=by
 refine F.ok xN (fun vs H Q E h=>?_) (fun S A outer s H vs Q E I h=>?_)
 ·obtain⟨a,k,ns,rfl,_⟩:=h;rfl
 ·obtain⟨a,k,ns,rfl,j,N,U,q⟩:=h;have G:=I.units
  refine⟨_,(aF (bK (aV (jH G) (pv 1) (aK kH rfl T.n_len rfl (aA (pv 0) aC)) (nomark _)) (aG (aQ (bP JR (pv 0) (pv 1) (fun _ _=>rfl)))) aU)
   (aG (aQ aJ))),?_⟩
  refine⟨_,rfl,_,rfl,a,_,rfl,.inl j,.inl (.inl ⟨_,_,rfl,rfl,_,rfl,?_⟩)⟩;refine ite2 (fun c=>?_) (fun c=>?_)
  ·have c:k<((ns.map V.int).length:Int):=by simpa using c
   have L:k.toNat<ns.length:=by rw[List.length_map]at c;omega
   refine⟨_,rfl,_,rfl,.inl ⟨a,_,k,.int (ns[k.toNat]),rfl,rfl,j,?_,q _⟩⟩;rw[jM N c];simp[L]
  ·exact q 0
noncomputable def spPot (K:PySem.W.Frag):Sp:=fun vs H Q _=>∃(a:Addr) (k:Int) (ns:List Int),vs=[.ref a,.int k]/\fA K H a (ns.map V.int)/\0<=k/\k<=1000/\∀p x y,H p=none->Q (.ref p) (upd H p (.lst [.int x,.int y]))
theorem PN {f:Addr}{B:FuncData}(F:gU K "_law_pot" "_law_pot" fT f B)(T:Txt mg)(O__law_cell:cK P w K mg base a0 1 "_law_cell" (B3 K)):cA P w K mg base a0 2 f B nE (spPot K):=by
 refine F.ok qF (fun vs H Q E h=>?_) (fun cdv A outer s H vs Q E j h=>?_)
 ·obtain⟨a,k,ns,rfl,_⟩:=h;rfl
 ·obtain⟨a,k,ns,rfl,I,N,L,q⟩:=h
  refine⟨_,(aF (aY (i:=2) qF.nd rfl (Or.inl rfl) (aM O__law_cell (j.mono (by decide)) pass0 rfl (aA (pv 0) (aA (pv 1) aC))))
   (aG (aQ (cI (aA (bO (pI.or pH) (pv 2) (cC pY rfl T.n_int rfl (aA (dY N0 (pv 2) (bO PB aJ aJ) (nomark _)) aC))) (aA (bO bV (bO bV (bO (pI.or pH) (bO sI (aK G5 rfl T.n_abs rfl (aA (pv 2) aC)) aJ) aJ) (bO (pI.or pH) aJ (pv 1))) aJ) aC)))))),?_⟩
  refine⟨_,rfl,_,rfl,a,k,ns,rfl,I,N,L,fun n=>?_⟩;simp only[uC];clear F T O__law_cell j
  walk_at "rd"
  have e1:RG 10 18:=⟨by decide,by decide,by decide⟩
  have Z:∀i:Int,HB i (if (10:Int) ^ Int.toNat 18<=n then 1 else 0):=fun i=>.inr (by split <;> decide);have U:∀i:Int,HB i 3:=fun i=>.inr (by decide);have S:∀i:Int,HB 977 i:=fun i=>.inl (by decide);exact⟨e1,Z _,by decide,U _,S _,by decide,fun p G=>q p _ _ G⟩
noncomputable def bE (H:Hp)(p:Addr):Prop:=∃a b:Int,H p=some (.lst [.int a,.int b])
theorem bE.but {p l:Addr}{H:Hp}{o:HO}(h:bE H p)(n:p≠l):bE (upd H l o) p:=by obtain⟨x,y,e⟩:=h;exact⟨x,y,by rw[aB n];exact e⟩
theorem bE.ne {p l:Addr}{H:Hp}(h:bE H p)(n:H l=none):p≠l:=by obtain⟨x,y,e⟩:=h;exact aE e n
noncomputable def fP:Sp:=fun vs H Q _=>∃p n,vs=[.ref p,.int n]/\bE H p/\0<n/\n<1073741824/\∀d a b,0<=d->d<n->Q (.int d) (upd H p (.lst [.int a,.int b]))
theorem MD {f:Addr}{q:FuncData}(F:gU K "_law_take" "_law_take" eU f q)(T:Txt mg):cA P w K mg base a0 1 f q lK fP:=by
 refine F.ok nR (fun vs H Q E h=>?_) (fun I A outer s H vs Q E B h=>?_)
 ·obtain⟨p,n,rfl,_⟩:=h;rfl
 ·obtain⟨p,n,rfl,⟨a,b,L⟩,j,G,k⟩:=h
  refine⟨_,(aF (bK (aV zV (bP dN (pv 0) aJ (fun _ _=>rfl)) aJ (nomark _)) (aF (aY (i:=2) nR.nd rfl (Or.inl rfl) (bO sI (bP dN (pv 0) aJ (fun _ _=>rfl)) (pv 1)))
   (aF (sA (bO rA (bP dN (pv 0) aJ (fun _ _=>rfl)) (pv 1)) (II (pv 0) aJ zJ))
   (aG (aQ (pv 2))))) aU)
   (aF (sA (bO sI (bO bV (bO (pI.or pH) (bP dN (pv 0) aJ (fun _ _=>rfl)) aJ) aJ) aJ) (II (pv 0) aJ zJ))
   (aG (aQ (bO sI (bO rA (bP dN (pv 0) aJ (fun _ _=>rfl)) aJ) (pv 1)))))),?_⟩
  simp only[qT];clear B F T
  walk_at "rd"
  split
  ·exact⟨⟨j,G⟩,k _ _ _ (Int.emod_nonneg _ (by omega)) (Int.emod_lt_of_pos _ j)⟩
  ·exact⟨.inr (by decide),by decide,⟨by decide,by decide⟩,k _ _ _ (Int.emod_nonneg _ (by omega)) (Int.emod_lt_of_pos _ j)⟩
noncomputable def BT:Sp:=fun vs H Q _=>∃(k:Nat) (n:Int),vs=[.int k,.int n]/\k<=6/\Q (.str (wordS k n)) H
theorem MA {f:Addr}{G:FuncData}(F:gU K "_law_word" "_law_word" eT f G)(T:Txt mg):cA P w K mg base a0 1 f G lJ BT:=by
 refine F.ok gG (fun vs H Q E h=>?_) (fun S A outer s H vs Q E L h=>?_)
 ·obtain⟨k,n,rfl,_⟩:=h;rfl
 ·obtain⟨k,n,rfl,U,q⟩:=h
  refine⟨_,(aF (aY (i:=2) gG.nd rfl (Or.inl rfl) gM)
   (aF (eI PassesOwn.never rfl (fZ rfl T.n_range (aA (pv 0) aC)) (bQ (i:=3) gG.nd rfl (Or.inl rfl)) (aF (aY (i:=2) gG.nd rfl (Or.inl rfl) (bO bV (pv 2) (bP dN gM (bO sI (pv 1) aJ) (fun _ _=>rfl))))
   (aG (aY (i:=1) gG.nd rfl (Or.inl rfl) (bO rA (pv 1) aJ)))))
   (aG (aQ (pv 2))))),?_⟩
  simp only[qR];clear L F T
  walk_at "rd"
  refine⟨by omega,by omega,?_⟩;rw[Int.toNat_natCast];refine fW (fun i σ H'=>H'=H/\∃(m:Int) (l:List Nat) (o:Option V),σ=[some (.int k),some (.int m),some (.str ⟨l.toArray⟩),o]/\l.length=i/\l++wordL (k - i) m=wordL k n) ⟨rfl,n,[],none,rfl,rfl,rfl⟩ ?_ ?_
  ·rintro i σ H' Z ⟨rfl,m,l,o,rfl,B,j⟩;have I:=P8 (H:=H') (i:=m % 26) (Int.emod_nonneg _ (by decide)) (Int.emod_lt_of_pos _ (by decide));have hx':ixV H' (.str (PySem.Str.ofString "abcdefghijklmnopqrstuvwxyz")) (.int (m % 26))=some (.str ⟨#[97+(m % 26).toNat]⟩):=I
   walk_at "rd"
   have N:k - i=(k - (i+1))+1:=by omega
   rw[N,wordL]at j;refine⟨by decide,_,if_pos (Nat.le_trans (m:=100) ?_ (by decide)),⟨by decide,by decide⟩,_,l++[97+(m % 26).toNat],⟨rfl,congrArg V.str ?_⟩,by simp[B],by rw[List.append_assoc];exact j⟩
   ·show l.toArray.size+1<=100;rw[List.size_toArray];omega
   ·exact congrArg Str.mk (by simp)
  ·rintro σ H' ⟨rfl,m,l,o,rfl,B,j⟩
   walk_at "rd"
   rw[Nat.sub_self,wordL,List.append_nil]at j;rw[j];exact q
noncomputable def xD:Sp:=fun vs H Q _=>∃(p:Addr) (m:Nat),vs=[.ref p,.int m]/\bE H p/\m<=15/\∀(l:Addr) (ws:aW) (H':Hp),H l=none->H' l=some (.lst (ws.map V.str))->bT p H H'->bE H' p->ws.length=m->ws.Nodup->(∀x∈ws,i0 x)->Q (.ref l) H'
noncomputable def RQ (p l:Addr)(m:Nat)(H:Hp)(i:Nat)(σ:St)(q:Hp):Prop:=∃(j:aW) (o1 o2 o3:Option V),σ=[some (.ref p),some (.int m),some (.ref l),o1,o2,o3]/\q l=some (.lst (j.map V.str))/\bT p H q/\bE q p/\j.length=i/\j.Nodup/\∀x∈j,i0 x
theorem I9 {f:Addr}{fd:FuncData}(F:gU K "_law_names" "_law_names" eF f fd)(T:Txt mg)(O__law_take:cK P w K mg base a0 1 "_law_take" fP)(O__law_word:cK P w K mg base a0 1 "_law_word" BT):cA P w K mg base a0 2 f fd kN xD:=by
 refine F.ok eQ (fun vs H Q E h=>?_) (fun cdv A outer s H vs Q E N h=>?_)
 ·obtain⟨p,m,rfl,_⟩:=h;rfl
 ·obtain⟨p,m,rfl,hp,hm,q⟩:=h;have hu:=N.units
  refine⟨_,(aF (aY (i:=2) eQ.nd rfl (Or.inl rfl) (cI aC))
   (aF (eI PassesOwn.never rfl (fZ rfl T.n_range (aA (pv 1) aC)) (bQ (i:=3) eQ.nd rfl (Or.inl rfl)) (aF (aY (i:=4) eQ.nd rfl (Or.inl rfl) (bO bV aJ (aM O__law_take (N.mono (by decide)) pass0 rfl (aA (pv 0) (aA aJ aC)))))
   (aF (aY (i:=5) eQ.nd rfl (Or.inl rfl) (aM O__law_take (N.mono (by decide)) pass0 rfl (aA (pv 0) (aA (bP dN (cI (aA aJ (aA aJ (aA aJ (aA aJ (aA aJ (aA aJ aC))))))) (bO pG (pv 4) aJ) (fun _ _=>rfl)) aC))))
   (aF (nV PassesOwn.never (aV (PJ hu) (aM O__law_word (N.mono (by decide)) pass0 rfl (aA (pv 4) (aA (pv 5) aC))) (pv 2) (by with_unfolding_all rfl)) (aG (aY (i:=5) eQ.nd rfl (Or.inl rfl) (bO bV (pv 5) aJ))))
   (aG (cJ (jC PySem.F.plainAttrs_list PySem.F.slot_list_append PySem.F.type_list_append fF (pv 2) (aA (aM O__law_word (N.mono (by decide)) pass0 rfl (aA (pv 4) (aA (pv 5) aC))) aC))))))))
   (aG (aQ (pv 2))))),?_⟩
  simp only[oK];clear N F T O__law_take O__law_word hu
  walk_at "rd"
  refine⟨by decide,fun l hl=>⟨by omega,by omega,?_⟩⟩;rw[Int.toNat_natCast];have L:p≠l:=by obtain⟨a,b,e⟩:=hp;exact aE e hl
  refine fW (RQ p l m H)
   ⟨[],none,none,none,rfl,upd_same,bT.new hl,by obtain⟨a,b,e⟩:=hp;exact⟨a,b,by rw[aB L];exact e⟩,rfl,List.nodup_nil,by simp⟩ ?_ ?_
  ·rintro i σ H1 hi ⟨I,o1,o2,o3,rfl,U,hb,Z,S,nd,ok⟩;clear q
   walk_at "rd"
   refine⟨p,6,rfl,Z,by decide,by decide,fun d a b h0 h1=>?_⟩;obtain⟨G,hkk⟩:∃G:Nat,(G:Int)=1+d:=⟨(1+d).toNat,by omega⟩
   clear Z
   walk_at "rd"
   rw[←hkk];refine⟨by decide,fun r N=>?_⟩;have npr:p≠r:=aE upd_same N;have nlr:l≠r:=aE (by rw[aB L.symm];exact U) N;obtain⟨B,hB,hB0,hB1⟩:∃B:Int,atI [V.int 26,V.int 676,V.int 17576,V.int 456976,V.int 11881376,V.int 308915776] ((G:Int) - 1)=some (.int B)/\0<B/\B<1073741824:=by
    have:G=1∨G=2∨G=3∨G=4∨G=5∨G=6:=by omega
    rcases this with rfl|rfl|rfl|rfl|rfl|rfl
    ·exact⟨26,by decide,by decide,by decide⟩
    ·exact⟨676,by decide,by decide,by decide⟩
    ·exact⟨17576,by decide,by decide,by decide⟩
    ·exact⟨456976,by decide,by decide,by decide⟩
    ·exact⟨11881376,by decide,by decide,by decide⟩
    ·exact⟨308915776,by decide,by decide,by decide⟩
   refine⟨_,hB,p,B,rfl,⟨a,b,by rw[aB npr,upd_same]⟩,hB0,hB1,fun n a2 b2 hn0 hn1=>?_⟩;have hl4:upd (upd (upd H1 p (.lst [.int a,.int b])) r (.lst [.int 26,.int 676,.int 17576,.int 456976,.int 11881376,.int 308915776])) p (.lst [.int a2,.int b2]) l=some (.lst (I.map V.str)):=by rw[aB L.symm,aB nlr,aB L.symm];exact U
   have hb4:bT p H (upd (upd (upd H1 p (.lst [.int a,.int b])) r (.lst [.int 26,.int 676,.int 17576,.int 456976,.int 11881376,.int 308915776])) p (.lst [.int a2,.int b2])) :=
    hb.trans (((bT.upd p H1 _).trans (bT.new N)).trans (bT.upd p _ _))
   have hp4:bE (upd (upd (upd H1 p (.lst [.int a,.int b])) r (.lst [.int 26,.int 676,.int 17576,.int 456976,.int 11881376,.int 308915776])) p (.lst [.int a2,.int b2])) p:=⟨a2,b2,upd_same⟩
   generalize upd (upd (upd H1 p (.lst [.int a,.int b])) r (.lst [.int 26,.int 676,.int 17576,.int 456976,.int 11881376,.int 308915776])) p (.lst [.int a2,.int b2])=H4 at hl4 hb4 hp4⊢;clear N npr nlr hB hB0 hB1 U hb;refine OH (fun σ' H'=>H'=H4/\∃t:Nat,σ'=[some (.ref p),some (.int m),some (.ref l),some (.int (0+i)),some (.int G),some (.int (n+t))]/\∀j:Nat,j<t->wordS G (n+j)∈I)
    (fun(σ':St) (_:Hp)=>match σ'[5]? with|some (some (V.int x))=>(n+30 - x).toNat|_=>0) ⟨rfl,0,by simp,by simp⟩ ?_
   rintro σ' H' ⟨rfl,t,rfl,ht⟩;have ht26:t<=26->t<=I.length:=fun h=>oP (by omega) h ht;have hty:=tyL (K:=K) hl4;refine⟨decide (wordS G (n+t)∈I),fun R hR=>?_,fun hb=>?_,fun hb=>?_⟩
   ·have hin:=tE (x:=wordS G (n+t)) I;refine⟨_,rfl,_,rfl,G,n+t,rfl,by omega,_,rfl,.inl ⟨.str _,I.map D.str,rfl,.inl ⟨l,_,rfl,hl4,pD I⟩,by rw[tL];decide,_,rfl,?_⟩⟩;show R (inD _ _) _;rw[hin];exact hR
   ·have hmem:wordS G (n+t)∈I:=of_decide_eq_true hb;have hall:∀j:Nat,j<t+1->wordS G (n+j)∈I:=fun j hj=>by
     by_cases e:j<t
     ·exact ht j e
     ·have:j=t:=by omega
      subst this;exact hmem
    have few:t<26->t+1<=I.length:=fun h=>oP (by omega) (by omega) hall;refine⟨_,rfl,.inl ⟨_,rfl,⟨rfl,t+1,?_,hall⟩,?_⟩⟩
    ·simp only[List.set_cons_zero,List.set_cons_succ];have:n+(t:Int)+1=n+((t+1:Nat):Int):=by omega
     rw[this]
    ·have ht25:t<26:=by
      by_cases e:t<26
      ·exact e
      ·have:=oP (t:=16) (n:=n) (by omega:1<=G) (by omega) fun j hj=>ht j (by omega);omega
     have:=few ht25;show(n+30 - (n+(t:Int)+1)).toNat<(n+30 - (n+(t:Int))).toNat;omega
   ·have hnm:wordS G (n+t)∉I:=of_decide_eq_false hb;refine⟨_,rfl,hty,_,rfl,_,rfl,G,n+t,rfl,by omega,l,_,_,rfl,rfl,hl4,Nat.lt_of_le_of_lt (m:=100) (by rw[List.length_map];omega) (by decide),?_⟩;refine⟨I++[wordS G (n+t)],_,_,_,rfl,?_,fun c o hc e=>?_,?_,by simp[S],D8 nd hnm,fun x hx=>?_⟩
    ·rw[upd_same,List.map_append];rfl
    ·have nlc:c≠l:=aE e hl;rw[aB nlc];exact hb4 c o hc e
    ·obtain⟨a3,b3,e3⟩:=hp4;exact⟨a3,b3,by rw[aB L];exact e3⟩
    ·obtain h|h:=List.mem_append.mp hx
     ·exact ok x h
     ·rw[List.mem_singleton.mp h];exact HC (by omega) (by omega)
  ·rintro σ H1 ⟨I,o1,o2,o3,rfl,U,hb,Z,S,nd,ok⟩;exact⟨_,rfl,q l I H1 hl U hb Z S nd ok⟩
end
section
variable {P:Program}{w:World}{K:PySem.W.Frag}{mg:fM}{base:Heap}
noncomputable def bC (H H':Hp):Prop:=∀b xs,H b=some (.tup xs)->H' b=some (.tup xs)
theorem bC.refl (H:Hp):bC H H:=fun _ _ h=>h
theorem bC.trans {H q j:Hp}(a:bC H q)(b:bC q j):bC H j:=fun c xs h=>b c xs (a c xs h)
theorem bC.of {H H':Hp}(s:aH H H'):bC H H':=fun b xs h=>s b _ h
theorem bC.lst {H:Hp}{a:Addr}{ys:List V}{o:HO}(h:H a=some (.lst ys)):bC H (upd H a o):=fun b xs e=>by rw[aB (fun z=>by rw[z,h]at e;cases e)];exact e
theorem yW {p a:Addr}{H H':Hp}{o:HO}(h:bT p H H')(n:H a=none):bT p H (upd H' a o):=fun c u nc e=>by rw[aB (aE e n)];exact h c u nc e
theorem bC.pot {H:Hp}{p:Addr}{o:HO}(h:bE H p):bC H (upd H p o):=by obtain⟨x,y,e⟩:=h;exact bC.lst e
noncomputable def dX (H:Hp):cL->List V->Prop
 | [],vs=>vs=[]
 | r::l,vs=>∃t us,vs = .ref t::us/\H t=some (.tup [.str r.1,.int r.2])/\dX H l us
noncomputable def d9 (H:Hp):bM->List V->Prop
 | [],vs=>vs=[]
 | r::l,vs=>∃t us,vs = .ref t::us/\H t=some (.tup [.str r.1,.str r.2])/\d9 H l us
theorem dX.same {H H':Hp}(s:bC H H'):∀{l:cL} {vs:List V},dX H l vs->dX H' l vs
 | [],_,h=>h
 | _::_,_,⟨t,us,e,h,q⟩=>⟨t,us,e,s _ _ h,dX.same s q⟩
theorem d9.same {H H':Hp}(s:bC H H'):∀{l:bM} {vs:List V},d9 H l vs->d9 H' l vs
 | [],_,h=>h
 | _::_,_,⟨t,us,e,h,q⟩=>⟨t,us,e,s _ _ h,d9.same s q⟩
theorem dX.snoc {H:Hp}{n:Str}{k:Int}{t:Addr}(j:H t=some (.tup [.str n,.int k])):∀{l:cL} {vs:List V},dX H l vs->dX H (l++[(n,k)]) (vs++[.ref t])
 | [],_,h=>by cases h;exact⟨t,[],rfl,j,rfl⟩
 | _::_,_,⟨u,us,e,h,q⟩=>by subst e;exact⟨u,us++[.ref t],rfl,h,dX.snoc j q⟩
theorem d9.snoc {H:Hp}{n k:Str}{t:Addr}(j:H t=some (.tup [.str n,.str k])):∀{l:bM} {vs:List V},d9 H l vs->d9 H (l++[(n,k)]) (vs++[.ref t])
 | [],_,h=>by cases h;exact⟨t,[],rfl,j,rfl⟩
 | _::_,_,⟨u,us,e,h,q⟩=>by subst e;exact⟨u,us++[.ref t],rfl,h,d9.snoc j q⟩
theorem dX.len {H:Hp}:∀{l:cL} {vs:List V},dX H l vs->vs.length=l.length
 | [],_,h=>by cases h;rfl
 | _::_,_,⟨t,us,e,h,q⟩=>by subst e;simp[dX.len q]
theorem dX.get {H:Hp}:∀{l:cL} {vs:List V} {i:Nat} {v:V},dX H l vs->vs[i]?=some v->∃r t,l[i]?=some r/\v = .ref t/\H t=some (.tup [.str r.1,.int r.2])
 | [],_,_,_,h,e=>by cases h;simp at e
 | r::_,_,0,_,⟨t,us,e,h,q⟩,k=>by subst e;simp at k;exact⟨r,t,rfl,k.symm,h⟩
 | _::_,_,i+1,_,⟨t,us,e,h,q⟩,k=>by subst e;simp at k;obtain⟨r,t,G,B,j⟩:=dX.get q k;exact⟨r,t,by simpa using G,B,j⟩
noncomputable def zeros (j:cL):aW:=(j.filter fun r=>decide (r.2=0)).map (·.1)
structure bW (fx:cL)(sm:bM):Prop where
 f1:1<=fx.length
 f2:fx.length<=12
 s2:sm.length<=3
 nm:∀x∈fx.map (·.1)++sm.map (·.1),i0 x
 nd:(fx.map (·.1)++sm.map (·.1)).Nodup
 parts:∀r∈fx,0<=r.2/\r.2<=3
 bare:∃r∈fx,r.2=0
 nought:∀r∈sm,r.2≠("" : Str)->r.2∈zeros fx
 once:((sm.map (·.2)).filter fun(x:Str)=>decide (x≠("" : Str))).Nodup
theorem iR (j:cL)(r:Str×Int):zeros (j++[r])=zeros j++(if r.2=0 then [r.1]else []):=by unfold zeros;rw[List.filter_append,List.map_append];congr 1;by_cases z:r.2=0 <;> simp[z]
theorem iP (j:cL):(zeros j).Sublist (j.map (·.1)):=List.Sublist.map _ List.filter_sublist
theorem aZ {α:Type}{xs:List α}{i:Nat}{x:α}(h:xs[i]?=some x):xs.take (i+1)=xs.take i++[x]:=by rw[List.take_succ,h];rfl
theorem tO (xs:List V)(n:Nat):cutV xs (some (n:Int)) none=xs.drop n:=by
 unfold cutV;rw[HT.sIx_nat,HT.sIx_none,←List.length_drop];rcases Nat.le_total n xs.length with h|h
 ·rw[Nat.min_eq_left h,List.take_length]
 ·rw[Nat.min_eq_right h,List.drop_eq_nil_of_le h,List.drop_eq_nil_of_le (Nat.le_refl _)];rfl
theorem vN {α β:Type}(f:α->β):∀(l:List α) (k:Nat),(l.map f).eraseIdx k=(l.eraseIdx k).map f
 | [],_=>rfl
 | _::_,0=>rfl
 | a::l,k+1=>by show f a::(l.map f).eraseIdx k=f a::(l.eraseIdx k).map f;rw[vN f l k]
theorem vM {α:Type}{l:List α}{k:Nat}{x:α}(h:x∈l.eraseIdx k):x∈l:=List.eraseIdx_subset h
theorem mI {α:Type}:∀{l:List α} {k:Nat} {x:α},l.Nodup->l[k]?=some x->x∉l.eraseIdx k
 | [],_,_,_,z=>by simp at z
 | a::l,0,x,n,h=>by simp at h;subst h;exact(List.nodup_cons.mp n).1
 | a::l,k+1,x,n,h=>by
  simp at h;intro m;obtain e|e:=List.mem_cons.mp m
  ·subst e;exact(List.nodup_cons.mp n).1 (List.mem_of_getElem? h)
  ·exact mI (List.nodup_cons.mp n).2 h e
structure NS (fx:cL)(ns:aW)(sm:bM)(lz:aW):Prop where
 names:sm.map (·.1)=ns
 lzl:lz.length<=(zeros fx).length
 lzn:lz.Nodup
 lz1:∀x∈lz,x∈zeros fx
 no:∀r∈sm,r.2≠("" : Str)->r.2∈zeros fx/\r.2∉lz
 once:((sm.map (·.2)).filter fun(x:Str)=>decide (x≠("" : Str))).Nodup
theorem NS.none {q:cL}{ns:aW}{sm:bM}{j:aW}(h:NS q ns sm j)(n:Str):NS q (ns++[n]) (sm++[(n,("" : Str))]) j:=by
 refine⟨by rw[List.map_append,h.names];rfl,h.lzl,h.lzn,h.lz1,fun r B ne=>?_,?_⟩
 ·obtain m|m:=List.mem_append.mp B
  ·exact h.no r m ne
  ·rw[List.mem_singleton.mp m]at ne;exact absurd rfl ne
 ·rw[List.map_append,List.filter_append];have e:(List.filter (fun(x:Str)=>decide (x≠("" : Str))) (List.map (fun r:Str×Str=>r.2) [(n,("" : Str))]))=[]:=by simp
  rw[e,List.append_nil];exact h.once
theorem NS.pop {I:cL}{ns:aW}{sm:bM}{j:aW}(h:NS I ns sm j)(n:Str){k:Nat}{y:Str}(G:j[k]?=some y):NS I (ns++[n]) (sm++[(n,y)]) (j.eraseIdx k):=by
 have B:=List.mem_of_getElem? G;refine⟨by rw[List.map_append,h.names];rfl,Nat.le_trans (List.eraseIdx_sublist _ _).length_le h.lzl,h.lzn.sublist (List.eraseIdx_sublist _ _),fun x hx=>h.lz1 x (vM hx),fun r q ne=>?_,?_⟩
 ·obtain m|m:=List.mem_append.mp q
  ·exact⟨(h.no r m ne).1,fun z=>(h.no r m ne).2 (vM z)⟩
  ·rw[List.mem_singleton.mp m];exact⟨h.lz1 y B,mI h.lzn G⟩
 ·rw[List.map_append,List.filter_append];refine List.nodup_append.mpr ⟨h.once,?_,?_⟩
  ·by_cases z:y=("" : Str) <;> simp[z]
  ·intro a ha b hb e;subst e;obtain⟨Z,U⟩:=List.mem_filter.mp ha;obtain⟨r,q,L⟩:=List.mem_map.mp Z;have N:a=y:=by
    obtain⟨S,_⟩:=List.mem_filter.mp hb
    simpa using S
   have ne:r.2≠("" : Str):=by rw[L];simpa using U
   exact(h.no r q ne).2 (by rw[L,N];exact B)
structure RF (p fl lf tl sl:Addr)(H:Hp):Prop where
 fp:fl≠p
 lp:lf≠p
 tp:tl≠p
 sp:sl≠p
 lf1:lf≠fl
 ls:lf≠sl
 lt:lf≠tl
 tf:tl≠fl
 ts:tl≠sl
 nl:H lf=none
 nt:H tl=none
structure HS (p fl lf tl sl:Addr)(H:Hp)(fx:cL)(acc zl:List V)(lv:List V)(sm:bM)(sv:List V)(H':Hp):Prop where
 b:bT p H H'
 pot:bE H' p
 f:H' fl=some (.lst acc)
 r:dX H' fx acc
 l:H' lf=some (.lst lv)
 t:H' tl=some (.lst sv)
 s:d9 H' sm sv
 z:H' sl=some (.lst zl)
section
variable {p fl lf tl sl:Addr}{H H':Hp}{fx:cL}{acc zl lv sv:List V}{sm:bM}
theorem HS.new (h:HS p fl lf tl sl H fx acc zl lv sm sv H'){q:Addr}{o:HO}(j:H' q=none):HS p fl lf tl sl H fx acc zl lv sm sv (upd H' q o) :=
 ⟨h.b.trans (bT.new j),h.pot.but (h.pot.ne j),by rw[aB (aE h.f j)];exact h.f,h.r.same (bC.of (aH.upd j)),by rw[aB (aE h.l j)];exact h.l,by rw[aB (aE h.t j)];exact h.t,h.s.same (bC.of (aH.upd j)),by rw[aB (aE h.z j)];exact h.z⟩
theorem HS.take (h:HS p fl lf tl sl H fx acc zl lv sm sv H')(d:RF p fl lf tl sl H)(x y:Int):HS p fl lf tl sl H fx acc zl lv sm sv (upd H' p (.lst [.int x,.int y])) :=
 ⟨h.b.trans (bT.upd _ _ _),⟨_,_,upd_same⟩,by rw[aB d.fp];exact h.f,h.r.same (bC.pot h.pot),by rw[aB d.lp];exact h.l,by rw[aB d.tp];exact h.t,h.s.same (bC.pot h.pot),by rw[aB d.sp];exact h.z⟩
theorem HS.left (h:HS p fl lf tl sl H fx acc zl lv sm sv H')(d:RF p fl lf tl sl H)(j:List V):HS p fl lf tl sl H fx acc zl j sm sv (upd H' lf (.lst j)) :=
 ⟨yW h.b d.nl,h.pot.but d.lp.symm,by rw[aB d.lf1.symm];exact h.f,h.r.same (bC.lst h.l),upd_same,by rw[aB d.lt.symm];exact h.t,h.s.same (bC.lst h.l),by rw[aB d.ls.symm];exact h.z⟩
theorem HS.told (h:HS p fl lf tl sl H fx acc zl lv sm sv H')(d:RF p fl lf tl sl H){q:bM}{j:List V}(B:d9 H' q j):HS p fl lf tl sl H fx acc zl lv q j (upd H' tl (.lst j)) :=
 ⟨yW h.b d.nt,h.pot.but d.tp.symm,by rw[aB d.tf.symm];exact h.f,h.r.same (bC.lst h.t),by rw[aB d.lt];exact h.l,upd_same,B.same (bC.lst h.t),by rw[aB d.ts.symm];exact h.z⟩
end
noncomputable def LI (q:cL)(G:Hp)(i:Nat)(j:List V)(σ:St)(B:Hp):Prop:=∃o1 o2:Option V,σ=[o1,o2]/\B=G/\j=(zeros (q.take i)).map V.str
noncomputable def SI (p N I tl Z l:Addr)(j B q:Nat)(U:aW)(L:cL)(G S:List V)(H:Hp)(i:Nat)(σ:St)(H':Hp):Prop :=
 ∃(o8 o9:Option V) (sm:bM) (lz:aW) (sv:List V),σ=[some (.ref p),some (.int j),some (.int B),some (.ref l),some (.int q),some (.ref N),some (.ref I),some (.ref tl),o8,o9]/\HS p N I tl Z H L G S (lz.map V.str) sm sv H'/\NS L ((U.drop j).take i) sm lz/\sv.length=i
theorem zN (H:Hp):∀j:aW,Reps H (j.map D.str) (j.map V.str)
 | []=>rfl
 | _::l=>⟨_,_,rfl,rfl,zN H l⟩
theorem wE:∀j:aW,depDs (j.map D.str)=0
 | []=>rfl
 | _::l=>by rw[List.map_cons,depDs,wE l];rfl
theorem oT {p N I tl G:Addr}{H H':Hp}{U:cL}{j S lv B:List V}{sm:bM}{K0:PySem.W.Frag}{D:iN}{σ:St}{n y:Str}(d:RF p N I tl G H)(e7:σ[7]?=some (some (.ref tl)))(e8:σ[8]?=some (some (.str n)))(e9:σ[9]?=some (some (.str y)))
  (h:HS p N I tl G H U j S lv sm B H') (hl:B.length<20) (Z:∀t q,HS p N I tl G H U j S lv (sm++[(n,y)]) (B++[.ref t]) q->D.nx σ q):tDrop (tBM K0 "list" rAppend (tVar 7) (tCons (tTup (tCons (tVar 8) (tCons (tVar 9) tNil))) tNil)) D σ H':=by
 refine⟨_,e7,.inl ⟨rfl,_,fA.of h.t⟩,_,e8,_,e9,(by show 2<=sizeLine;decide),fun t L=>⟨tl,B,.ref t,rfl,rfl,(h.new L).t,Nat.lt_of_lt_of_le hl (by decide),?_⟩⟩;exact Z t _ ((h.new L).told d ((h.new L).s.snoc upd_same))
noncomputable def FI (p l:Addr)(I:aW)(j:Nat)(L:Hp)(i:Nat)(B:List V)(σ:St)(G:Hp):Prop :=
 ∃(q:cL) (o:Option V),σ=[o,some (.ref p),some (.ref l),some (.int j)]/\bT p L G/\bE G p/\q.map (·.1)=I.take i/\(∀r∈q,0<=r.2/\r.2<=3)/\(j<i->∃r∈q,r.2=0)/\dX G q B
noncomputable def w8:Sp:=fun vs H Q _=>∃p:Addr,vs=[.ref p]/\bE H p/\∀(t a b:Addr) (fx:cL) (sm:bM) (fv sv:List V) (H':Hp),bT p H H'->bE H' p->H' t=some (.tup [.ref a,.ref b])->H' a=some (.lst fv)->H' b=some (.lst sv)->dX H' fx fv->d9 H' sm sv->bW fx sm->a≠p->b≠p->Q (.ref t) H'
theorem IX {f:Addr}{fd:FuncData}(F:gU K "_law_signs" "_law_signs" cZ f fd)(T:Txt mg)(O__law_take:cK P w K mg base a0 1 "_law_take" fP)(O__law_names:cK P w K mg base a0 2 "_law_names" xD):cA P w K mg base a0 3 f fd kM w8:=by
 refine F.ok bX (fun vs H Q E h=>?_) (fun cdv A outer s H vs Q E hr h=>?_)
 ·obtain⟨p,rfl,_⟩:=h;rfl
 ·obtain⟨p,rfl,hp,q⟩:=h;have hu:=hr.units
  refine⟨_,(aF (aY (i:=1) bX.nd rfl (Or.inl rfl) (bO bV aJ (aM O__law_take (hr.mono (by decide)) pass0 rfl (aA (pv 0) (aA aJ aC)))))
   (aF (aY (i:=2) bX.nd rfl (Or.inl rfl) (aM O__law_take (hr.mono (by decide)) pass0 rfl (aA (pv 0) (aA aJ aC))))
   (aF (aY (i:=3) bX.nd rfl (Or.inr rfl) (aM O__law_names (hr.mono (by decide)) pass0 rfl (aA (pv 0) (aA (bO bV (pv 1) (pv 2)) aC))))
   (aF (aY (i:=4) bX.nd rfl (Or.inr rfl) (aM O__law_take (hr.mono (by decide)) pass0 rfl (aA (pv 0) (aA (pv 1) aC))))
   (aF (iH (i:=5) bX.nd rfl rfl rfl rfl (bJ.by (N:=iL) (names:=(aD cZ).names) (N':=["_law_k","_law_pot_here","_law_names_here","_law_sure"]) (src:=[none,some 0,some 3,some 4]) (by decide +kernel) rfl rfl) (fZ rfl T.n_range (aA (pv 1) aC)) (fun _ _ _ _=>(bQ (i:=0) (show List.Nodup (["_law_k","_law_pot_here","_law_names_here","_law_sure"]:aW)by decide +kernel) rfl (Or.inl rfl))) (fun _ _ _ _=>fB) (fun _ _ _ _=>(fI (aA (bP dN (pv 2) (pv 0) (fun _ _=>rfl)) (aA (bO (pI.or pH) (aM O__law_take (hr.mono (by decide)) pass0 rfl (aA (pv 1) (aA aJ aC))) (cC pY rfl T.n_int rfl (aA (dY (fJ hu) (pv 0) (pv 3) (nomark _)) aC))) aC)))))
   (aF (iH (i:=6) bX.nd rfl rfl rfl rfl (bJ.by (N:=iL) (names:=(aD cZ).names) (N':=["_law_name","_law_parts"]) (src:=[none,none]) (by decide +kernel) rfl rfl) (dM K rfl (pv 5)) (fun _ _ _ _=>(cR K rfl (i:=0) (j:=1) rfl (show List.Nodup (["_law_name","_law_parts"]:aW)by decide +kernel) rfl rfl rfl rfl)) (fun _ _ _ _=>(kE (aV (eJ hu) (pv 1) aJ (nomark _)))) (fun _ _ _ _=>(pv 0)))
   (aF (aY (i:=7) bX.nd rfl (Or.inl rfl) (cI aC))
   (aF (eI PassesOwn.never rfl (dM K rfl (gN kX (pv 3) (fC (pv 1)) gK)) (bQ (i:=8) bX.nd rfl (Or.inl rfl)) (aF (aY (i:=9) bX.nd rfl (Or.inl rfl) gM)
   (aF (bK (PW.pt (rZ (aV (fJ hu) (pv 6) (cI aC) (nomark _)) (nU (aV zV (aM O__law_take (hr.mono (by decide)) pass0 rfl (aA (pv 0) (aA aJ aC))) aJ (nomark _))))) (aG (aY (i:=9) bX.nd rfl (Or.inl rfl) (jC PySem.F.plainAttrs_list PySem.F.slot_list_pop PySem.F.type_list_pop JK (pv 6) (aA (aM O__law_take (hr.mono (by decide)) pass0 rfl (aA (pv 0) (aA (aK bH rfl T.n_len rfl (aA (pv 6) aC)) aC))) aC)))) aU)
   (aG (cJ (jC PySem.F.plainAttrs_list PySem.F.slot_list_append PySem.F.type_list_append fF (pv 7) (aA (fI (aA (pv 8) (aA (pv 9) aC))) aC)))))))
   (aG (aQ (fI (aA (pv 5) (aA (pv 7) aC))))))))))))),?_⟩
  simp only[iL];clear hr F T O__law_take O__law_names hu;have hq:=q;clear q
  walk_at "rd"
  refine⟨p,12,rfl,hp,by decide,by decide,fun d a b h0 h1=>?_⟩
  walk_at "rd"
  obtain⟨B,hm1,hm2,hmd⟩:∃B:Nat,1<=B/\B<=12/\1+d=(B:Int):=⟨(1+d).toNat,by omega,by omega,by omega⟩
  rw[hmd];clear hmd h0 h1 d;refine⟨p,4,rfl,⟨_,_,upd_same⟩,by decide,by decide,fun d2 a b h2 h3=>?_⟩;obtain⟨sums,rfl⟩:∃k:Nat,d2=(k:Int):=⟨d2.toNat,by omega⟩
  have hs4:sums<4:=by omega
  clear h2 h3;rw[upd_upd];have em:(B:Int)+(sums:Int)=((B+sums:Nat):Int):=by omega
  dsimp only;refine⟨_,rfl,?_⟩;rw[em];refine⟨p,B+sums,rfl,⟨_,_,upd_same⟩,by omega,fun l U H1 hl hl1 hb1 hp1 hlen nd ok=>?_⟩;have hlp:l≠p:=fun z=>by rw[z,upd_same]at hl;cases hl
  dsimp only;refine⟨p,B,rfl,hp1,by omega,by omega,fun d3 x3 y3 h4 h5=>?_⟩;obtain⟨sure,rfl⟩:∃k:Nat,d3=(k:Int):=⟨d3.toNat,by omega⟩
  have hsm:sure<B:=by omega
  have b2:bT p H (upd H1 p (.lst [.int x3,.int y3])):=((bT.upd p H _).trans hb1).trans (bT.upd p H1 _);have p2:bE (upd H1 p (.lst [.int x3,.int y3])) p:=⟨_,_,upd_same⟩
  have l2:upd H1 p (.lst [.int x3,.int y3]) l=some (.lst (U.map V.str)):=by rw[aB hlp];exact hl1
  generalize upd H1 p (.lst [.int x3,.int y3])=H2 at b2 p2 l2⊢;clear hl hl1 hb1 hp1 h4 h5 em hp;refine⟨by omega,by omega,?_⟩;rw[Int.toNat_natCast];refine A6 (FI p l U sure H2) ⟨[],none,rfl,bT.refl _ _,p2,rfl,by simp,fun z=>absurd z (Nat.not_lt_zero _),rfl⟩ ?_ ?_
  ·rintro i G σ H3 hi ⟨I,o,rfl,b3,p3,hfx,hpt,hsu,hrow⟩;have l3:=b3 l _ hlp l2;obtain⟨wd,hwd⟩:∃wd,U[i]?=some wd:=⟨U[i],List.getElem?_eq_getElem (by omega)⟩
   have e1:atI (U.map V.str) (i:Int)=some (.str wd):=EW (by rw[List.getElem?_map,hwd];rfl);refine⟨_,rfl,_,rfl,_,(by rw[ixV_l l3,Int.zero_add];exact e1),_,rfl,p,4,rfl,p3,by decide,by decide,fun d x4 y4 d0 d1=>?_⟩;have ek:(if (!eqD (.int (0+(i:Int))) (.int (sure:Int)))=true then(1:Int)else 0)=if i=sure then 0 else 1:=by
    by_cases z:i=sure
    ·subst z;rw[Int.zero_add,hX,if_pos rfl];rfl
    ·have e:eqD (.int (0+(i:Int))) (.int (sure:Int))=false:=by show((0+(i:Int)) == (sure:Int))=false;rw[Int.zero_add];exact beq_eq_false_iff_ne.mpr (by omega)
     rw[e,if_neg z];rfl
   refine⟨_,rfl,_,rfl,.int _,.int _,rfl,rfl,Nat.zero_le _,_,_,rfl,rfl,.inl ⟨d,rfl,_,rfl,.inr (by rw[ek];split <;> constructor <;> omega),?_⟩⟩;rw[ek];refine⟨(by show 2<=sizeLine;decide),fun t ht=>⟨Nat.lt_of_le_of_lt (m:=20) ?_ (by decide),?_⟩⟩
   ·rw[hrow.len];have:=congrArg List.length hfx;rw[List.length_map,List.length_take]at this;omega
   have p4:bE (upd H3 p (.lst [.int x4,.int y4])) p:=⟨_,_,upd_same⟩
   have hv:0<=d * (if i=sure then 0 else 1)/\d * (if i=sure then 0 else 1)<=3:=by split <;> constructor <;> omega
   have S:dX (upd (upd H3 p (.lst [.int x4,.int y4])) t (.tup [.str wd,.int (d * (if i=sure then 0 else 1))])) I G:=(hrow.same (bC.pot p3)).same (bC.of (aH.upd ht));refine⟨I++[(wd,d * (if i=sure then 0 else 1))],_,rfl,(b3.trans (bT.upd p _ _)).trans (bT.new ht),p4.but (p4.ne ht),?_,fun r hr=>?_,fun hlt=>?_,S.snoc upd_same⟩
   ·rw[List.map_append,hfx,List.take_succ,hwd];rfl
   ·obtain h|h:=List.mem_append.mp hr
    ·exact hpt r h
    ·rw[List.mem_singleton.mp h];exact hv
   ·by_cases z:i=sure
    ·exact⟨_,List.mem_append_right _ List.mem_cons_self,by show d * (if i=sure then 0 else 1)=0;rw[if_pos z];omega⟩
    ·obtain⟨r,h1,h2⟩:=hsu (by omega);exact⟨r,List.mem_append_left _ h1,h2⟩
  ·rintro G σ H3 ⟨I,o,rfl,b3,p3,hfx,hpt,hsu,hrow⟩ fl hfl;have l3:=b3 l _ hlp l2;have f4:upd H3 fl (.lst G) fl=some (.lst G):=upd_same;have b4:bT p H (upd H3 fl (.lst G)):=(b2.trans b3).trans (bT.new hfl);have p4:=p3.but (o:=.lst G) (p3.ne hfl);have l4:upd H3 fl (.lst G) l=some (.lst (U.map V.str)):=by rw[aB (aE l3 hfl)];exact l3
   have S:dX (upd H3 fl (.lst G)) I G:=hrow.same (bC.of (aH.upd hfl));have nfp:fl≠p:=(p3.ne hfl).symm;generalize upd H3 fl (.lst G)=H4 at f4 b4 p4 l4 S⊢;obtain⟨r0,hr0,hz0⟩:=hsu hsm;clear hrow hfl l3 p3 b3 b2 p2 l2 hsu;refine⟨fl,rfl,_,.inl f4,fun J hJ=>?_⟩;have hfn:(I.map (·.1)).Nodup:=by rw[hfx];exact nd.sublist (List.take_sublist _ _)
   have hzl:(zeros I).length<=12:=by have h1:=(iP I).length_le;rw[hfx,List.length_take]at h1;omega
   refine dP hJ (LI I H4) ⟨none,none,rfl,rfl,rfl⟩ (by rintro i acc' σ H' _ ⟨_,_,_,rfl,_⟩;rfl) ?_ ?_
   ·rintro i x acc' σ H' hx ⟨o1,o2,rfl,rfl,rfl⟩;obtain⟨r,t,hr,rfl,ht⟩:=S.get hx;refine⟨t,_,rfl,hZ.of ht,rfl,_,_,rfl,_,_,rfl,rfl,_,rfl,?_⟩;dsimp only[tC];rw[rEqD_ii];refine⟨_,rfl,?_⟩;by_cases z:r.2=0
    ·rw[if_pos (by simpa using z)];refine⟨_,rfl,?_,?_⟩
     ·rw[List.length_map];have h1:=(iP (I.take i)).length_le;have h2:(I.take i).length<=12:=by have h3:=congrArg List.length hfx;rw[List.length_map,List.length_take]at h3;rw[List.length_take];omega
      rw[List.length_map]at h1;exact Nat.lt_of_le_of_lt (m:=12) (by omega) (by decide)
     ·exact⟨_,_,rfl,rfl,by rw[aZ hr,iR,if_pos z,List.map_append];rfl⟩
    ·rw[if_neg (by simpa using z)];exact⟨_,_,rfl,rfl,by rw[aZ hr,iR,if_neg z,List.append_nil]⟩
   ·rintro acc' σ H' ⟨o1,o2,rfl,rfl,rfl⟩ lf Z;rw[List.take_of_length_le (by rw[S.len];exact Nat.le_refl _)];refine⟨Nat.zero_le _,fun tl L=>⟨l,rfl,U.map V.str,.inl ?_,?_,fun sl o hsl ho=>?_⟩⟩
    ·rw[aB,aB (aE l4 Z)]
     ·exact l4
     ·intro e;subst e;rw[aB (aE l4 Z),l4]at L;cases L
    ·rintro⟨ys,hy⟩;rw[aB,aB (aE l4 Z),l4]at hy
     ·cases hy
     ·intro e;subst e;rw[aB (aE l4 Z),l4]at L;cases L
    ·have l5:upd H' lf (HO.lst (List.map V.str (zeros I))) l=some (.lst (U.map V.str)):=by rw[aB (aE l4 Z)];exact l4
     have l6:upd (upd H' lf (HO.lst (List.map V.str (zeros I)))) tl (.lst []) l=some (.lst (U.map V.str)):=by rw[aB (aE l5 L)];exact l5
     have eo:o = .lst ((U.drop B).map V.str):=by
      rcases ho with⟨e,_⟩|⟨_,e⟩
      ·rw[e,tO,List.map_drop]
      ·rw[l6]at e;cases e
     subst eo;clear ho;have htf:tl≠lf:=fun e=>by subst e;rw[upd_same]at L;cases L
     have htl':H' tl=none:=by rw[aB htf]at L;exact L
     have hst:sl≠tl:=fun e=>by subst e;rw[upd_same]at hsl;cases hsl
     have hsf:sl≠lf:=fun e=>by subst e;rw[aB hst,upd_same]at hsl;cases hsl
     have hsl':H' sl=none:=by rw[aB hst,aB hsf]at hsl;exact hsl
     have nn:∀a,H' a=none->H a=none:=fun a ha=>by
      cases e:H a with
      | none=>rfl
      | some o=>have z:=b4 a o (p4.ne ha).symm e;rw[ha]at z;cases z
     have dst:RF p fl lf tl sl H:=⟨nfp,(p4.ne Z).symm,(p4.ne htl').symm,(p4.ne hsl').symm,(aE f4 Z).symm,hsf.symm,htf.symm,(aE f4 htl').symm,hst.symm,nn _ Z,nn _ htl'⟩
     have h0:HS p fl lf tl sl H I G ((U.drop B).map V.str) ((zeros I).map V.str) [] [] (upd (upd (upd H' lf (.lst ((zeros I).map V.str))) tl (.lst [])) sl (.lst ((U.drop B).map V.str))):=by have s1:aH H' (upd (upd (upd H' lf (.lst ((zeros I).map V.str))) tl (.lst [])) sl (.lst ((U.drop B).map V.str))):=((aH.upd Z).trans (aH.upd L)).trans (aH.upd hsl);obtain⟨px,py,pe⟩:=p4;exact⟨b4.trans s1.but,⟨px,py,s1 _ _ pe⟩,s1 _ _ f4,S.same (bC.of s1),by rw[aB hsf.symm,aB htf.symm,upd_same],by rw[aB hst.symm,upd_same],rfl,upd_same⟩
     have n0:NS I [] [] (zeros I):=⟨rfl,Nat.le_refl _,hfn.sublist (iP I),fun _ h=>h,by simp,by simp⟩
     generalize upd (upd (upd H' lf (.lst ((zeros I).map V.str))) tl (.lst [])) sl (.lst ((U.drop B).map V.str))=H7 at h0⊢;refine⟨_,.inl h0.z,fun J2 hJ2=>?_⟩;refine jF hJ2 (SI p fl lf tl sl l B sums sure U I G ((U.drop B).map V.str) H) ⟨none,none,[],zeros I,[],rfl,h0,n0,rfl⟩ (by rintro i σ H'' _ ⟨_,_,_,_,_,_,hh,_⟩;rw[hh.z,h0.z]) ?_ ?_
     ·rintro i x σ H8 hx ⟨o8,o9,sm,lz,sv,rfl,hh,ns,hsv⟩;obtain⟨n,hn,rfl⟩:∃n,(U.drop B)[i]?=some n/\x = .str n:=by
       rw[List.getElem?_map]at hx;cases e:(U.drop B)[i]? with
       | none=>rw[e]at hx;cases hx
       | some n=>rw[e]at hx;exact⟨n,rfl,by cases hx;rfl⟩
      have hi:i<4:=by have:=(List.getElem?_eq_some_iff.mp hn).1;rw[List.length_drop]at this;omega
      refine⟨_,rfl,Nat.zero_le _,fun q hq2=>⟨.lst (lz.map D.str),.lst [],⟨lf,_,rfl,(hh.new hq2).l,zN _ _⟩,⟨q,[],rfl,upd_same,rfl⟩,by rw[depD,wE];decide,_,rfl,?_⟩⟩;have h9:=hh.new (o:=.lst []) hq2;generalize upd H8 q (.lst [])=H9 at h9⊢;cases lz with
      | nil =>
       dsimp only;rw[if_neg (by decide),if_neg (by decide)];refine oT dst rfl rfl rfl h9 (by omega) fun t H'' h''=>?_;exact⟨_,_,_,_,_,rfl,h'',by rw[aZ hn];exact ns.none n,by rw[List.length_append,hsv];rfl⟩
      | cons z lz =>
       dsimp only;rw[if_pos (by rfl)];refine⟨_,rfl,p,3,rfl,h9.pot,by decide,by decide,fun d1 x1 y1 d0 d1'=>⟨_,_,rfl,rfl,_,rfl,?_⟩⟩;have h10:=h9.take dst x1 y1;generalize upd H9 p (.lst [.int x1,.int y1])=H10 at h10⊢;dsimp only;by_cases hd:0<d1
       ·rw[if_pos (by simpa using hd)];have hlz:(z::lz).length<=12:=by have h1:=ns.lzl;omega
        refine⟨_,rfl,.inl ⟨rfl,_,fA.of h10.l⟩,_,rfl,_,rfl,_,_,rfl,(by dsimp only;rw[lenV_l h10.l];rfl),p,_,rfl,h10.pot,?_,?_,fun d2 x2 y2 e0 e1=>?_⟩
        ·rw[List.length_map,List.length_cons];omega
        ·rw[List.length_map];omega
        ·have h11:=h10.take dst x2 y2;generalize upd H10 p (.lst [.int x2,.int y2])=H11 at h11⊢;rw[List.length_map]at e1;obtain⟨y,hy⟩:∃y,(z::lz)[d2.toNat]?=some y:=⟨_,List.getElem?_eq_getElem (by omega)⟩
         refine⟨lf,_,d2,d2.toNat,.str y,rfl,rfl,h11.l,by omega,by omega,PySem.StrLaws.seqIndex_nonneg e0 (by rw[List.length_map];exact e1),by rw[List.getElem?_map,hy];rfl,?_⟩;have h12:=h11.left dst (((z::lz).eraseIdx d2.toNat).map V.str);rw[vN];refine oT dst rfl rfl rfl h12 (by omega) fun t H'' h''=>?_;exact⟨_,_,_,_,_,rfl,h'',by rw[aZ hn];exact ns.pop n hy,by rw[List.length_append,hsv];rfl⟩
       ·rw[if_neg (by simpa using hd)];refine oT dst rfl rfl rfl h10 (by omega) fun t H'' h''=>?_;exact⟨_,_,_,_,_,rfl,h'',by rw[aZ hn];exact ns.none n,by rw[List.length_append,hsv];rfl⟩
     ·rintro σ H8 ⟨o8,o9,sm,lz,sv,rfl,hh,ns,hsv⟩;refine⟨_,rfl,_,rfl,(by show 2<=sizeLine;decide),fun t ht=>?_⟩;have h9:=hh.new (o:=.tup [.ref fl,.ref tl]) ht;refine hq t fl tl I sm G sv _ h9.b h9.pot upd_same h9.f h9.t h9.r h9.s ?_ dst.fp dst.tp;have e1:=ns.names;rw[List.length_map,List.take_length]at e1;have e2:=congrArg List.length e1;have e3:=congrArg List.length hfx;rw[List.length_map,List.length_drop]at e2;rw[List.length_map,List.length_take]at e3;have e4:I.map (·.1)++sm.map (·.1)=U:=by rw[hfx,e1,List.take_append_drop]
      exact⟨by omega,by omega,by omega,by rw[e4];exact ok,by rw[e4];exact nd,hpt,⟨r0,hr0,hz0⟩,fun r hr ne=>(ns.no r hr ne).1,ns.once⟩
end
section
variable {P:Program}{w:World}{K:PySem.W.Frag}{mg:fM}{base:Heap}
noncomputable def isWd (c:Nat):Prop:=(97<=c/\c<=122)∨(48<=c/\c<=57)
noncomputable def cF (x:Str):Prop:=∃l:List Nat,x=⟨(63::l).toArray⟩/\1<=l.length/\l.length<=8/\∀c∈l,isWd c
noncomputable def wds:Str:=PySem.Str.ofString "abcdefghijklmnopqrstuvwxyz0123456789"
theorem DQ:wds.cps.toList.length=36:=by decide +kernel
theorem K4:wds.cps.toList.all (fun c=>(decide (97<=c) && decide (c<=122)) || (decide (48<=c) && decide (c<=57)))=true:=by decide +kernel
theorem OJ {c:Nat}(h:c∈wds.cps.toList):isWd c:=by
 have:=List.all_eq_true.mp K4 c h
 simpa [isWd] using this
theorem P5 {H:Hp}{i:Int}(B:0<=i)(q:i<36):∃c,isWd c/\ixV H (.str wds) (.int i)=some (.str ⟨#[c]⟩):=by
 have j:i.toNat<wds.cps.toList.length:=by rw[DQ];omega
 refine⟨wds.cps.toList[i.toNat],OJ (List.getElem_mem j),?_⟩;show(if wds.length<=sizeLine then(atI wds.cps.toList i).map fun c=>V.str ⟨#[c]⟩else none)=_;rw[if_pos (by decide +kernel),jM B (by rw[DQ];exact q),List.getElem?_eq_getElem j];rfl
noncomputable def xG:Sp:=fun vs H Q _=>∃p:Addr,vs=[.ref p]/\bE H p/\∀(o:Addr) (os:aW) (H':Hp),o≠p->bT p H H'->bE H' p->H' o=some (.lst (os.map V.str))->os.length=5->(∀x∈os,cF x)->Q (.ref o) H'
noncomputable def DI (p l:Addr)(H:Hp)(i:Nat)(σ:St)(j:Hp):Prop:=∃(os:aW) (o2 o3 o4:Option V),σ=[some (.ref p),some (.ref l),o2,o3,o4]/\j l=some (.lst (os.map V.str))/\bT p H j/\bE j p/\os.length=i/\∀x∈os,cF x
noncomputable def DJ (p l:Addr)(os:aW)(i:Int)(H:Hp)(j:Nat)(σ:St)(B:Hp):Prop:=∃(q:List Nat) (o4:Option V),σ=[some (.ref p),some (.ref l),some (.int i),some (.str ⟨(63::q).toArray⟩),o4]/\B l=some (.lst (os.map V.str))/\bT p H B/\bE B p/\q.length=j/\∀c∈q,isWd c
theorem JD {f:Addr}{fd:FuncData}(F:gU K "_law_wishes" "_law_wishes" dS f fd)(T:Txt mg)(O__law_take:cK P w K mg base a0 1 "_law_take" fP):cA P w K mg base a0 2 f fd jT xG:=by
 refine F.ok d8 (fun vs H Q E h=>?_) (fun cdv A outer s H vs Q E S h=>?_)
 ·obtain⟨p,rfl,_⟩:=h;rfl
 ·obtain⟨p,rfl,hp,q⟩:=h;have hu:=S.units
  refine⟨_,(aF (aY (i:=1) d8.nd rfl (Or.inl rfl) (cI aC))
   (aF (eI PassesOwn.never rfl (fZ rfl T.n_range (aA aJ aC)) (bQ (i:=2) d8.nd rfl (Or.inl rfl)) (aF (aY (i:=3) d8.nd rfl (Or.inl rfl) gM)
   (aF (eI PassesOwn.never rfl (fZ rfl T.n_range (aA (bO bV aJ (aM O__law_take (S.mono (by decide)) pass0 rfl (aA (pv 0) (aA (bP dN (cI (aA aJ (aA aJ (aA aJ aC)))) (aM O__law_take (S.mono (by decide)) pass0 rfl (aA (pv 0) (aA aJ aC))) (fun _ _=>rfl)) aC)))) aC)) (bQ (i:=4) d8.nd rfl (Or.inl rfl)) (aG (aY (i:=3) d8.nd rfl (Or.inl rfl) (bO bV (pv 3) (bP dN gM (aM O__law_take (S.mono (by decide)) pass0 rfl (aA (pv 0) (aA aJ aC))) (fun _ _=>rfl))))))
   (aG (cJ (jC PySem.F.plainAttrs_list PySem.F.slot_list_append PySem.F.type_list_append fF (pv 1) (aA (pv 3) aC)))))))
   (aG (aQ (pv 1))))),?_⟩
  simp only[mN];clear S F T O__law_take hu
  walk_at "rd"
  refine⟨by decide,fun l hl=>⟨by decide,by decide,?_⟩⟩;have N:p≠l:=hp.ne hl;refine fW (DI p l H) ⟨[],none,none,none,rfl,upd_same,bT.new hl,hp.but N,rfl,by simp⟩ ?_ ?_
  ·rintro i σ H1 hi ⟨os,o2,o3,o4,rfl,L,hb,I,G,ok⟩;clear q hp;have keep:=aI hl (aI L (aI hb (aI I (aI G ok))));clear hl L hb I G ok
   walk_at "rd"
   obtain⟨hl,L,hb,I,G,ok⟩:=keep;refine⟨by decide,fun r S=>⟨p,3,rfl,I.but (I.ne S),by decide,by decide,fun d a b h0 h1=>?_⟩⟩;have npr:p≠r:=I.ne S;have nlr:l≠r:=aE L S;obtain⟨B,hB,hB0,hB1⟩:∃B:Int,atI [V.int 1,V.int 2,V.int 8] d=some (.int B)/\0<B/\B<=8:=by
    have:d=0∨d=1∨d=2:=by omega
    rcases this with rfl|rfl|rfl
    ·exact⟨1,by decide,by decide,by decide⟩
    ·exact⟨2,by decide,by decide,by decide⟩
    ·exact⟨8,by decide,by decide,by decide⟩
   dsimp only;refine⟨.int B,by rw[ixV_l (xs:=[.int 1,.int 2,.int 8]) (by rw[aB npr.symm,upd_same])];exact hB,p,B,rfl,⟨a,b,upd_same⟩,hB0,by omega,fun n a2 b2 n0 n1=>⟨.int (1+n),rfl,1+n,rfl,by omega,by omega,?_⟩⟩;have hb2:bT p H (upd (upd (upd H1 r (.lst [.int 1,.int 2,.int 8])) p (.lst [.int a,.int b])) p (.lst [.int a2,.int b2])):=((hb.trans (bT.new S)).trans (bT.upd _ _ _)).trans (bT.upd _ _ _);have hp2:bE (upd (upd (upd H1 r (.lst [.int 1,.int 2,.int 8])) p (.lst [.int a,.int b])) p (.lst [.int a2,.int b2])) p:=⟨_,_,upd_same⟩
   have hl2:upd (upd (upd H1 r (.lst [.int 1,.int 2,.int 8])) p (.lst [.int a,.int b])) p (.lst [.int a2,.int b2]) l=some (.lst (os.map V.str)):=by rw[aB N.symm,aB N.symm,aB nlr];exact L
   generalize upd (upd (upd H1 r (.lst [.int 1,.int 2,.int 8])) p (.lst [.int a,.int b])) p (.lst [.int a2,.int b2])=H2 at hb2 hp2 hl2⊢;refine fW (DJ p l os i H) ⟨[],o4,rfl,hl2,hb2,hp2,rfl,by simp⟩ ?_ ?_
   ·rintro j σ H3 hj ⟨cs,o4',rfl,U,hb3,Z,hcs,hcw⟩;refine⟨_,rfl,_,rfl,p,36,rfl,Z,by decide,by decide,fun d3 a3 b3 e0 e1=>?_⟩;obtain⟨c,hc,hx⟩:=P5 (H:=upd H3 p (.lst [.int a3,.int b3])) e0 e1;refine⟨_,hx,?_⟩;refine .inl ⟨.str ⟨(63::(cs++[c])).toArray⟩,?_,?_⟩
    ·show(if (63::cs).toArray.size+1<=sizeLine then some (V.str _)else none)=_;rw[if_pos (Nat.le_trans (m:=100) (by simp;omega) (by decide))];exact congrArg some (congrArg V.str (congrArg Str.mk (by simp)))
    ·exact⟨cs++[c],_,rfl,by rw[aB N.symm];exact U,hb3.trans (bT.upd _ _ _),⟨_,_,upd_same⟩,by rw[List.length_append,hcs];rfl,fun x hx=>(List.mem_append.mp hx).elim (hcw x) fun h=>by rw[List.mem_singleton.mp h];exact hc⟩
   ·rintro σ H3 ⟨cs,o4',rfl,U,hb3,Z,hcs,hcw⟩;refine⟨_,rfl,tyL U,_,rfl,l,_,_,rfl,rfl,U,Nat.lt_of_le_of_lt (m:=10) (by rw[List.length_map];omega) (by decide),?_⟩;refine⟨os++[⟨(63::cs).toArray⟩],_,_,_,rfl,by rw[upd_same,List.map_append];rfl,?_,Z.but N,by rw[List.length_append,G];rfl,fun x hx=>(List.mem_append.mp hx).elim (ok x) fun h=>by rw[List.mem_singleton.mp h];exact⟨cs,rfl,by omega,by omega,hcw⟩⟩;intro c u hc e;rw[aB (fun z=>?_)]
    ·exact hb3 c u hc e
    ·subst z;rw[hl]at e;cases e
  ·rintro σ H1 ⟨os,o2,o3,o4,rfl,L,hb,I,G,ok⟩;exact⟨_,rfl,q l os H1 N.symm hb I L G ok⟩
end
section
variable {P:Program}{w:World}{K:PySem.W.Frag}{mg:fM}{base:Heap}
noncomputable def G7 (p t:Addr)(j:cL)(sm:bM)(H:Hp):Prop:=∃(a b:Addr) (fv sv:List V),H t=some (.tup [.ref a,.ref b])/\H a=some (.lst fv)/\H b=some (.lst sv)/\dX H j fv/\d9 H sm sv/\a≠p/\b≠p
theorem bC.ofBut {p:Addr}{H H':Hp}(h:bT p H H')(j:bE H p):bC H H':=fun b xs e=>h b _ (fun z=>by obtain⟨x,y,q⟩:=j;rw[z,q]at e;cases e) e
theorem G7.but {p t:Addr}{I:cL}{sm:bM}{H H':Hp}(h:G7 p t I sm H)(j:bT p H H')(q:bE H p):G7 p t I sm H':=by obtain⟨a,b,fv,L,h1,Z,U,S,N,G,B⟩:=h;exact⟨a,b,fv,L,bC.ofBut j q _ _ h1,j _ _ G Z,j _ _ B U,S.same (bC.ofBut j q),N.same (bC.ofBut j q),G,B⟩
noncomputable def KL (p o:Addr)(os:aW)(H:Hp):Prop:=H o=some (.lst (os.map V.str))/\o≠p
theorem KL.but {p o:Addr}{os:aW}{H H':Hp}(h:KL p o os H)(j:bT p H H'):KL p o os H':=⟨j _ _ h.2 h.1,h.2⟩
noncomputable def oX:Sp:=fun vs H Q _=>∃(p t o:Addr) (fx:cL) (sm:bM) (os:aW),vs=[.ref p,.ref t,.ref o]/\bE H p/\G7 p t fx sm H/\KL p o os H/\1<=os.length/\os.length<=12/\fx.length<=12/\(∃r∈fx,r.2=0) /\
 ∀(x:Str) (H':Hp),bT p H H'->bE H' p->(x∈os∨x∈zeros fx)->Q (.str x) H'
theorem BL {K0:PySem.W.Frag}{J:It}{a:Addr}{I:cL}{S:List V}{B:Hp}{Qk:VK}(hJ:NV K0 a S J B)(j:dX B I S)(h12:I.length<=12)(hd:∀G,B G=none->Qk (.ref G) (upd B G (.lst ((zeros I).map V.str)))) :
  oO J (gTup K0 2 (gCons (gName 0) (gCons (gName 1) gNil))) (tTest (tOp rEqD (tVar 1) (tC (.int 0)))) (tVar 0) Qk [none,none] B:=by
 refine dP hJ (LI I B) ⟨none,none,rfl,rfl,rfl⟩ (by rintro i q σ H' _ ⟨_,_,_,rfl,_⟩;rfl) ?_ ?_
 ·rintro i x q σ H' U ⟨o1,o2,rfl,rfl,rfl⟩;obtain⟨r,t,N,rfl,Z⟩:=j.get U;refine⟨t,_,rfl,hZ.of Z,rfl,_,_,rfl,_,_,rfl,rfl,_,rfl,?_⟩;dsimp only[tC];rw[rEqD_ii];refine⟨_,rfl,?_⟩;by_cases z:r.2=0
  ·rw[if_pos (by simpa using z)];refine⟨_,rfl,?_,?_⟩
   ·rw[List.length_map];have h1:=(iP (I.take i)).length_le;rw[List.length_map,List.length_take]at h1;exact Nat.lt_of_le_of_lt (m:=12) (by omega) (by decide)
   ·exact⟨_,_,rfl,rfl,by rw[aZ N,iR,if_pos z,List.map_append];rfl⟩
  ·rw[if_neg (by simpa using z)];exact⟨_,_,rfl,rfl,by rw[aZ N,iR,if_neg z,List.append_nil]⟩
 ·rintro q σ H' ⟨o1,o2,rfl,rfl,rfl⟩ G L;rw[List.take_of_length_le (by rw[j.len];exact Nat.le_refl _)];exact hd G L
theorem MJ {f:Addr}{fd:FuncData}(F:gU K "_law_leaf" "_law_leaf" eB f fd)(T:Txt mg)(O__law_take:cK P w K mg base a0 1 "_law_take" fP):cA P w K mg base a0 2 f fd lN oX:=by
 refine F.ok kC (fun vs H Q E h=>?_) (fun cdv A outer s H vs Q E I h=>?_)
 ·obtain⟨p,t,o,G,sm,os,rfl,_⟩:=h;rfl
 ·obtain⟨p,t,o,G,sm,os,rfl,U,ht,ho,h1,h2,h3,hz,q⟩:=h;have hu:=I.units
  refine⟨_,(aF (iH (i:=3) kC.nd rfl rfl rfl rfl (bJ.by (N:=lR) (names:=(aD eB).names) (N':=["_law_name","_law_parts"]) (src:=[none,none]) (by decide +kernel) rfl rfl) (dM K rfl (bP dN (pv 1) aJ (fun _ _=>rfl))) (fun _ _ _ _=>(cR K rfl (i:=0) (j:=1) rfl (show List.Nodup (["_law_name","_law_parts"]:aW)by decide +kernel) rfl rfl rfl rfl)) (fun _ _ _ _=>(kE (aV (eJ hu) (pv 1) aJ (nomark _)))) (fun _ _ _ _=>(pv 0)))
   (aF (aY (i:=4) kC.nd rfl (Or.inl rfl) (bP dN (cI (aA (pv 2) (aA (pv 3) aC))) (aM O__law_take (I.mono (by decide)) pass0 rfl (aA (pv 0) (aA aJ aC))) (fun _ _=>rfl)))
   (aG (aQ (bP dN (pv 4) (aM O__law_take (I.mono (by decide)) pass0 rfl (aA (pv 0) (aA (aK bH rfl T.n_len rfl (aA (pv 4) aC)) aC))) (fun _ _=>rfl)))))),?_⟩
  simp only[lR];clear I F T O__law_take hu;obtain⟨a,b,fv,sv,t1,t2,t3,t4,t5,t6,t7⟩:=ht;have keep:=aI q (aI U (aI ho (aI h1 (aI h2 (aI h3 hz)))));clear q U ho h1 h2 h3 hz
  walk_at "rd"
  obtain⟨q,U,ho,h1,h2,h3,hz⟩:=keep;refine⟨.ref a,by rw[ixV_t t1];rfl,a,rfl,fv,.inl t2,fun J hJ=>BL hJ t4 h3 fun B S=>⟨by decide,fun r I=>?_⟩⟩;have hne:1<=(zeros G).length:=by obtain⟨y,hy,e⟩:=hz;exact List.length_pos_of_mem (List.mem_map.mpr ⟨y,List.mem_filter.mpr ⟨hy,by simpa using e⟩,rfl⟩)
  have hle:(zeros G).length<=12:=by have:=(iP G).length_le;rw[List.length_map]at this;omega
  have p1:=U.but (o:=.lst ((zeros G).map V.str)) (U.ne S);have p2:=p1.but (o:=.lst [.ref o,.ref B]) (p1.ne I);have b2:bT p H (upd (upd H B (.lst ((zeros G).map V.str))) r (.lst [.ref o,.ref B])):=(bT.new S).trans (bT.new I);have f2:upd (upd H B (.lst ((zeros G).map V.str))) r (.lst [.ref o,.ref B]) B=some (.lst ((zeros G).map V.str)):=by rw[aB (aE upd_same I)];exact upd_same
  have o2:=(ho.but b2)
  have r2:upd (upd H B (.lst ((zeros G).map V.str))) r (.lst [.ref o,.ref B]) r=some (.lst [.ref o,.ref B]):=upd_same;have nr:=(p1.ne I).symm;have nl:=(U.ne S).symm;generalize upd (upd H B (.lst ((zeros G).map V.str))) r (.lst [.ref o,.ref B])=L at p2 b2 f2 o2 r2⊢;refine⟨p,2,rfl,p2,by decide,by decide,fun d x y d0 d1=>?_⟩;have p3:bE (upd L p (.lst [.int x,.int y])) p:=⟨_,_,upd_same⟩
  have b3:=b2.trans (bT.upd p L (.lst [.int x,.int y]));have f3:upd L p (.lst [.int x,.int y]) B=some (.lst ((zeros G).map V.str)):=by rw[aB nl];exact f2
  have o3:=o2.but (bT.upd p L (.lst [.int x,.int y]));have r3:upd L p (.lst [.int x,.int y]) r=some (.lst [.ref o,.ref B]):=by rw[aB nr];exact r2
  generalize upd L p (.lst [.int x,.int y])=H3 at p3 b3 f3 o3 r3⊢;have fin:∀(l:Addr) (ls:aW),H3 l=some (.lst (ls.map V.str))->1<=ls.length->ls.length<=12->l≠p->(∀z∈ls,z∈os∨z∈zeros G) ->
    ∃x,Option.map (fun n=>V.int n) ((lenV H3 (.ref l)).bind fun a=>some (a:Int))=some x/\fP [V.ref p,x] H3 (fun y L=>∃Z,ixV L (.ref l) y=some Z/\Q Z L) E0:=by
   intro l ls hl g1 g2 nlp gin;refine⟨.int ls.length,by rw[lenV_l hl];simp,p,ls.length,rfl,p3,by omega,by omega,fun e x4 y4 e0 e1=>?_⟩;have he:e.toNat<ls.length:=by omega
   refine⟨.str ls[e.toNat],?_,q _ _ (b3.trans (bT.upd _ _ _)) ⟨_,_,upd_same⟩ (gin _ (List.getElem_mem he))⟩;rw[ixV_l (xs:=ls.map V.str) (by rw[aB nlp];exact hl),jM e0 (by rw[List.length_map];exact e1),List.getElem?_map,List.getElem?_eq_getElem he];rfl
  dsimp only;have:d=0∨d=1:=by omega
  rcases this with rfl|rfl
  ·exact⟨.ref o,by rw[ixV_l r3];rfl,fin o os o3.1 h1 (by omega) o3.2 fun z hz=>.inl hz⟩
  ·exact⟨.ref B,by rw[ixV_l r3];rfl,fin B _ f3 hne hle nl fun z hz=>.inr hz⟩
end
section
variable {P:Program}{w:World}{K:PySem.W.Frag}{mg:fM}{base:Heap}
noncomputable def QP (q:cL)(sm:bM)(j:Int)(r:Str×Int):Prop:=(0<r.2/\r.2<=j/\r∈q)∨(r.2=0/\1<j/\r.1∈sm.map (·.1))
noncomputable def nO:Sp:=fun vs H Q _=>∃(p t:Addr) (room:Int) (fx:cL) (sm:bM),vs=[.ref t,.int room]/\G7 p t fx sm H/\fx.length<=12/\sm.length<=3 /\
 ∀(l:Addr) (hs:cL) (hv:List V) (H':Hp),aH H H'->H l=none->H' l=some (.lst hv)->dX H' hs hv->hs.length<=18->(∀r∈hs,QP fx sm room r)->Q (.ref l) H'
noncomputable def HI (G:cL)(j:Int)(H:Hp)(i:Nat)(q:List V)(σ:St)(B:Hp):Prop:=∃(o1 o2:Option V) (hs:cL),σ=[o1,o2,some (.int j)]/\aH H B/\dX B hs q/\hs.length<=i/\∀r∈hs,0<r.2/\r.2<=j/\r∈G
noncomputable def HJ (sm:bM)(H:Hp)(i:Nat)(j:List V)(σ:St)(q:Hp):Prop:=∃(o1 o2:Option V) (hs:cL),σ=[o1,o2]/\aH H q/\dX q hs j/\hs.length=i/\∀r∈hs,r.2=0/\r.1∈sm.map (·.1)
theorem d9.get {H:Hp}:∀{l:bM} {vs:List V} {i:Nat} {v:V},d9 H l vs->vs[i]?=some v->∃r t,l[i]?=some r/\v = .ref t/\H t=some (.tup [.str r.1,.str r.2])
 | [],_,_,_,h,e=>by cases h;simp at e
 | r::_,_,0,_,⟨t,us,e,h,q⟩,k=>by subst e;simp at k;exact⟨r,t,rfl,k.symm,h⟩
 | _::_,_,i+1,_,⟨t,us,e,h,q⟩,k=>by subst e;simp at k;obtain⟨r,t,G,B,j⟩:=d9.get q k;exact⟨r,t,by simpa using G,B,j⟩
theorem d9.len {H:Hp}:∀{l:bM} {vs:List V},d9 H l vs->vs.length=l.length
 | [],_,h=>by cases h;rfl
 | _::_,_,⟨t,us,e,h,q⟩=>by subst e;simp[d9.len q]
theorem dX.app {H:Hp}:∀{l m:cL} {vs us:List V},dX H l vs->dX H m us->dX H (l++m) (vs++us)
 | [],_,_,_,h,k=>by cases h;exact k
 | _::_,_,_,_,⟨t,us,e,h,q⟩,k=>by subst e;exact⟨t,_,rfl,h,dX.app q k⟩
theorem JC {f:Addr}{fd:FuncData}(F:gU K "_law_heads" "_law_heads" dA f fd)(T:Txt mg):cA P w K mg base a0 1 f fd kO nO:=by
 refine F.ok jG (fun vs H Q E h=>?_) (fun cdv A outer s H vs Q E hr h=>?_)
 ·obtain⟨p,t,Z,fx,sm,rfl,_⟩:=h;rfl
 ·obtain⟨p,t,Z,fx,sm,rfl,ht,h1,h2,q⟩:=h;have hu:=hr.units
  refine⟨_,(aF (iH (i:=2) jG.nd rfl rfl rfl rfl (bJ.by (N:=iM) (names:=(aD dA).names) (N':=["_law_name","_law_parts","_law_room"]) (src:=[none,none,some 1]) (by decide +kernel) rfl rfl) (dM K rfl (bP dN (pv 0) aJ (fun _ _=>rfl))) (fun _ _ _ _=>(cR K rfl (i:=0) (j:=1) rfl (show List.Nodup (["_law_name","_law_parts","_law_room"]:aW)by decide +kernel) rfl rfl rfl rfl)) (fun _ _ _ _=>(kE (lC (jH hu) n6 aJ (pv 1) (pv 2)))) (fun _ _ _ _=>(fI (aA (pv 0) (aA (pv 1) aC)))))
   (aF (bK (aV zV (pv 1) aJ (nomark _)) (aG (aY (i:=2) jG.nd rfl (Or.inl rfl) (bO bV (pv 2) (bO (pI.or pH) (iI rfl (bJ.by (N:=iM) (names:=(aD dA).names) (N':=["_law_name","_law_nought"]) (src:=[none,none]) (by decide +kernel) rfl rfl) (dM K rfl (bP dN (pv 0) aJ (fun _ _=>rfl))) (fun _ _ _ _=>(cR K rfl (i:=0) (j:=1) rfl (show List.Nodup (["_law_name","_law_nought"]:aW)by decide +kernel) rfl rfl rfl rfl)) (fun _ _ _ _=>fB) (fun _ _ _ _=>(fI (aA (pv 0) (aA aJ aC))))) aJ)))) aU)
   (aG (aQ (pv 2))))),?_⟩
  simp only[iM];clear hr F T hu;obtain⟨a,b,fv,sv,t1,t2,t3,t4,t5,t6,t7⟩:=ht;have keep:=aI q (aI h1 h2);clear q h1 h2
  walk_at "rd"
  obtain⟨q,h1,h2⟩:=keep;refine⟨.ref a,by rw[ixV_t t1];rfl,a,rfl,fv,.inl t2,fun J hJ=>dP hJ (HI fx Z H) ⟨none,none,[],rfl,fun _ _ h=>h,rfl,Nat.le_refl _,by simp⟩ ?_ ?_ ?_⟩
  ·rintro i G σ H' _ ⟨_,_,_,_,s1,_⟩;rw[s1 _ _ t2,t2]
  ·rintro i x G σ H1 hx ⟨o1,o2,hs,rfl,s1,row,hl,hin⟩;obtain⟨r,t',hr,rfl,ht⟩:=(t4.same (bC.of s1)).get hx;have hi:i<12:=by have:=(List.getElem?_eq_some_iff.mp hr).1;omega
   refine⟨t',_,rfl,hZ.of ht,rfl,_,_,rfl,_,_,rfl,rfl,_,rfl,.inl (.inl ⟨0,rfl,r.2,rfl,_,rfl,?_⟩)⟩;by_cases z:0<r.2
   ·rw[if_pos (by simpa using z)];refine⟨_,rfl,_,_,rfl,rfl,_,rfl,?_⟩;dsimp only;by_cases z2:r.2<=Z
    ·rw[if_pos (by simpa using z2)];refine⟨_,rfl,_,rfl,(by show 2<=sizeLine;decide),fun u hu=>⟨Nat.lt_of_le_of_lt (m:=12) (by rw[row.len];omega) (by decide),?_⟩⟩;have I:=(row.same (bC.of (aH.upd (o:=.tup [.str r.1,.int r.2]) hu))).snoc (n:=r.1) (k:=r.2) upd_same;exact⟨_,_,hs++[(r.1,r.2)],rfl,s1.trans (aH.upd hu),I,by rw[List.length_append];simp;omega,fun y hy=>(List.mem_append.mp hy).elim (hin y) fun h=>by rw[List.mem_singleton.mp h];exact⟨z,z2,List.mem_of_getElem? hr⟩⟩
    ·rw[if_neg (by simpa using z2)];exact⟨_,_,hs,rfl,s1,row,by omega,hin⟩
   ·rw[if_neg (by simpa using z)];refine⟨false,rfl,?_⟩;dsimp only;rw[if_neg (by decide)];exact⟨_,_,hs,rfl,s1,row,by omega,hin⟩
  ·rintro G σ H1 ⟨o1,o2,hs,rfl,s1,row,hl,hin⟩ l hl1;rw[t4.len]at hl;have s2:aH H (upd H1 l (.lst G)):=s1.trans (aH.upd hl1);have nl:H l=none:=by
    cases e:H l with
    | none=>rfl
    | some o=>have z:=s1 l o e;rw[hl1]at z;cases z
   have I:=row.same (bC.of (aH.upd (o:=.lst G) hl1));have l2:upd H1 l (.lst G) l=some (.lst G):=upd_same;generalize upd H1 l (.lst G)=H2 at s2 I l2⊢;by_cases hr:1<Z
   ·rw[if_pos hr];refine⟨.ref b,by rw[ixV_t (s2 _ _ t1)];rfl,b,rfl,sv,.inl (s2 _ _ t3),fun J2 hJ2=>dP hJ2 (HJ sm H2) ⟨none,none,[],rfl,fun _ _ h=>h,rfl,rfl,by simp⟩ ?_ ?_ ?_⟩
    ·rintro i G σ H' _ ⟨_,_,_,_,s3,_⟩;rw[s3 _ _ (s2 _ _ t3),s2 _ _ t3]
    ·rintro i x B σ H3 hx ⟨o1,o2,hs2,rfl,s3,U,hl3,hin3⟩;obtain⟨r,t',hr',rfl,ht⟩:=(t5.same (bC.of (s2.trans s3))).get hx;have hi:=(List.getElem?_eq_some_iff.mp hr').1;refine⟨t',_,rfl,hZ.of ht,rfl,_,_,rfl,_,_,rfl,rfl,?_⟩;dsimp only[tYes];rw[if_pos rfl];refine⟨_,rfl,(by show 2<=sizeLine;decide),fun u hu=>⟨Nat.lt_of_le_of_lt (m:=12) (by rw[U.len];omega) (by decide),?_⟩⟩;have L:=(U.same (bC.of (aH.upd (o:=.tup [.str r.1,.int 0]) hu))).snoc (n:=r.1) (k:=0) upd_same;exact⟨_,_,hs2++[(r.1,0)],rfl,s3.trans (aH.upd hu),L,by rw[List.length_append,hl3];rfl,fun y hy=>(List.mem_append.mp hy).elim (hin3 y) fun h=>by rw[List.mem_singleton.mp h];exact⟨rfl,List.mem_map.mpr ⟨r,List.mem_of_getElem? hr',rfl⟩⟩⟩
    ·rintro B σ H3 ⟨o1,o2,hs2,rfl,s3,U,hl3,hin3⟩ m hm;rw[t5.len]at hl3;have s4:=s3.trans (aH.upd (o:=.lst B) hm);have L:=U.same (bC.of (aH.upd (o:=.lst B) hm));have m4:upd H3 m (.lst B) m=some (.lst B):=upd_same;generalize upd H3 m (.lst B)=H4 at s4 L m4⊢;refine .inr ⟨m,rfl,B,m4,by decide,by decide,Nat.le_trans (m:=100) (by rw[L.len];show _ * 2<=_;omega) (by decide),fun u hu=>?_⟩;have e2:(List.replicate (Int.toNat 2) B).flatten=B++B:=by show B++(B++[])=_;rw[List.append_nil]
     rw[e2];have l5:upd H4 u (.lst (B++B)) l=some (.lst G):=by rw[aB (aE (s4 _ _ l2) hu)];exact s4 _ _ l2
     have s5:=s4.trans (aH.upd (o:=.lst (B++B)) hu);have S:=L.same (bC.of (aH.upd (o:=.lst (B++B)) hu));have u5:upd H4 u (.lst (B++B)) u=some (.lst (B++B)):=upd_same;generalize upd H4 u (.lst (B++B))=H5 at l5 s5 S u5⊢;refine⟨.lst (G++(B++B)),?_,fun v hv=>?_⟩
     ·simp only[catO,l5,u5];exact if_pos (Nat.le_trans (m:=100) (by rw[List.length_append,S.len,(I.same (bC.of s5)).len];omega) (by decide))
     ·have s6:=(s2.trans s5).trans (aH.upd (o:=.lst (G++(B++B))) hv);have row6:=((I.same (bC.of s5)).app (S.app S)).same (bC.of (aH.upd (o:=.lst (G++(B++B))) hv));refine q v _ _ _ s6 ?_ upd_same row6 (by simp only[List.length_append];omega) fun y hy=>?_
      ·cases e:H v with
       | none=>rfl
       | some o=>have z:=(s2.trans s5) v o e;rw[hv]at z;cases z
      ·obtain h|h:=List.mem_append.mp hy
       ·exact .inl (hin y h)
       ·have:=(List.mem_append.mp h).elim (hin3 y) (hin3 y);exact .inr ⟨this.1,hr,this.2⟩
   ·rw[if_neg hr];exact q l hs G H2 s2 nl l2 I (by omega) fun y hy=>.inl (hin y hy)
end
section
variable {P:Program}{w:World}{K:PySem.W.Frag}{mg:fM}{base:Heap}
noncomputable def DM (j:cL)(sm:bM)(n:Str)(k:Nat):Prop:=(0<k/\(n,(k:Int))∈j)∨(2<=k/\n∈sm.map (·.1))
mutual
noncomputable def bN (j:cL)(sm:bM)(os:aW):D->Prop
 | .str x=>x∈os∨x∈zeros j
 | .tup (.str n::ds)=>DM j sm n ds.length/\IsTms j sm os ds
 | .lst (.str n::ds)=>DM j sm n ds.length/\IsTms j sm os ds
 | _=>False
noncomputable def IsTms (j:cL)(sm:bM)(os:aW):List D->Prop
 | []=>True
 | d::ds=>bN j sm os d/\IsTms j sm os ds
end
mutual
noncomputable def lvs:D->Nat
 | .tup (_::ds)=>lvss ds
 | .lst (_::ds)=>lvss ds
 | _=>1
noncomputable def lvss:List D->Nat
 | []=>0
 | d::ds=>lvs d+lvss ds
end
theorem IsTms.snoc {j:cL}{sm:bM}{os:aW}{d:D}(h:bN j sm os d):∀{ds:List D},IsTms j sm os ds->IsTms j sm os (ds++[d])
 | [],_=>⟨h,trivial⟩
 | _::_,⟨a,b⟩=>⟨a,IsTms.snoc h b⟩
theorem vP (d:D):∀ds:List D,lvss (ds++[d])=lvss ds+lvs d
 | []=>by simp[lvss]
 | e::ds=>by rw[List.cons_append,lvss,vP d ds,lvss];omega
theorem tM (d:D):∀ds:List D,depDs (ds++[d])=max (depDs ds) (depD d)
 | []=>Nat.max_comm _ _
 | e::ds=>by rw[List.cons_append,depDs,tM d ds,depDs,Nat.max_assoc]
theorem Reps.snoc {H:Hp}{d:D}{v:V}(h:bD H d v):∀{ds:List D} {vs:List V},Reps H ds vs->Reps H (ds++[d]) (vs++[v])
 | [],_,e=>by cases e;exact⟨v,[],rfl,h,rfl⟩
 | _::_,_,⟨x,r,e,a,b⟩=>by subst e;exact⟨x,r++[v],rfl,a,Reps.snoc h b⟩
theorem Reps.len {H:Hp}:∀{ds:List D} {vs:List V},Reps H ds vs->vs.length=ds.length
 | [],_,e=>by cases e;rfl
 | _::_,_,⟨x,r,e,a,b⟩=>by subst e;simp[Reps.len b]
noncomputable def nw (H H':Hp):Hp:=fun a=>if H a=none then H' a else none
noncomputable def nwB (r:Addr)(H H':Hp):Hp:=fun a=>if H a=none/\a≠r then H' a else none
theorem fU {H H':Hp}{a:Addr}{o:HO}:nw H H' a=some o ↔ H a=none/\H' a=some o:=by
 unfold nw;by_cases h:H a=none
 ·rw[if_pos h];exact⟨fun e=>⟨h,e⟩,fun e=>e.2⟩
 ·rw[if_neg h];exact⟨fun e=>(by cases e),fun e=>absurd e.1 h⟩
theorem fE {r:Addr}{H H':Hp}{a:Addr}{o:HO}:nwB r H H' a=some o ↔ (H a=none/\a≠r)/\H' a=some o:=by
 unfold nwB;by_cases h:H a=none/\a≠r
 ·rw[if_pos h];exact⟨fun e=>⟨h,e⟩,fun e=>e.2⟩
 ·rw[if_neg h];exact⟨fun e=>(by cases e),fun e=>absurd e.1 h⟩
noncomputable def m9 (p t o:Addr)(j:cL)(sm:bM)(os:aW)(H:Hp):Prop:=bE H p/\G7 p t j sm H/\KL p o os H/\bW j sm/\1<=os.length/\os.length<=12
theorem m9.but {p t o:Addr}{q:cL}{sm:bM}{os:aW}{H H':Hp}(h:m9 p t o q sm os H)(j:bT p H H')(B:bE H' p):m9 p t o q sm os H' :=
 ⟨B,h.2.1.but j h.1,h.2.2.1.but j,h.2.2.2⟩
noncomputable def mQ (n:Nat):Sp:=fun vs H Q _=>∃(p t o:Addr) (fx:cL) (sm:bM) (os:aW) (room deep:Nat),vs=[.ref p,.ref t,.ref o,.int room,.int deep]/\m9 p t o fx sm os H/\1<=room/\room<=64/\deep<=n /\
 ∀(d:D) (v:V) (H':Hp),bT p H H'->bE H' p->bD (nw H H') d v->bN fx sm os d->lvs d<=room->depD d<=deep->Q v H'
theorem vE {H:Hp}:∀{j:cL} {hv:List V},dX H j hv->Reps H (j.map fun r=>D.tup [.str r.1,.int r.2]) hv
 | [],_,e=>e
 | r::_,_,⟨t,us,e,h,q⟩=>⟨.ref t,us,e,⟨t,_,rfl,h,_,_,rfl,rfl,_,_,rfl,rfl,rfl⟩,vE q⟩
theorem A3:∀j:cL,depDs (j.map fun r=>D.tup [.str r.1,.int r.2])<=1
 | []=>Nat.zero_le _
 | r::j=>by have:=A3 j;rw[List.map_cons,depDs];show max 1 _<=1;omega
noncomputable def TI (p t o l rw:Addr)(j q parts:Nat)(nm:Str)(G:cL)(sm:bM)(os:aW)(H:Hp)(i:Nat)(σ:St)(B:Hp):Prop :=
 ∃(left:Nat) (ds:List D) (vs:List V) (o10 o11:Option V),σ=[some (.ref p),some (.ref t),some (.ref o),some (.int j),some (.int q),some (.ref l),some (.str nm),some (.int parts),some (.int left),some (.ref rw),o10,o11] /\
  bT p H B/\bE B p/\B rw=some (.lst (.str nm::vs))/\Reps (nwB rw H B) ds vs/\ds.length=i/\IsTms G sm os ds/\lvss ds+left+(parts - i)<=j/\depDs ds+1<=q
theorem u9 {K0:PySem.W.Frag}{Q:VK}{H H5:Hp}{p t o l rw:Addr}{fx:cL}{sm:bM}{os:aW}{B G parts n:Nat}{nm:Str}(Z:m9 p t o fx sm os H)(dn:G<=n)(d1:1<=G)(r2:B<=64)(hpr:parts<=B)(hh:DM fx sm nm parts)
  (b5:bT p H H5) (p5:bE H5 p) (nr:H rw=none) (r5:H5 rw=some (.lst [.str nm]))
  (q:∀(d:D) (v:V) (H':Hp),bT p H H'->bE H' p->bD (nw H H') d v->bN fx sm os d->lvs d<=B->depD d<=G->Q v H') :
  q8 (KY 0 parts) (gName 10) (tSeq (tAsg (tCall fP [] E0 (tCons (tVar 0) (tCons (tOp rAddF (tVar 8) (tC (V.int 1))) tNil))) (gName 11)) (tSeq (tAsg (tOp (rI0 fun i j=>V.int (i - j)) (tVar 8) (tVar 11)) (gName 8))
   (tDrop (tBM K0 "list" rAppend (tVar 9) (tCons (tCall (fun vs H Q E=>∃m,m<n/\mQ m vs H Q E) [] E0 (tCons (tVar 0) (tCons (tVar 1) (tCons (tVar 2) (tCons (tOp rAddF (tC (V.int 1)) (tVar 11)) (tCons (tOp (rI0 fun i j=>V.int (i - j)) (tVar 4) (tC (V.int 1))) tNil)))))) tNil)))))
   {nx:=tRet (tOp (fun x y H Q=>∃v,ixV H x y=some v/\Q v H) (tLst (tCons (tVar 9) (tCons (tCB rTupU (tCons (tVar 9) tNil)) tNil))) (tCall fP [] E0 (tCons (tVar 0) (tCons (tC (V.int 2)) tNil)))) {nx:=fun x H'=>Q V.non H',rt:=Q},rt:=Q}
   [some (.ref p),some (.ref t),some (.ref o),some (.int B),some (.int G),some (.ref l),some (.str nm),some (.int parts),some (.int ((B:Int) - (parts:Int))),some (.ref rw),none,none] H5:=by
 have N:rw≠p:=fun z=>by obtain⟨x,y,e⟩:=Z.1;rw[←z,nr]at e;cases e
 have hp0:H p≠none:=fun z=>by obtain⟨x,y,e⟩:=Z.1;rw[z]at e;cases e
 refine fW (TI p t o l rw B G parts nm fx sm os H) ⟨B - parts,[],[],none,none,by rw[Int.ofNat_sub hpr],b5,p5,r5,rfl,rfl,trivial,by show 0+(B - parts)+(parts - 0)<=B;omega,d1⟩ ?_ ?_
 ·rintro i σ I hi ⟨left,ds,vs,o10,o11,rfl,b1,L,r1,rp,hl,tm,lv,dp⟩;refine⟨_,rfl,_,rfl,.inl ⟨.int (left+1),rfl,p,left+1,rfl,L,by omega,by omega,fun more x y m0 m1=>?_⟩⟩;obtain⟨k,rfl⟩:∃k:Nat,more=(k:Int):=⟨more.toNat,by omega⟩
  have b2:=b1.trans (bT.upd p I (.lst [.int x,.int y]));have p2:bE (upd I p (.lst [.int x,.int y])) p:=⟨_,_,upd_same⟩
  have r2':upd I p (.lst [.int x,.int y]) rw=some (.lst (.str nm::vs)):=by rw[aB N];exact r1
  have s2:∀a,a≠p->upd I p (.lst [.int x,.int y]) a=I a:=fun a ha=>aB ha;generalize upd I p (.lst [.int x,.int y])=U at b2 p2 r2' s2⊢;refine⟨_,rfl,_,rfl,_,_,rfl,rfl,?_⟩;have e1:(1:Int)+(k:Int)=((1+k:Nat):Int):=by omega
  have e2:(G:Int) - 1=((G - 1:Nat):Int):=by omega
  refine⟨_,rfl,.inl ⟨rfl,_,fA.of r2'⟩,_,rfl,_,rfl,_,rfl,_,rfl,.inl ⟨_,rfl,_,rfl,_,_,rfl,rfl,G - 1,by omega,p,t,o,fx,sm,os,1+k,G - 1,(by rw[←e1,←e2];rfl),Z.but b2 p2,by omega,by omega,Nat.le_refl _,fun d v H3 b3 p3 rep3 tm3 lv3 dp3=>?_⟩⟩;have r3:=b3 rw _ N r2';have old:∀a,U a=none->H a=none:=fun a ha=>by
   cases e:H a with
   | none=>rfl
   | some u =>
    by_cases z:a=p
    ·obtain⟨x,y,e'⟩:=p2;rw[z,e']at ha;cases ha
    ·have:=b2 a u z e;rw[ha]at this;cases this
  refine⟨rw,_,v,rfl,rfl,r3,Nat.lt_of_le_of_lt (m:=100) (by simp only[List.length_cons];rw[Reps.len rp];omega) (by decide),?_⟩;refine⟨left - k,ds++[d],vs++[v],some (.int (0+i)),some (.int k),?_,yW (b2.trans b3) nr,p3.but N.symm,by rw[upd_same];rfl,?_,by rw[List.length_append,hl];rfl,tm.snoc tm3,?_,?_⟩
  ·rw[Int.ofNat_sub (by omega)];rfl
  ·refine Reps.snoc (bD.same ?_ rep3) (Reps.same ?_ rp)
   ·intro a u e;obtain⟨S,g2⟩:=fU.mp e;have nar:a≠rw:=fun z=>by rw[z,r2']at S;cases S
    exact fE.mpr ⟨⟨old a S,nar⟩,by rw[aB nar];exact g2⟩
   ·intro a u e;obtain⟨⟨S,g2⟩,g3⟩:=fE.mp e;have nap:a≠p:=fun z=>hp0 (by rw[←z];exact S);exact fE.mpr ⟨⟨S,g2⟩,by rw[aB g2];exact b3 a u nap (by rw[s2 a nap];exact g3)⟩
  ·rw[vP];omega
  ·rw[tM];omega
 ·rintro σ I ⟨left,ds,vs,o10,o11,rfl,b1,L,r1,rp,hl,tm,lv,dp⟩;refine⟨_,rfl,_,rfl,rw,_,rfl,.inl r1,fun tp U hc=>?_⟩;rcases hc with⟨z,_⟩|⟨_,ht,rfl⟩
  ·rw[r1]at z;cases z
  refine⟨(by show 2<=sizeLine;decide),fun u hu=>⟨_,rfl,p,2,rfl,(L.but (L.ne ht)).but ((L.but (L.ne ht)).ne hu),by decide,by decide,fun d x y d0 d2=>?_⟩⟩;have s2:aH I (upd (upd I tp (.tup (.str nm::vs))) u (.lst [.ref rw,.ref tp])):=(aH.upd ht).trans (aH.upd hu);have t2:upd (upd I tp (.tup (.str nm::vs))) u (.lst [.ref rw,.ref tp]) tp=some (.tup (.str nm::vs)):=by rw[aB (aE upd_same hu)];exact upd_same
  have u2:upd (upd I tp (.tup (.str nm::vs))) u (.lst [.ref rw,.ref tp]) u=some (.lst [.ref rw,.ref tp]):=upd_same;have nup:u≠p:=((L.but (o:=.tup (.str nm::vs)) (L.ne ht)).ne hu).symm;have ntp:tp≠p:=(L.ne ht).symm;generalize upd (upd I tp (.tup (.str nm::vs))) u (.lst [.ref rw,.ref tp])=U at s2 t2 u2⊢;have b3:bT p H (upd U p (.lst [.int x,.int y])):=(b1.trans s2.but).trans (bT.upd _ _ _);have r3:upd U p (.lst [.int x,.int y]) rw=some (.lst (.str nm::vs)):=by rw[aB N];exact s2 _ _ r1
  have t3:upd U p (.lst [.int x,.int y]) tp=some (.tup (.str nm::vs)):=by rw[aB ntp];exact t2
  have u3:upd U p (.lst [.int x,.int y]) u=some (.lst [.ref rw,.ref tp]):=by rw[aB nup];exact u2
  have nt:H tp=none:=by
   cases e:H tp with
   | none=>rfl
   | some w=>have:=b1 tp w ntp e;rw[ht]at this;cases this
  have rp3:Reps (nw H (upd U p (.lst [.int x,.int y]))) (.str nm::ds) (.str nm::vs):=by refine⟨_,_,rfl,rfl,Reps.same (fun a w e=>?_) rp⟩;obtain⟨⟨S,g2⟩,g3⟩:=fE.mp e;exact fU.mpr ⟨S,by rw[aB (fun z=>hp0 (by rw[←z];exact S))];exact s2 _ _ g3⟩
  have dd:depDs (.str nm::ds)+1<=G:=by rw[depDs,show depD (.str nm)=0 from rfl];omega
  have ll:lvss ds<=B:=by omega
  dsimp only;have:d=0∨d=1:=by omega
  rcases this with rfl|rfl
  ·refine⟨.ref rw,by rw[ixV_l u3];rfl,q (.lst (.str nm::ds)) _ _ b3 ⟨_,_,upd_same⟩ ⟨rw,_,rfl,fU.mpr ⟨nr,r3⟩,rp3⟩ ?_ (by rw[lvs];exact ll) (by rw[depD];exact dd)⟩;unfold bN;exact⟨by rw[hl];exact hh,tm⟩
  ·refine⟨.ref tp,by rw[ixV_l u3];rfl,q (.tup (.str nm::ds)) _ _ b3 ⟨_,_,upd_same⟩ ⟨tp,_,rfl,fU.mpr ⟨nt,t3⟩,rp3⟩ ?_ (by rw[lvs];exact ll) (by rw[depD];exact dd)⟩;unfold bN;exact⟨by rw[hl];exact hh,tm⟩
theorem MC {f:Addr}{fd:FuncData}(n:Nat)(F:gU K "_law_term" "_law_term" dR f fd)(T:Txt mg)(O__law_take:cK P w K mg base a0 1 "_law_take" fP)(O__law_leaf:cK P w K mg base a0 2 "_law_leaf" oX)(O__law_heads:cK P w K mg base a0 1 "_law_heads" nO)
  (O__law_term:cK P w K mg base a0 (n+3) "_law_term" (fun vs H Q E=>∃m,m<n/\mQ m vs H Q E)):cA P w K mg base a0 (n+4) f fd gC (mQ n):=by
 refine F.ok cY (fun vs H Q E h=>?_) (fun cdv A outer s H vs Q E L h=>?_)
 ·obtain⟨p,t,o,fx,sm,os,G,deep,rfl,_⟩:=h;rfl
 ·obtain⟨p,t,o,fx,sm,os,G,deep,rfl,B,r1,r2,dn,q⟩:=h;have hu:=L.units
  refine⟨_,(aF (aY (i:=5) cY.nd rfl (Or.inl rfl) (aM O__law_heads (L.mono (by omega)) pass0 rfl (aA (pv 1) (aA (pv 3) aC))))
   (aF (bK (PW.pt (iU (aV (eJ hu) (pv 4) aJ (nomark _)) (iU (aV (eJ hu) (pv 5) (cI aC) (nomark _)) (h8 (aV (eJ hu) (aM O__law_take (L.mono (by omega)) pass0 rfl (aA (pv 0) (aA aJ aC))) aJ (nomark _)))))) (aG (aQ (aM O__law_leaf (L.mono (by omega)) pass0 rfl (aA (pv 0) (aA (pv 1) (aA (pv 2) aC)))))) aU)
   (aF (sA (bP dN (pv 5) (aM O__law_take (L.mono (by omega)) pass0 rfl (aA (pv 0) (aA (aK bH rfl T.n_len rfl (aA (pv 5) aC)) aC))) (fun _ _=>rfl)) (cR K rfl (i:=6) (j:=7) rfl cY.nd rfl rfl rfl rfl))
   (aF (bK (aV (eJ hu) (pv 7) aJ (nomark _)) (aG (aY (i:=7) cY.nd rfl (Or.inl rfl) (bO bV aJ (aM O__law_take (L.mono (by omega)) pass0 rfl (aA (pv 0) (aA (aK (wK rfl) rfl T.n_min rfl (aA aJ (aA (bO pG (pv 3) aJ) aC))) aC)))))) aU)
   (aF (aY (i:=8) cY.nd rfl (Or.inl rfl) (bO pG (pv 3) (pv 7)))
   (aF (aY (i:=9) cY.nd rfl (Or.inl rfl) (cI (aA (pv 6) aC)))
   (aF (eI PassesOwn.never rfl (fZ rfl T.n_range (aA (pv 7) aC)) (bQ (i:=10) cY.nd rfl (Or.inl rfl)) (aF (aY (i:=11) cY.nd rfl (Or.inl rfl) (aM O__law_take (L.mono (by omega)) pass0 rfl (aA (pv 0) (aA (bO bV (pv 8) aJ) aC))))
   (aF (aY (i:=8) cY.nd rfl (Or.inl rfl) (bO pG (pv 8) (pv 11)))
   (aG (cJ (jC PySem.F.plainAttrs_list PySem.F.slot_list_append PySem.F.type_list_append fF (pv 9) (aA (aM O__law_term (L.mono (by omega)) pass0 rfl (aA (pv 0) (aA (pv 1) (aA (pv 2) (aA (bO bV aJ (pv 11)) (aA (bO pG (pv 4) aJ) aC)))))) aC)))))))
   (aG (aQ (bP dN (cI (aA (pv 9) (aA (cC gB rfl T.n_tuple rfl (aA (pv 9) aC)) aC))) (aM O__law_take (L.mono (by omega)) pass0 rfl (aA (pv 0) (aA aJ aC))) (fun _ _=>rfl))))))))))),?_⟩
  simp only[qS];clear L F T hu O__law_take O__law_leaf O__law_heads O__law_term;have keep:=aI q (aI B (aI r1 (aI r2 dn)));clear q B r1 r2 dn
  walk_at "rd"
  obtain⟨q,B,r1,r2,dn⟩:=keep;have Z:∀H1,bT p H H1->bE H1 p->oX [.ref p,.ref t,.ref o] H1 Q E0:=fun H1 b1 p1=>by have i1:=B.but b1 p1;exact⟨p,t,o,fx,sm,os,rfl,p1,i1.2.1,i1.2.2.1,i1.2.2.2.2.1,i1.2.2.2.2.2,B.2.2.2.1.f2,B.2.2.2.1.bare,fun x H' b2 p2 hx=>q (.str x) (.str x) H' (b1.trans b2) p2 rfl (by unfold bN;exact hx) r1 (Nat.zero_le _)⟩
  refine⟨p,t,G,fx,sm,rfl,B.2.1,B.2.2.2.1.f2,B.2.2.2.1.s2,fun l hs hv H1 s1 nl l1 row hl hok=>?_⟩;have b1:bT p H H1:=s1.but;have p1:bE H1 p:=by obtain⟨x,y,e⟩:=B.1;exact⟨x,y,s1 _ _ e⟩
  have nlp:l≠p:=fun z=>by obtain⟨x,y,e⟩:=B.1;rw[←z,nl]at e;cases e
  dsimp only;by_cases hd0:(deep:Int)=0
  ·rw[if_pos hd0];exact Z H1 b1 p1
  rw[if_neg hd0];refine⟨Nat.zero_le _,fun u hu=>?_⟩;have b2:=b1.trans (bT.new (p:=p) (o:=.lst []) hu);have p2:=p1.but (o:=.lst []) (p1.ne hu);have l2:upd H1 u (.lst []) l=some (.lst hv):=by rw[aB (aE l1 hu)];exact l1
  have U:=row.same (bC.of (aH.upd (o:=.lst []) hu));have u2:upd H1 u (.lst []) u=some (.lst []):=upd_same;generalize upd H1 u (.lst [])=H2 at b2 p2 l2 U u2⊢;refine⟨.lst (hs.map fun r=>D.tup [.str r.1,.int r.2]),.lst [],⟨l,hv,rfl,l2,vE U⟩,⟨u,[],rfl,u2,rfl⟩,?_,_,rfl,?_⟩
  ·have:=A3 hs;rw[depD];omega
  by_cases he:hs=[]
  ·subst he;rw[if_pos (by rfl)];exact Z H2 b2 p2
  rw[if_neg (by cases hs with|nil=>exact absurd rfl he|cons a b=>exact Bool.false_ne_true)];refine⟨p,7,rfl,p2,by decide,by decide,fun d x y d0 d1=>?_⟩;have b3:=b2.trans (bT.upd p H2 (.lst [.int x,.int y]));have p3:bE (upd H2 p (.lst [.int x,.int y])) p:=⟨_,_,upd_same⟩
  have l3:upd H2 p (.lst [.int x,.int y]) l=some (.lst hv):=by rw[aB nlp];exact l2
  have S:=U.same (bC.pot (o:=.lst [.int x,.int y]) p2);generalize upd H2 p (.lst [.int x,.int y])=H3 at b3 p3 l3 S⊢;dsimp only;rw[rEqD_ii];refine⟨_,rfl,?_⟩;by_cases hd:d=0
  ·rw[if_pos (by simpa using hd)];exact Z H3 b3 p3
  rw[if_neg (by simpa using hd)];have hn:1<=hs.length:=by cases hs with|nil=>exact absurd rfl he|cons a b=>simp
  refine⟨.int hs.length,by rw[lenV_l l3,S.len];rfl,p,hs.length,rfl,p3,by omega,by omega,fun e x4 y4 e0 e1=>?_⟩;have b4:=b3.trans (bT.upd p H3 (.lst [.int x4,.int y4]));have p4:bE (upd H3 p (.lst [.int x4,.int y4])) p:=⟨_,_,upd_same⟩
  have l4:upd H3 p (.lst [.int x4,.int y4]) l=some (.lst hv):=by rw[aB nlp];exact l3
  have N:=S.same (bC.pot (o:=.lst [.int x4,.int y4]) p3);generalize upd H3 p (.lst [.int x4,.int y4])=H4 at b4 p4 l4 N⊢;have hle:e.toNat<hv.length:=by rw[N.len];omega
  obtain⟨r,tt,L,hv',ht⟩:=N.get (List.getElem?_eq_getElem hle);have hok':=hok r (List.mem_of_getElem? L);refine⟨.ref tt,by rw[ixV_l l4,jM e0 (by omega),List.getElem?_eq_getElem hle,hv'],tt,rfl,_,hZ.of ht,rfl,_,_,rfl,_,_,rfl,rfl,?_⟩;rw[rEqD_ii];refine⟨_,rfl,?_⟩;by_cases hz:r.2=0
  ·rw[if_pos (by simpa using hz)];have h0:1<(G:Int)/\r.1∈sm.map (·.1):=by
    rcases hok' with⟨a,_,_⟩|⟨_,b,c⟩
    ·omega
    ·exact⟨b,c⟩
   refine⟨4,(G:Int) - 1,⟨rfl,rfl⟩,p,_,rfl,p4,by split <;> omega,by split <;> omega,fun g x5 y5 g0 g1=>⟨.int (2+g),rfl,2+g,rfl,by decide,fun u5 I=>⟨2+g,rfl,by split at g1 <;> omega,by split at g1 <;> omega,?_⟩⟩⟩;obtain⟨k,hk⟩:∃k:Nat,2+g=(k:Int):=⟨(2+g).toNat,by omega⟩
   have hk2:2<=k/\k<=G:=by split at g1 <;> omega
   rw[hk,Int.toNat_natCast];have b5:=(b4.trans (bT.upd p H4 (.lst [.int x5,.int y5]))).trans (bT.new (o:=.lst [.str r.1]) I);have p5:bE (upd H4 p (.lst [.int x5,.int y5])) p:=⟨_,_,upd_same⟩
   refine u9 B dn (by omega) r2 hk2.2 (.inr ⟨hk2.1,h0.2⟩) b5 (p5.but (p5.ne I)) ?_ upd_same q;cases e:H u5 with
   | none=>rfl
   | some w=>have:=(b4.trans (bT.upd p H4 (.lst [.int x5,.int y5]))) u5 w (p5.ne I).symm e;rw[I]at this;cases this
  ·rw[if_neg (by simpa using hz)];have h0:0<r.2/\r.2<=(G:Int)/\r∈fx:=by
    rcases hok' with h|⟨h,_⟩
    ·exact h
    ·exact absurd h hz
   refine⟨r.2,rfl,by decide,fun u5 I=>⟨r.2,rfl,by omega,by omega,?_⟩⟩;obtain⟨k,hk⟩:∃k:Nat,r.2=(k:Int):=⟨r.2.toNat,by omega⟩
   have hm:(r.1,(k:Int))∈fx:=by rw[←hk];exact h0.2.2
   rw[hk,Int.toNat_natCast];have b5:=b4.trans (bT.new (p:=p) (o:=.lst [.str r.1]) I);refine u9 B dn (by omega) r2 (by omega) (.inl ⟨by omega,hm⟩) b5 (p4.but (p4.ne I)) ?_ upd_same q;cases e:H u5 with
   | none=>rfl
   | some w=>have:=b4 u5 w (p4.ne I).symm e;rw[I]at this;cases this
theorem M5 {f:Addr}{j:FuncData}(F:gU K "_law_term" "_law_term" dR f j)(T:Txt mg)(O__law_take:cK P w K mg base a0 1 "_law_take" fP)(O__law_leaf:cK P w K mg base a0 2 "_law_leaf" oX)(O__law_heads:cK P w K mg base a0 1 "_law_heads" nO)
  (N:mg "_law_term" = some (.ref f)) (S:PySem.W.keepIn K (.ref f)=true) (q:fN K j gC []):∀n,cA P w K mg base a0 (n+4) f j gC (mQ n):=by
 intro n
 induction n using Nat.strongRecOn with
 | ind n G =>
  exact MC n F T O__law_take O__law_leaf O__law_heads ⟨f,j,_,⟨fun vs H Q E ⟨m,B,h⟩=>(G m B).len vs H Q E h,fun A outer s H args us vs Q E L U q I ⟨m,B,h⟩=>((G m B).mono (by omega)).run A outer s H args us vs Q E L U q I h⟩,N,S,q⟩
theorem IP {f:Addr}{j:FuncData}(F:gU K "_law_term" "_law_term" dR f j)(T:Txt mg)(O__law_take:cK P w K mg base a0 1 "_law_take" fP)(O__law_leaf:cK P w K mg base a0 2 "_law_leaf" oX)(O__law_heads:cK P w K mg base a0 1 "_law_heads" nO)
  (q:mg "_law_term" = some (.ref f)) (B:PySem.W.keepIn K (.ref f)=true) (G:fN K j gC []) (n:Nat):cK P w K mg base a0 (n+4) "_law_term" (mQ n):=⟨f,j,_,M5 F T O__law_take O__law_leaf O__law_heads q B G n,q,B,G⟩
end
noncomputable abbrev M:=Nat×Str×Nat
noncomputable def sL (x y:Str):Bool:=decide (x.cps.toList<y.cps.toList)
theorem K6 {x y:Str}(h:x.cps.toList=y.cps.toList):x=y:=by cases x;cases y;simp only[Str.mk.injEq];exact Array.toList_inj.mp h
theorem OZ (x:Str):sL x x=false:=decide_eq_false (List.lt_irrefl _)
theorem LB {x y:Str}(h:sL x y=true):sL y x=false:=decide_eq_false fun k=>absurd (List.lt_trans (of_decide_eq_true h) k) (List.lt_irrefl _)
theorem HZ {x y:Str}(n:x≠y):sL x y=true∨sL y x=true:=by
 by_cases h:x.cps.toList<y.cps.toList
 ·exact .inl (decide_eq_true h)
 ·by_cases k:y.cps.toList<x.cps.toList
  ·exact .inr (decide_eq_true k)
  ·exact absurd (K6 (List.le_antisymm (List.not_lt.mp k) (List.not_lt.mp h))) n
noncomputable def ltM (a b:M):Bool:=if a.1=b.1 then(if a.2.1=b.2.1 then decide (a.2.2<b.2.2)else sL a.2.1 b.2.1)else decide (a.1<b.1)
theorem sO {a b:M}(h:ltM a b=true):ltM b a=false:=by
 obtain⟨L,I,S⟩:=a;obtain⟨G,B,N⟩:=b;unfold ltM at h⊢;dsimp only at h⊢;by_cases q:L=G
 ·subst q;rw[if_pos rfl]at h⊢;by_cases j:I=B
  ·subst j;rw[if_pos rfl]at h⊢;exact decide_eq_false (by have:=of_decide_eq_true h;omega)
  ·rw[if_neg j]at h;rw[if_neg (Ne.symm j)];exact LB h
 ·rw[if_neg q]at h;rw[if_neg (Ne.symm q)];exact decide_eq_false (by have:=of_decide_eq_true h;omega)
theorem pK {a b:M}(n:a≠b):ltM a b=true∨ltM b a=true:=by
 obtain⟨S,N,L⟩:=a;obtain⟨I,G,B⟩:=b;unfold ltM;dsimp only;by_cases q:S=I
 ·subst q;rw[if_pos rfl,if_pos rfl];by_cases j:N=G
  ·subst j;rw[if_pos rfl,if_pos rfl];have:L≠B:=fun z=>n (by rw[z]);rcases Nat.lt_or_gt_of_ne this with h|h
   ·exact .inl (decide_eq_true h)
   ·exact .inr (decide_eq_true h)
  ·rw[if_neg j,if_neg (Ne.symm j)];exact HZ j
 ·rw[if_neg q,if_neg (Ne.symm q)];rcases Nat.lt_or_gt_of_ne q with h|h
  ·exact .inl (decide_eq_true h)
  ·exact .inr (decide_eq_true h)
noncomputable def lexK:List M->List M->Bool
 | [],[]=>false
 | [],_::_=>true
 | _::_,[]=>false
 | a::s,b::t=>if a=b then lexK s t else ltM a b
theorem n8:∀s:List M,lexK s s=false
 | []=>rfl
 | a::s=>by rw[lexK,if_pos rfl,n8 s]
theorem pM:∀{s t:List M},lexK s t=true->lexK t s=false
 | [],[],h=>by cases h
 | [],_::_,_=>rfl
 | _::_,[],h=>by cases h
 | a::s,b::t,h=>by
  rw[lexK]at h⊢;by_cases e:a=b
  ·rw[if_pos e]at h;rw[if_pos e.symm];exact pM h
  ·rw[if_neg e]at h;rw[if_neg (Ne.symm e)];exact sO h
theorem sS:∀{s t:List M},s≠t->lexK s t=true∨lexK t s=true
 | [],[],n=>absurd rfl n
 | [],_::_,_=>.inl rfl
 | _::_,[],_=>.inr rfl
 | a::s,b::t,n=>by
  rw[lexK,lexK];by_cases e:a=b
  ·rw[if_pos e,if_pos e.symm];exact sS fun z=>n (by rw[e,z])
  ·rw[if_neg e,if_neg (Ne.symm e)];exact pK e
noncomputable def sortS (x:Str):Nat:=if x.cps.toList[0]?=some 63 then 0 else 1
mutual
noncomputable def key:D->List M
 | .str x=>[(sortS x,x,0)]
 | .tup (.str n::ds)=>(2,n,ds.length+1)::keys ds
 | _=>[]
noncomputable def keys:List D->List M
 | []=>[]
 | d::ds=>key d++keys ds
end
mutual
/-- texts and tuples whose first is a text -/
noncomputable def Fl:D->Prop
 | .str x=>1<=x.cps.toList.length/\x.cps.toList.length<=20
 | .tup (.str _::ds)=>Fls ds
 | _=>False
noncomputable def Fls:List D->Prop
 | []=>True
 | d::ds=>Fl d/\Fls ds
end
noncomputable def sortD:D->Nat
 | .str x=>sortS x
 | _=>2
mutual
/-- part by part -/
noncomputable def ah:D->D->Bool
 | .str x,.str y=>if sortS x=sortS y then sL x y else decide (sortS x<sortS y)
 | .tup (.str n::ds),.tup (.str m::j)=>if n=m then(if ds.length=j.length then ahs ds j else decide (ds.length<j.length))else sL n m
 | d,e=>decide (sortD d<sortD e)
noncomputable def ahs:List D->List D->Bool
 | d::ds,e::j=>if eqD d e=true then ahs ds j else ah d e
 | _,_=>false
end
theorem nQ (x:Str):sortS x<2:=by unfold sortS;split <;> omega
mutual
theorem yD:∀(d e:D) (s t:List M),Fl d->Fl e->lexK (key d++s) (key e++t)=if eqD d e=true then lexK s t else ah d e
 | .str x,.str y,s,t,_,_=>by
  have q:eqD (.str x) (.str y)=(x == y):=rfl;show(if ((sortS x,x,0):M)=(sortS y,y,0)then lexK s t else ltM (sortS x,x,0) (sortS y,y,0))=_;rw[q];by_cases e:x=y
  ·subst e;rw[if_pos rfl,if_pos (by simp)]
  ·rw[if_neg (fun z=>e (by simp at z;exact z.2)),if_neg (by simpa using e),ah];unfold ltM;dsimp only;by_cases h:sortS x=sortS y
   ·rw[if_pos h,if_neg e,if_pos h]
   ·rw[if_neg h,if_neg h]
 | .str x,.tup (.str m::j),s,t,_,_=>by
  have q:eqD (.str x) (.tup (.str m::j))=false:=rfl;have:=nQ x;show(if ((sortS x,x,0):M)=(2,m,j.length+1)then _ else ltM (sortS x,x,0) (2,m,j.length+1))=_;rw[q,if_neg (fun z=>by simp at z),if_neg (by decide),ah]
  ·unfold ltM;rw[if_neg (by dsimp only;omega)];rfl
  all_goals (intros;simp_all)
 | .tup (.str n::ds),.str y,s,t,_,_=>by
  have q:eqD (.tup (.str n::ds)) (.str y)=false:=rfl;have:=nQ y;show(if ((2,n,ds.length+1):M)=(sortS y,y,0)then _ else ltM (2,n,ds.length+1) (sortS y,y,0))=_;rw[q,if_neg (fun z=>by simp at z),if_neg (by decide),ah]
  ·unfold ltM;rw[if_neg (by dsimp only;omega)];rfl
  all_goals (intros;simp_all)
 | .tup (.str n::ds),.tup (.str m::j),s,t,L,I=>by
  have q:eqD (.tup (.str n::ds)) (.tup (.str m::j))=((n == m) && eqDs ds j):=rfl;show(if ((2,n,ds.length+1):M)=(2,m,j.length+1)then lexK (keys ds++s) (keys j++t)else ltM (2,n,ds.length+1) (2,m,j.length+1))=_;rw[q,ah];by_cases G:n=m
  ·subst G;by_cases B:ds.length=j.length
   ·rw[if_pos (by rw[B]),if_pos rfl,if_pos B,AQ ds j s t B L I];simp
   ·rw[if_neg (fun z=>B (by simp at z;omega)),if_pos rfl,if_neg B];have:eqDs ds j=false:=by
     cases h:eqDs ds j with
     | false=>rfl
     | true=>rw[hW]at h;simp at h;exact absurd h.2 B
    rw[this,if_neg (by simp)];unfold ltM;dsimp only;rw[if_pos rfl,if_pos rfl];simp
  ·rw[if_neg (fun z=>G (by simp at z;exact z.1)),if_neg (by simp[G]),if_neg G];unfold ltM;dsimp only;rw[if_pos rfl,if_neg G]
theorem AQ:∀(ds j:List D) (s t:List M),ds.length=j.length->Fls ds->Fls j->lexK (keys ds++s) (keys j++t)=if eqDs ds j=true then lexK s t else ahs ds j
 | [],[],s,t,_,_,_=>by rw[eqDs,if_pos rfl];rfl
 | d::ds,e::j,s,t,q,⟨f1,f2⟩,⟨G,B⟩=>by
  rw[keys,keys,List.append_assoc,List.append_assoc,yD d e _ _ f1 G,AQ ds j s t (by simpa using q) f2 B,eqDs,ahs];by_cases h:eqD d e=true
  ·rw[if_pos h,if_pos h,h,Bool.true_and]
  ·have h':eqD d e=false:=by simpa using h
   rw[if_neg h,if_neg h,h',Bool.false_and,if_neg (by decide)]
 | [],_::_,_,_,h,_,_=>by simp at h
 | _::_,[],_,_,h,_,_=>by simp at h
end
theorem sU {d e:D}(q:Fl d)(j:Fl e):lexK (key d) (key e)=(!eqD d e && ah d e):=by have:=yD d e [] [] q j;rw[List.append_nil,List.append_nil]at this;rw[this];cases h:eqD d e <;> simp[lexK]
theorem MW {d e:D}(B:Fl d)(j:Fl e)(h:key d=key e):eqD d e=true:=by
 have a:=sU B j;have b:=yD d e [] [(0,default,0)] B j;rw[List.append_nil,h]at b;cases q:eqD d e with
 | true=>rfl
 | false =>
  rw[q,if_neg (by decide)]at b;rw[q,h,n8,←b]at a;have:∀(s:List M) (m:M),lexK s (s++[m])=true:=by
   intro s m
   induction s with
   | nil=>rfl
   | cons a s G=>rw[List.cons_append,lexK,if_pos rfl,G]
  rw[this]at a;cases a
section
variable {P:Program}{w:World}{K:PySem.W.Frag}{mg:fM}{base:Heap}
theorem yI {H:Hp}{a:Addr}{xs:List V}(h:H a=some (.tup xs)):isV H (.ref a) (.ty "tuple")=some true:=by unfold isV tyN;simp only[h];rfl
noncomputable def rS:Sp:=fun vs H Q _=>∃(d:D) (v:V),vs=[v]/\bD H d v/\Fl d/\Q (.int (sortD d)) H
theorem ME {f:Addr}{I:FuncData}(F:gU K "_law_sort" "_law_sort" eV f I)(T:Txt mg):cA P w K mg base a0 1 f I lL rS:=by
 refine F.ok xM (fun vs H Q E h=>?_) (fun S A outer s H vs Q E G h=>?_)
 ·obtain⟨d,v,rfl,_⟩:=h;rfl
 ·obtain⟨d,v,rfl,rep,j,q⟩:=h;have B:=G.units
  refine⟨_,(aF (bK (aX K rfl (aK aL rfl T.n_isinstance rfl (aA (pv 0) (aA (bU (v:=V.ty "tuple") rfl T.n_tuple rfl rfl) aC))) (fun _=>rfl)) (aG (aQ aJ)) aU)
   (aG (aQ (cC pY rfl T.n_int rfl (aA (dY (fJ B) (bP dN (pv 0) aJ (fun _ _=>rfl)) gM (nomark _)) aC))))),?_⟩
  simp only[qU];clear G F T B;have keep:=aI q (aI rep j);clear q rep j
  walk_at "rd"
  obtain⟨q,rep,j⟩:=keep;cases d with
  | str x =>
   cases (show v = .str x from rep);obtain⟨f1,f2⟩:=(show 1<=x.cps.toList.length/\x.cps.toList.length<=20 from by unfold Fl at j;exact j)
   obtain⟨c,hc⟩:∃c,x.cps.toList[0]?=some c:=⟨_,List.getElem?_eq_getElem (by omega)⟩
   refine⟨false,rfl,?_⟩;rw[if_neg (by decide)];refine⟨.str ⟨#[c]⟩,?_,?_⟩
   ·show(if x.length<=sizeLine then(atI x.cps.toList 0).map fun c=>V.str ⟨#[c]⟩else none)=_;rw[if_pos (Nat.le_trans (m:=20) (by simpa [Str.length] using f2) (by decide)),jM (by decide) (by omega),show(0:Int).toNat=0 from rfl,hc];rfl
   ·rw[rNeD_ss];refine⟨_,rfl,?_⟩;have e:(if (!decide ((⟨#[c]⟩:Str)=Str.ofString "?"))=true then(1:Int)else 0)=((sortD (.str x):Nat):Int):=by
     show _=((sortS x:Nat):Int);unfold sortS;rw[hc];have L:Str.ofString "?" = ⟨#[63]⟩:=by decide +kernel
     by_cases z:c=63
     ·subst z;rw[L];simp
     ·have:¬((⟨#[c]⟩:Str)=Str.ofString "?"):=fun w=>by rw[L]at w;simp at w;exact z w
      simp[this,z]
    rw[e];exact q
  | tup ds =>
   obtain⟨a,vs,rfl,N,_⟩:=rep;refine⟨true,?_,?_⟩
   ·exact yI N
   ·rw[if_pos rfl];exact q
  | _=>unfold Fl at j;exact absurd j id
noncomputable def i9 (n:Nat):Sp:=fun vs H Q _=>∃(d e:D) (v u:V),vs=[v,u]/\bD H d v/\bD H e u/\Fl d/\Fl e/\depD d<=n/\depD d<=50/\∀H',aH H H'->Q (.bl (ah d e)) H'
theorem GN {g:TG}{I:TS}{D:iN}{σ:St}{H:Hp}{a b:Addr}(xs ys:List V)(Pv:Nat->St->Hp->Prop)(h0:Pv 0 σ H)(hl:∀i σ H,i<=min xs.length ys.length->Pv i σ H->fL H a xs/\fL H b ys)
  (hs:∀i x y T σ H,xs[i]?=some x->ys[i]?=some y->Pv i σ H->H T=none->g (.ref T) σ (upd H T (.tup [x,y])) fun L H2=>I {D with nx:=Pv (i+1),ct:=Pv (i+1),bk:=D.nx} L H2)
  (hd:∀σ H,Pv (min xs.length ys.length) σ H->D.nx σ H):q8 (QO a b) g I D σ H:=by
 refine⟨fun i m σ H=>m=min xs.length ys.length - i/\i<=min xs.length ys.length/\Pv i σ H,⟨min xs.length ys.length,by simp,Nat.zero_le _,h0⟩,?_⟩;rintro i m σ H ⟨rfl,hi,p⟩;obtain⟨G,B⟩:=hl i σ H hi p;by_cases j:i<min xs.length ys.length
 ·have Z:i<xs.length:=Nat.lt_of_lt_of_le j (Nat.min_le_left _ _);have U:i<ys.length:=Nat.lt_of_lt_of_le j (Nat.min_le_right _ _);refine .inr ⟨⟨xs,ys,xs[i],ys[i],G,B,by simp[Z],by simp[U]⟩,Pv (i+1),fun σ' H' q=>⟨min xs.length ys.length - (i+1),by omega,rfl,j,q⟩,fun z H' y=>?_⟩;obtain⟨T,x,y,rfl,hT,rfl,q⟩:=y;obtain⟨S,N⟩:=q xs ys G B;exact hs i x y T σ H S N p hT
 ·have e:i=min xs.length ys.length:=by omega
  subst e;exact .inl ⟨⟨xs,ys,G,B,by omega⟩,hd σ H p⟩
theorem Reps.get {H:Hp}:∀{ds:List D} {vs:List V} {i:Nat} {v:V},Reps H ds vs->vs[i]?=some v->∃d,ds[i]?=some d/\bD H d v
 | [],_,_,_,e,h=>by cases e;simp at h
 | d::_,_,0,_,⟨x,r,e,a,b⟩,h=>by subst e;simp at h;subst h;exact⟨d,rfl,a⟩
 | _::_,_,i+1,_,⟨x,r,e,a,b⟩,h=>by subst e;simp at h;obtain⟨d,q,j⟩:=Reps.get b h;exact⟨d,by simpa using q,j⟩
theorem Fls.get:∀{ds:List D} {i:Nat} {d:D},Fls ds->ds[i]?=some d->Fl d
 | [],_,_,_,z=>by simp at z
 | _::_,0,_,⟨a,_⟩,h=>by simp at h;subst h;exact a
 | _::_,i+1,_,⟨_,b⟩,h=>Fls.get b (by simpa using h)
theorem iV:∀{ds:List D} {i:Nat} {d:D},ds[i]?=some d->depD d<=depDs ds
 | [],_,_,h=>by simp at h
 | e::ds,0,_,h=>by simp at h;subst h;rw[depDs];omega
 | e::ds,i+1,_,h=>by have:=iV (ds:=ds) (i:=i) (by simpa using h);rw[depDs];omega
theorem A0 {α:Type}{l:List α}{i:Nat}{x:α}(h:l[i]?=some x):l.drop i=x::l.drop (i+1):=by have⟨hi,e⟩:=List.getElem?_eq_some_iff.mp h;rw[List.drop_eq_getElem_cons hi,e]
noncomputable def ZI (q B:Addr)(ds j:List D)(H:Hp)(i:Nat)(σ:St)(I:Hp):Prop:=∃o2 G:Option V,σ=[some (.ref q),some (.ref B),o2,G]/\aH H I/\ahs ds j=ahs (ds.drop i) (j.drop i)
theorem jL {d:D}(h:Fl d):(∃x,d = .str x/\1<=x.cps.toList.length/\x.cps.toList.length<=20)∨∃n ds,d = .tup (.str n::ds)/\Fls ds:=by
 unfold Fl at h;split at h
 ·exact .inl ⟨_,rfl,h⟩
 ·exact .inr ⟨_,_,rfl,h⟩
 ·exact absurd h id
theorem NK {d e:D}(hd:Fl d)(j:Fl e)(n:sortD d≠sortD e):ah d e=decide (sortD d<sortD e):=by
 rcases jL hd with⟨x,rfl,_⟩|⟨a,ds,rfl,_⟩ <;> rcases jL j with⟨y,rfl,_⟩|⟨b,q,rfl,_⟩
 ·rw[ah];exact if_neg n
 ·rw[ah]
  all_goals (intros;simp_all)
 ·rw[ah]
  all_goals (intros;simp_all)
 ·exact absurd rfl n
theorem JG {f:Addr}{fd:FuncData}(n:Nat)(F:gU K "_law_ahead" "_law_ahead" dB f fd)(T:Txt mg)(O__law_sort:cK P w K mg base a0 1 "_law_sort" rS)
  (O__law_ahead:cK P w K mg base a0 (n+1) "_law_ahead" (fun vs H Q E=>∃m,m<n/\i9 m vs H Q E)):cA P w K mg base a0 (n+2) f fd fH (i9 n):=by
 refine F.ok mG (fun vs H Q E h=>?_) (fun cdv A outer s H vs Q E hr h=>?_)
 ·obtain⟨d,e,v,u,rfl,_⟩:=h;rfl
 ·obtain⟨d,e,v,u,rfl,r1,r2,f1,f2,dn,N,q⟩:=h;have L:=hr.units
  refine⟨_,(aF (bK (aV (fJ L) (aM O__law_sort (hr.mono (by omega)) pass0 rfl (aA (pv 0) aC)) (aM O__law_sort (hr.mono (by omega)) pass0 rfl (aA (pv 1) aC)) (nomark _)) (aG (aQ (dY (jH L) (aM O__law_sort (hr.mono (by omega)) pass0 rfl (aA (pv 0) aC)) (aM O__law_sort (hr.mono (by omega)) pass0 rfl (aA (pv 1) aC)) (nomark _)))) aU)
   (aF (bK (dC (aX K rfl (aK aL rfl T.n_isinstance rfl (aA (pv 0) (aA (bU (v:=V.ty "tuple") rfl T.n_tuple rfl rfl) aC))) (fun _=>rfl))) (aG (aQ (dY (jH L) (pv 0) (pv 1) (nomark _)))) aU)
   (aF (bK (aV (fJ L) (bP dN (pv 0) aJ (fun _ _=>rfl)) (bP dN (pv 1) aJ (fun _ _=>rfl)) (nomark _)) (aG (aQ (dY (jH L) (bP dN (pv 0) aJ (fun _ _=>rfl)) (bP dN (pv 1) aJ (fun _ _=>rfl)) (nomark _)))) aU)
   (aF (bK (aV (fJ L) (aK bH rfl T.n_len rfl (aA (pv 0) aC)) (aK bH rfl T.n_len rfl (aA (pv 1) aC)) (nomark _)) (aG (aQ (dY (jH L) (aK bH rfl T.n_len rfl (aA (pv 0) aC)) (aK bH rfl T.n_len rfl (aA (pv 1) aC)) (nomark _)))) aU)
   (aF (eI PassesOwn.never rfl (LO rfl T.n_zip (aA (gN kX (pv 0) (fC aJ) gK) (aA (gN kX (pv 1) (fC aJ) gK) aC))) (cR K rfl (i:=2) (j:=3) rfl mG.nd rfl rfl rfl rfl) (aG (bK (aV (fJ L) (pv 2) (pv 3) (nomark _)) (aG (aQ (aM O__law_ahead (hr.mono (by omega)) pass0 rfl (aA (pv 2) (aA (pv 3) aC))))) aU)))
   (aG (aQ qH))))))),?_⟩
  simp only[oM];clear hr F T L O__law_sort O__law_ahead;have keep:=aI q (aI r1 (aI r2 (aI f1 (aI f2 (aI dn N)))));clear q r1 r2 f1 f2 dn N
  walk_at "rd"
  obtain⟨q,r1,r2,f1,f2,dn,N⟩:=keep;refine⟨d,v,rfl,r1,f1,e,u,rfl,r2,f2,?_⟩;dsimp only;rw[rNeD_ii];refine⟨_,rfl,?_⟩;by_cases hs:sortD d=sortD e
  ·rw[hs,if_neg (by simp)];rcases jL f1 with⟨x,rfl,_⟩|⟨a,ds,rfl,fds⟩
   ·obtain⟨y,rfl,_⟩:∃y,e = .str y/\True:=by
     rcases jL f2 with⟨y,rfl,_⟩|⟨b,I,rfl,_⟩
     ·exact⟨y,rfl,trivial⟩
     ·have:=nQ x;have:sortS x=2:=hs;omega
    cases (show v = .str x from r1);cases (show u = .str y from r2);refine⟨false,rfl,?_⟩;rw[if_pos rfl];refine .inl (.inr ⟨x,rfl,y,rfl,?_⟩);have e1:ah (.str x) (.str y)=sL x y:=by rw[ah];exact if_pos hs
    have:=q H (fun _ _ h=>h);rw[e1]at this;exact this
   ·obtain⟨b,I,rfl,fes⟩:∃b I,e = .tup (.str b::I)/\Fls I:=by
     rcases jL f2 with⟨y,rfl,_⟩|h
     ·have:=nQ y;have:2=sortS y:=hs;omega
     ·exact h
    obtain⟨va,vs,rfl,ha,_,G,rfl,h1,rds⟩:=r1;obtain⟨ua,us,rfl,S,_,B,rfl,h2,res⟩:=r2;cases h1;cases h2;refine⟨true,yI ha,?_⟩;rw[if_neg (by decide)];refine⟨.str a,by rw[ixV_t ha,atI_zero],.str b,by rw[ixV_t S,atI_zero],?_⟩;rw[rNeD_ss];refine⟨_,rfl,?_⟩;by_cases hn:a=b
    ·subst hn;rw[if_neg (by simp)];refine⟨_,by rw[lenV_t ha];rfl,_,by rw[lenV_t S];rfl,?_⟩;rw[rNeD_ii];refine⟨_,rfl,?_⟩;have la:=Reps.len rds;have lb:=Reps.len res;by_cases hl:ds.length=I.length
     ·rw[if_neg (by simp only[List.length_cons,la,lb,hl];simp)];have U:∀(x:V) (l:List V),cutV (x::l) (some 1) none=l:=fun x l=>tO (x::l) 1;have nf:∀(x:V) (l:List V),¬(HT.sIx (x::l).length 0 (some 1)=0/\HT.sIx (x::l).length (x::l).length none=(x::l).length):=fun x l h=>by have e:=h.1;rw[show((1:Int))=((1:Nat):Int)from rfl,HT.sIx_nat]at e;simp only[List.length_cons]at e;omega
      refine⟨va,rfl,_,.inr ha,fun _=>nf _ _,fun c o hc ho=>⟨ua,rfl,_,.inr (by rw[aB (aE S hc)];exact S),fun _=>nf _ _,fun c2 o2 hc2 ho2=>⟨c,c2,⟨rfl,rfl⟩,?_⟩⟩⟩;have hb':upd H c o ua=some (.tup (.str a::B)):=by rw[aB (aE S hc)];exact S
      have eo:o = .tup G:=by
       rcases ho with⟨_,z⟩|⟨z,_⟩
       ·rw[ha]at z;cases z
       ·rw[z,U]
      have eo2:o2 = .tup B:=by
       rcases ho2 with⟨_,z⟩|⟨z,_⟩
       ·rw[hb']at z;cases z
       ·rw[z,U]
      subst eo eo2;have s2:aH H (upd (upd H c (.tup G)) c2 (.tup B)):=(aH.upd hc).trans (aH.upd hc2);have g1:upd (upd H c (.tup G)) c2 (.tup B) c=some (.tup G):=by rw[aB (aE upd_same hc2)];exact upd_same
      have g2:upd (upd H c (.tup G)) c2 (.tup B) c2=some (.tup B):=upd_same;generalize upd (upd H c (.tup G)) c2 (.tup B)=H2 at s2 g1 g2⊢;have e1:ah (.tup (.str a::ds)) (.tup (.str a::I))=ahs ds I:=by rw[ah,if_pos rfl,if_pos hl]
      rw[e1]at q;have dd:depDs ds+1<=n/\depDs ds+1<=50:=by rw[depD,depDs,show depD (.str a)=0 from rfl]at dn N;omega
      refine⟨⟨_,.inr g1⟩,⟨_,.inr g2⟩,GN G B (ZI va ua ds I H2) ⟨none,none,rfl,fun _ _ h=>h,by simp⟩ (fun i σ H3 _ ⟨_,_,_,Z,_⟩=>⟨.inr (Z _ _ g1),.inr (Z _ _ g2)⟩) ?_ ?_⟩
      ·rintro i x y T σ H3 hx hy ⟨o2,o3,rfl,Z,he⟩ hT;have s4:=(s2.trans Z).trans (aH.upd (o:=.tup [x,y]) hT);obtain⟨di,hdi,rdi⟩:=Reps.get (Reps.same s4 rds) hx;obtain⟨ei,hei,rei⟩:=Reps.get (Reps.same s4 res) hy;have ddi:=iV hdi;refine⟨T,_,rfl,hZ.of upd_same,rfl,_,_,rfl,_,_,rfl,rfl,_,rfl,_,rfl,di,ei,rdi,rei,by omega,_,rfl,?_⟩;rw[A0 hdi,A0 hei,ahs]at he;by_cases z:eqD di ei=true
       ·rw[z,if_neg (by decide)];rw[if_pos z]at he;exact⟨_,_,rfl,Z.trans (aH.upd hT),he⟩
       ·have z':eqD di ei=false:=by simpa using z
        rw[z',if_pos (by decide)];rw[if_neg z]at he;refine⟨_,rfl,_,rfl,n - 1,by omega,di,ei,x,y,rfl,rdi,rei,fds.get hdi,fes.get hei,by omega,by omega,fun H5 s5=>?_⟩;have:=q H5 (s4.trans s5);rw[he]at this;exact this
      ·rintro σ H3 ⟨o2,o3,rfl,Z,he⟩;have:ahs ds I=false:=by rw[he,List.drop_eq_nil_of_le (by rw[la,lb,hl];simp)];rfl
       rw[this]at q;exact q H3 (s2.trans Z)
     ·rw[if_pos (by simp only[List.length_cons,la,lb];simp;omega)];refine⟨_,by rw[lenV_t ha];rfl,_,by rw[lenV_t S];rfl,.inl (.inl ⟨_,rfl,_,rfl,?_⟩)⟩;have e1:ah (.tup (.str a::ds)) (.tup (.str a::I))=decide (ds.length<I.length):=by rw[ah,if_pos rfl,if_neg hl]
      have:=q H (fun _ _ h=>h);rw[e1]at this;simp only[List.length_cons,la,lb];have e2:(decide (((ds.length+1:Nat):Int)<((I.length+1:Nat):Int)))=decide (ds.length<I.length):=by
       by_cases z:ds.length<I.length
       ·rw[decide_eq_true z,decide_eq_true (by omega)]
       ·rw[decide_eq_false z,decide_eq_false (by omega)]
      rw[e2];exact this
    ·rw[if_pos (by simpa using hn)];refine⟨.str a,by rw[ixV_t ha,atI_zero],.str b,by rw[ixV_t S,atI_zero],.inl (.inr ⟨a,rfl,b,rfl,?_⟩)⟩;have e1:ah (.tup (.str a::ds)) (.tup (.str b::I))=sL a b:=by rw[ah,if_neg hn]
     have:=q H (fun _ _ h=>h);rw[e1]at this;exact this
  ·rw[if_pos (by simp;omega)];refine⟨d,v,rfl,r1,f1,e,u,rfl,r2,f2,.inl (.inl ⟨_,rfl,_,rfl,?_⟩)⟩;have:=q H (fun _ _ h=>h);rw[NK f1 f2 hs]at this;have e2:(decide (((sortD d:Nat):Int)<((sortD e:Nat):Int)))=decide (sortD d<sortD e):=by
    by_cases z:sortD d<sortD e
    ·rw[decide_eq_true z,decide_eq_true (by omega)]
    ·rw[decide_eq_false z,decide_eq_false (by omega)]
   rw[e2];exact this
theorem J0 {f:Addr}{j:FuncData}(F:gU K "_law_ahead" "_law_ahead" dB f j)(T:Txt mg)(O__law_sort:cK P w K mg base a0 1 "_law_sort" rS)
  (N:mg "_law_ahead" = some (.ref f)) (S:PySem.W.keepIn K (.ref f)=true) (q:fN K j fH []):∀n,cA P w K mg base a0 (n+2) f j fH (i9 n):=by
 intro n
 induction n using Nat.strongRecOn with
 | ind n G =>
  exact JG n F T O__law_sort ⟨f,j,_,⟨fun vs H Q E ⟨m,B,h⟩=>(G m B).len vs H Q E h,fun A outer s H args us vs Q E L U q I ⟨m,B,h⟩=>((G m B).mono (by omega)).run A outer s H args us vs Q E L U q I h⟩,N,S,q⟩
theorem FN {f:Addr}{j:FuncData}(F:gU K "_law_ahead" "_law_ahead" dB f j)(T:Txt mg)(O__law_sort:cK P w K mg base a0 1 "_law_sort" rS)
  (q:mg "_law_ahead" = some (.ref f)) (B:PySem.W.keepIn K (.ref f)=true) (G:fN K j fH []) (n:Nat):cK P w K mg base a0 (n+2) "_law_ahead" (i9 n):=⟨f,j,_,J0 F T O__law_sort q B G n,q,B,G⟩
end
section
variable {P:Program}{w:World}{K:PySem.W.Frag}{mg:fM}{base:Heap}
noncomputable def opn1 (n z:Str)(d:D):List D:=match d with
 | .tup (.str m::j)=>if m=n then j else [d]
 | d=>if eqD d (.str z)=true then []else [d]
noncomputable def opn (n z:Str)(ds:List D):List D:=ds.flatMap (opn1 n z)
theorem hU (n z:Str)(ds:List D)(d:D):opn n z (ds++[d])=opn n z ds++opn1 n z d:=by simp[opn]
theorem Reps.app {H:Hp}:∀{ds j:List D} {vs us:List V},Reps H ds vs->Reps H j us->Reps H (ds++j) (vs++us)
 | [],_,_,_,h,k=>by cases h;exact k
 | _::_,_,_,_,⟨x,r,e,a,b⟩,k=>by subst e;exact⟨x,_,rfl,a,Reps.app b k⟩
noncomputable def kW:Sp:=fun vs H Q _=>∃(n z:Str) (a:Addr) (ds:List D) (ws:List V),vs=[.str n,.str z,.ref a]/\H a=some (.lst ws)/\Reps H ds ws/\Fls ds/\(∀i,(opn n z (ds.take i)).length<=100)/\depDs ds<=50 /\
 ∀(l:Addr) (us:List V) (H':Hp),aH H H'->H l=none->H' l=some (.lst us)->Reps H (opn n z ds) us->Q (.ref l) H'
noncomputable def OI (n z:Str)(a:Addr)(ds:List D)(H:Hp)(i:Nat)(σ:St)(j:Hp):Prop:=∃(q:Option V) (l:Addr) (us:List V),σ=[some (.str n),some (.str z),some (.ref a),some (.ref l),q]/\aH H j/\H l=none/\j l=some (.lst us)/\Reps H (opn n z (ds.take i)) us
theorem FR {f:Addr}{fd:FuncData}(F:gU K "_law_opened" "_law_opened" dU f fd)(T:Txt mg):cA P w K mg base a0 1 f fd jU kW:=by
 refine F.ok gH (fun vs H Q E h=>?_) (fun cdv A outer s H vs Q E hr h=>?_)
 ·obtain⟨n,z,a,ds,ws,rfl,_⟩:=h;rfl
 ·obtain⟨n,z,a,ds,ws,rfl,ha,L,fl,B,dep,q⟩:=h;have hu:=hr.units
  refine⟨_,(aF (aY (i:=3) gH.nd rfl (Or.inl rfl) (cI aC))
   (aF (eI PassesOwn.never rfl (dM K rfl (pv 2)) (bQ (i:=4) gH.nd rfl (Or.inl rfl)) (aG (bK (PW.pt (rZ (aX K rfl (aK aL rfl T.n_isinstance rfl (aA (pv 4) (aA (bU (v:=V.ty "tuple") rfl T.n_tuple rfl rfl) aC))) (fun _=>rfl)) (nU (aV (eJ hu) (bP dN (pv 4) aJ (fun _ _=>rfl)) (pv 0) (nomark _))))) (aG (aY (i:=3) gH.nd rfl (Or.inl rfl) (bO bV (pv 3) (cC tR rfl T.n_list rfl (aA (gN kX (pv 4) (fC aJ) gK) aC))))) (aG (bK (aV (fJ hu) (pv 4) (pv 1) (nomark _)) (aG (cJ (jC PySem.F.plainAttrs_list PySem.F.slot_list_append PySem.F.type_list_append fF (pv 3) (aA (pv 4) aC)))) aU)))))
   (aG (aQ (pv 3))))),?_⟩
  simp only[mO];clear hr F T hu;have keep:=aI q (aI L (aI fl (aI B dep)));clear q L fl B dep
  walk_at "rd"
  obtain⟨q,L,fl,B,dep⟩:=keep;refine⟨Nat.zero_le _,fun l hl=>⟨ws,.inl (by rw[aB (aE ha hl)];exact ha),fun J hJ=>?_⟩⟩;have la:=Reps.len L;refine jF hJ (OI n z a ds H) ⟨none,l,[],rfl,aH.upd hl,hl,upd_same,rfl⟩ (by rintro i σ H' _ ⟨_,_,_,_,S,_⟩;rw[S _ _ ha,aB (aE ha hl),ha]) ?_ ?_
  ·rintro i x σ Z hx ⟨o4,l,us,rfl,S,nl,I,G⟩;obtain⟨d,hd,rd⟩:=Reps.get L hx;have fd:=fl.get hd;have key:=B (i+1);rw[aZ hd,hU,List.length_append]at key;have lu:=Reps.len G;have app:∀H2,aH Z H2->H2 l=some (.lst us)->(opn1 n z d=[d])->OI n z a ds H (i+1) [some (.str n),some (.str z),some (.ref a),some (.ref l),some x] (upd H2 l (.lst (us++[x]))):=fun H2 s2 hl2 U=>by refine⟨_,l,us++[x],rfl,fun b o e=>?_,nl,upd_same,by rw[aZ hd,hU,U];exact Reps.app G ⟨x,[],rfl,rd,rfl⟩⟩;rw[aB (fun w=>by rw[w,nl]at e;cases e)];exact s2 _ _ (S _ _ e)
   have keep:=aI S (aI nl (aI G (aI rd (aI fd (aI key (aI app (aI lu (aI L (aI fl (aI B (aI q (aI hd hx))))))))))));clear S nl G rd fd key app lu L fl B q hd hx la hJ
   walk_at "rd"
   obtain⟨S,nl,G,rd,fd,key,app,lu,L,fl,B,q,hd,hx⟩:=keep;have rd1:=bD.same S rd;have ddi:=iV hd;rcases jL fd with⟨y,rfl,_⟩|⟨m,es,rfl,fes⟩
   ·cases (show x = .str y from rd);refine⟨false,rfl,?_⟩;rw[if_neg (by decide),rNeD_ss];refine⟨_,rfl,?_⟩;by_cases e:y=z
    ·rw[if_neg (by simpa using e)];have U:opn1 n z (.str y)=[]:=show(if eqD (.str y) (.str z)=true then []else [D.str y])=[]from if_pos (by show(y == z)=true;simpa using e);exact⟨_,l,us,rfl,S,nl,I,by rw[aZ hd,hU,U,List.append_nil];exact G⟩
    ·rw[if_pos (by simpa using e)];have U:opn1 n z (.str y)=[.str y]:=show(if eqD (.str y) (.str z)=true then []else [D.str y])=[.str y]from if_neg (by show ¬(y == z)=true;simpa using e);exact⟨tyL I,us,I,Nat.lt_of_le_of_lt (m:=100) (by omega) (by decide),app Z (fun _ _ h=>h) I U⟩
   ·obtain⟨va,vs,rfl,N,_,j,rfl,h1,res⟩:=rd1;cases h1;refine⟨true,yI N,?_⟩;rw[if_pos rfl];refine⟨.str m,by rw[ixV_t N,atI_zero],?_⟩;rw[rEqD_ss];refine⟨_,rfl,?_⟩;by_cases e:m=n
    ·rw[if_pos (by simpa using e)];have U:opn1 n z (.tup (.str m::es))=es:=by unfold opn1;exact if_pos e
     rw[U]at key;have cut1:∀(x:V) (l:List V),cutV (x::l) (some 1) none=l:=fun x l=>tO (x::l) 1;have nf:¬(HT.sIx (V.str m::j).length 0 (some 1)=0/\HT.sIx (V.str m::j).length (V.str m::j).length none=(V.str m::j).length):=fun h=>by have e:=h.1;rw[show((1:Int))=((1:Nat):Int)from rfl,HT.sIx_nat]at e;simp only[List.length_cons]at e;omega
     refine⟨va,rfl,_,.inr N,fun _=>nf,fun c o hc ho=>?_⟩;have eo:o = .tup j:=by
      rcases ho with⟨_,w⟩|⟨w,_⟩
      ·rw[N]at w;cases w
      ·rw[w,cut1]
     subst eo;refine⟨j,by rw[seqV_t upd_same],fun c2 hc2=>?_⟩;have s2:aH Z (upd (upd Z c (.tup j)) c2 (.lst j)):=(aH.upd hc).trans (aH.upd hc2);have g2:upd (upd Z c (.tup j)) c2 (.lst j) c2=some (.lst j):=upd_same;generalize upd (upd Z c (.tup j)) c2 (.lst j)=H2 at s2 g2⊢;have lv:=Reps.len res;refine⟨.lst (us++j),?_,fun c3 hc3=>⟨_,c3,us++j,rfl,(S.trans s2).trans (aH.upd hc3),?_,upd_same,?_⟩⟩
     ·simp only[catO,s2 _ _ I,g2];exact if_pos (Nat.le_trans (m:=100) (by omega) (by decide))
     ·cases e:H c3 with
      | none=>rfl
      | some w=>have:=(S.trans s2) _ _ e;rw[hc3]at this;cases this
     ·rw[aZ hd,hU,U];obtain⟨va',vs2,e2,hva',v0,vs3,e3,e4,res'⟩:=rd;cases e2;rw[S _ _ hva']at N;cases N;cases e3;exact Reps.app G res'
    ·rw[if_neg (by simpa using e)];have U:opn1 n z (.tup (.str m::es))=[.tup (.str m::es)]:=by unfold opn1;exact if_neg e
     refine⟨.tup (.str m::es),.str z,⟨va,_,rfl,N,_,_,rfl,rfl,res⟩,rfl,by omega,_,rfl,?_⟩;rw[if_pos (by rfl)];exact⟨tyL I,us,I,Nat.lt_of_le_of_lt (m:=100) (by omega) (by decide),app Z (fun _ _ h=>h) I U⟩
  ·rintro σ Z ⟨o4,l,us,rfl,S,nl,I,G⟩;rw[la,List.take_length]at G;exact⟨_,rfl,q l us Z S nl I G⟩
end
section
variable {P:Program}{w:World}{K:PySem.W.Frag}{mg:fM}{base:Heap}
theorem IsTms.get {j:cL}{sm:bM}{os:aW}:∀{ds:List D} {i:Nat} {d:D},IsTms j sm os ds->ds[i]?=some d->bN j sm os d
 | [],_,_,_,z=>by simp at z
 | _::_,0,_,⟨a,_⟩,h=>by simp at h;subst h;exact a
 | _::_,i+1,_,⟨_,b⟩,h=>IsTms.get b (by simpa using h)
theorem BS {j:cL}{sm:bM}{os:aW}{d:D}(h:bN j sm os d):(∃x,d = .str x/\(x∈os∨x∈zeros j))∨∃n ds,(d = .tup (.str n::ds)∨d = .lst (.str n::ds))/\DM j sm n ds.length/\IsTms j sm os ds:=by
 unfold bN at h;split at h
 ·exact .inl ⟨_,rfl,h⟩
 ·exact .inr ⟨_,_,.inl rfl,h⟩
 ·exact .inr ⟨_,_,.inr rfl,h⟩
 ·exact absurd h id
theorem pU {j:cL}{sm:bM}{n:Str}{k:Nat}(h:DM j sm n k):1<=k:=by rcases h with⟨h,_⟩|⟨h,_⟩ <;> omega
theorem mY {H:Hp}{a:Addr}{xs:List V}(h:H a=some (.tup xs)):isV H (.ref a) (.ty "str")=some false:=by unfold isV tyN;simp only[h];rfl
theorem sY {H:Hp}{a:Addr}{xs:List V}(h:H a=some (.lst xs)):isV H (.ref a) (.ty "str")=some false:=by unfold isV tyN;simp only[h];rfl
theorem D9:∀{ds:List D} {i:Nat} {d:D},ds[i]?=some d->lvs d<=lvss ds
 | [],_,_,h=>by simp at h
 | e::ds,0,_,h=>by simp at h;subst h;rw[lvss];omega
 | e::ds,i+1,_,h=>by have:=D9 (ds:=ds) (i:=i) (by simpa using h);rw[lvss];omega
mutual
theorem BR {j:cL}{sm:bM}{os:aW}:∀{d:D},bN j sm os d->1<=lvs d
 | .str x,_=>by rw[lvs] <;> simp
 | .tup (.str n::ds),h=>by
  unfold bN at h;have:=lV h.2;have:=pU h.1;rw[lvs];omega
 | .lst (.str n::ds),h=>by
  unfold bN at h;have:=lV h.2;have:=pU h.1;rw[lvs];omega
 | .non,h=>by unfold bN at h;exact absurd h id
 | .bl _,h=>by unfold bN at h;exact absurd h id
 | .int _,h=>by unfold bN at h;exact absurd h id
 | .tup [],h=>by unfold bN at h;exact absurd h id
 | .lst [],h=>by unfold bN at h;exact absurd h id
 | .tup (.non::_),h=>by unfold bN at h;exact absurd h id
 | .tup (.bl _::_),h=>by unfold bN at h;exact absurd h id
 | .tup (.int _::_),h=>by unfold bN at h;exact absurd h id
 | .tup (.tup _::_),h=>by unfold bN at h;exact absurd h id
 | .tup (.lst _::_),h=>by unfold bN at h;exact absurd h id
 | .lst (.non::_),h=>by unfold bN at h;exact absurd h id
 | .lst (.bl _::_),h=>by unfold bN at h;exact absurd h id
 | .lst (.int _::_),h=>by unfold bN at h;exact absurd h id
 | .lst (.tup _::_),h=>by unfold bN at h;exact absurd h id
 | .lst (.lst _::_),h=>by unfold bN at h;exact absurd h id
theorem lV {j:cL}{sm:bM}{os:aW}:∀{ds:List D},IsTms j sm os ds->ds.length<=lvss ds
 | [],_=>Nat.zero_le _
 | d::ds,⟨a,b⟩=>by have B:=BR a;have q:=lV b;rw[lvss,List.length_cons];omega
end
end
mutual
theorem J8:∀{d e:D},Fl d->Fl e->eqD d e=true->d=e
 | .str x,.str y,_,_,h=>by
  have h:(x == y)=true:=h;rw[eq_of_beq h]
 | .tup (.str n::ds),.tup (.str m::B),q,j,h=>by
  have h:((n == m) && eqDs ds B)=true:=h;rw[Bool.and_eq_true]at h;unfold Fl at q j;rw[eq_of_beq h.1,J6 q j h.2]
 | .str _,.tup (.str _::_),_,_,h=>by cases (show false=true from h)
 | .tup (.str _::_),.str _,_,_,h=>by cases (show false=true from h)
theorem J6:∀{ds j:List D},Fls ds->Fls j->eqDs ds j=true->ds=j
 | [],[],_,_,_=>rfl
 | d::ds,e::j,⟨a,b⟩,⟨B,q⟩,h=>by
  rw[eqDs,Bool.and_eq_true]at h;rw[J8 a B h.1,J6 b q h.2]
 | [],_::_,_,_,h=>by cases (show false=true from h)
 | _::_,[],_,_,h=>by cases (show false=true from h)
end
theorem P4 {d e:D}(q:Fl d)(j:Fl e)(h:key d=key e):d=e:=J8 q j (MW q j h)
noncomputable def leK (d e:D):Prop:=lexK (key e) (key d)=false
theorem JO {d e:D}(G:Fl d)(B:Fl e)(q:leK d e)(j:leK e d):d=e:=by
 by_cases k:key d=key e
 ·exact P4 G B k
 ·rcases sS k with h|h
  ·rw[j]at h;cases h
  ·rw[q]at h;cases h
theorem sR:∀{a b c:List M},lexK a b=false->lexK b c=false->lexK a c=false:=by
 have j:∀{a b c:M},ltM a b=true->ltM b c=true->ltM a c=true:=by
  rintro⟨a1,L,a3⟩ ⟨b1,b2,b3⟩ ⟨Z,I,c3⟩ h k;unfold ltM at h k⊢;dsimp only at h k⊢;by_cases B:a1=b1
  ·subst B;rw[if_pos rfl]at h;by_cases q:a1=Z
   ·subst q;rw[if_pos rfl]at k⊢;by_cases f1:L=b2
    ·subst f1;rw[if_pos rfl]at h;by_cases f2:L=I
     ·subst f2;rw[if_pos rfl]at k⊢;have:=of_decide_eq_true h;have:=of_decide_eq_true k;exact decide_eq_true (p:=_) (by omega)
     ·rw[if_neg f2]at k⊢;exact k
    ·rw[if_neg f1]at h;by_cases f2:b2=I
     ·subst f2;rw[if_neg f1];exact h
     ·rw[if_neg f2]at k;have t:sL L I=true:=decide_eq_true (List.lt_trans (of_decide_eq_true h) (of_decide_eq_true k));by_cases f3:L=I
      ·subst f3;rw[OZ]at t;cases t
      ·rw[if_neg f3];exact t
   ·rw[if_neg q]at k⊢;exact k
  ·rw[if_neg B]at h;have h:=of_decide_eq_true h;by_cases q:b1=Z
   ·subst q;rw[if_neg B];exact decide_eq_true h
   ·rw[if_neg q]at k;have k:=of_decide_eq_true k;rw[if_neg (by omega)];exact decide_eq_true (p:=_) (by omega)
 intro a
 induction a with
 | nil =>
  intro b c h k;cases b with
  | nil=>exact k
  | cons y b=>cases h
 | cons x a ih =>
  intro b c h k;cases c with
  | nil=>rfl
  | cons z c =>
   cases b with
   | nil=>cases k
   | cons y b =>
    rw[lexK]at h k⊢;by_cases B:x=y
    ·subst B;rw[if_pos rfl]at h;by_cases q:x=z
     ·rw[if_pos q]at k⊢;exact ih h k
     ·rw[if_neg q]at k⊢;exact k
    ·rw[if_neg B]at h;have S:ltM y x=true:=(pK B).resolve_left (by rw[h];decide);by_cases q:y=z
     ·subst q;rw[if_neg B];exact h
     ·rw[if_neg q]at k;have N:ltM z y=true:=(pK q).resolve_left (by rw[k];decide);have G:=j N S;by_cases U:x=z
      ·subst U;have:=sO G;rw[G]at this;cases this
      ·rw[if_neg U];exact sO G
theorem GE {a b c:D}(h:leK a b)(k:leK b c):leK a c:=sR k h
theorem mS:∀{l m:List D},(∀d∈l,Fl d)->l.Perm m->l.Pairwise leK->m.Pairwise leK->l=m
 | [],m,_,p,_,_=>(List.nil_perm.mp p).symm
 | a::l,[],_,p,_,_=>absurd (List.perm_nil.mp p) (by simp)
 | a::l,b::m,f,p,s,t=>by
  have I:∀d∈b::m,Fl d:=fun d hd=>f d (p.mem_iff.mpr hd);obtain⟨q,s2⟩:=List.pairwise_cons.mp s;obtain⟨t1,j⟩:=List.pairwise_cons.mp t;have e:a=b:=by
   have G:a∈b::m:=p.mem_iff.mp List.mem_cons_self;have B:b∈a::l:=p.mem_iff.mpr List.mem_cons_self;obtain h|h:=List.mem_cons.mp G
   ·exact h
   ·obtain k|k:=List.mem_cons.mp B
    ·exact k.symm
    ·exact JO (f a List.mem_cons_self) (I b List.mem_cons_self) (q b k) (t1 a h)
  subst e;rw[mS (fun d hd=>f d (List.mem_cons_of_mem _ hd)) (List.perm_cons a |>.mp p) s2 j]
noncomputable def insA (d:D):List D->List D
 | []=>[d]
 | e::l=>if ah d e=true then d::e::l else e::insA d l
theorem lZ (d:D):∀l:List D,(insA d l).Perm (d::l)
 | []=>.refl _
 | e::l=>by
  unfold insA;by_cases h:ah d e=true
  ·rw[if_pos h]
  ·rw[if_neg h];exact((lZ d l).cons e).trans (.swap d e l)
theorem QE {d e:D}(B:Fl d)(j:Fl e):ah d e=true->lexK (key d) (key e)=true∨d=e:=fun h=>by
 rw[sU B j,h];cases q:eqD d e with
 | false=>exact .inl rfl
 | true=>exact .inr (J8 B j q)
theorem qK {d:D}(B:Fl d):∀{l:List D},(∀e∈l,Fl e)->l.Pairwise leK->(insA d l).Pairwise leK
 | [],_,_=>List.pairwise_singleton _ _
 | e::l,f,s=>by
  obtain⟨G,s2⟩:=List.pairwise_cons.mp s;have I:=f e List.mem_cons_self;unfold insA;by_cases h:ah d e=true
  ·rw[if_pos h];have L:leK d e:=by
    rcases QE B I h with q|q
    ·exact pM q
    ·subst q;exact n8 _
   refine List.pairwise_cons.mpr ⟨fun x j=>?_,s⟩;obtain k|k:=List.mem_cons.mp j
   ·subst k;exact L
   ·exact GE L (G x k)
  ·rw[if_neg h];have S:leK e d:=by
    have:lexK (key d) (key e)=false:=by rw[sU B I];simp[h]
    exact this
   refine List.pairwise_cons.mpr ⟨fun x j=>?_,qK B (fun y N=>f y (List.mem_cons_of_mem _ N)) s2⟩;rcases List.mem_cons.mp ((lZ d l).mem_iff.mp j)with k|k
   ·subst k;exact S
   ·exact G x k
end Lw
namespace L2
open PySem PySem.Spec PyProof.Rows
theorem FA {ks:List (Option Expr)}{vs j:kU}{p:Pos}{env:Env}:starEach (.Dict ks vs p::j) env=(false,eval (.Dict ks vs p) env)::starEach j env:=by rw[starEach];exact fun _ _ z=>nomatch z
theorem D4 {X:Cx}{j:kU}{p:Pos}{t:TA}(h:PA X j t):PA X (.Dict [] [] p::j) (tCons HR t):=aA nY h FA
theorem xY:typeLookup (.type "list") "keys" = pure none:=am_miss_of_fast (by decide +kernel)
theorem yB {P:Program}{w:World}{A:Around}{E:cE}{s:Shared}{a:Addr}{xs:i4}{k:Nat}{B:Array (Option Value)}{Q:Option Value->Shared->Prop}
  (j:s.heap.get? a=some {cls:=.type "list",dict:=none,data:=.seq xs k,slots:=B}) (calm:A.handled=none)
  (q:∀h' tk,(∀b G,s.heap.get? b=some G->h'.get? b=some G)->Q none {s with heap:=h',toks:=tk}) :
  wpAny (model P w) A (getAttr? (.ref a) "keys") Q E s:=by
 rcases s with⟨L,N,S,tk,os⟩;have ty:∀t,(⟨L,N,S,t,os⟩:Shared).TypeIs (.ref a) "list":=fun _=>⟨_,j,rfl⟩
 have l1:=F.slot_list_getattribute.lookup;have l2:=F.slot_list_getattribute.bind (.ref a);have l3:=am_list_getattr_none;have l4:=sub_AttributeError;rw[getAttr?];unfold getAttrBy? getAttrBy
 repeat (any_goals (first|assumption|exact ty _|((with_reducible show wpAny _ _ (call (Value.builtin "list.__getattribute__") _ _) _ _ _);refine call_meets F.slot_list_getattribute (ty _) am_entry_list_getattribute (F.args_list_getattribute_2 _ _) (meets_getattribute_miss_list a xs k B "keys" _ xY (by decide) (by decide)) ⟨j,calm,fun h' I e n=>?_⟩)|wp_step))
 obtain⟨x1,Z,U⟩:=n.there;dsimp only[wants];unfold getattributeRaised
 wp_walk
 exact q _ _ n.keeps
section
variable {P:Program}{w:World}{K:Type}[DecidableEq K]{knd:KeyKind P w K}
noncomputable def yZ (knd:KeyKind P w K)(h:Heap)(d it:Addr)(x:Value)(j:K×Value):Prop :=
 ∃(q:Addr) (o:Obj) (key:Value) (n:Nat),x = .ref q/\q≠d/\q≠it/\h.get? q=some o/\(o.cls = .type "list"∨o.cls = .type "tuple")/\o.data = .seq #[key,j.2] n/\knd.is j.1 key=true
theorem yZ.mono {h h':Heap}{d it:Addr}{x:Value}{j:K×Value}(p:yZ knd h d it x j)(k:∀b o,b≠d->b≠it->h.get? b=some o->h'.get? b=some o):yZ knd h' d it x j:=by obtain⟨q,o,key,n,N,G,B,L,I⟩:=p;exact⟨q,o,key,n,N,G,B,k q o G B L,I⟩
inductive NP (knd:KeyKind P w K)(h:Heap)(d it:Addr):bZ->List (K×Value)->Prop
 | nil:NP knd h d it [] []
 | cons {x:Value} {xs:bZ} {kv:K×Value} {more:List (K×Value)}:yZ knd h d it x kv->NP knd h d it xs more->NP knd h d it (x::xs) (kv::more)
theorem NP.mono {h h':Heap}{d it:Addr}(k:∀b o,b≠d->b≠it->h.get? b=some o->h'.get? b=some o):∀{xs:bZ} {more:List (K×Value)},NP knd h d it xs more->NP knd h' d it xs more
 | _,_,.nil=>.nil
 | _,_,.cons p r=>.cons (p.mono k) (NP.mono k r)
theorem lX:plainId "dict.update.loop" = true:=by decide +kernel
theorem wA:entryFor table "dict.update.loop" = some Builtin.«dict.update.loop»:=entryFor_of_fast (by kernel_rfl)
theorem uO {A:Around}{E:cE}{s:Shared}{q:Addr}{o:Obj}{n:Nat}{a b:Value}{Q:bZ->Shared->Prop}(e:s.heap.get? q=some o)(c:o.cls = .type "list"∨o.cls = .type "tuple")(j:o.data = .seq #[a,b] n)(h:Q [a,b] s) :
  wpAny (model P w) A (Builtin.Dict.pairItems (.ref q)) Q E s:=by
 unfold Builtin.Dict.pairItems;rcases c with c|c
 ·refine wpAny_bind (wpAny_typeOf (T:="list") ⟨o,e,c⟩ ?_);rw[if_pos (by decide)];exact wpAny_bind (wpAny_seqItems e j (wpAny_pure h))
 ·refine wpAny_bind (wpAny_typeOf (T:="tuple") ⟨o,e,c⟩ ?_);rw[if_pos (by decide)];exact wpAny_bind (wpAny_seqItems e j (wpAny_pure h))
theorem HF {d it l:Addr}{items:i4}(I:it≠d)(nld:l≠d)(nli:l≠it):∀(m i:Nat),items.size - i=m->∀(A:Around) (R:Result->Shared->Prop) (s:Shared) (j more:List (K×Value)) (tk:Tok),
  A.handled=none->s.heap.IsListIter it l i->s.heap.IsList l items->s.heap.DictOf knd d j->NP knd s.heap d it (items.toList.drop i) more->j.length+more.length<=sizeLine ->
  (∀h' B,h'.DictOf knd d (merged j more)->(∀b o,b≠d->b≠it->s.heap.get? b=some o->h'.get? b=some o)->R (.ok (.ret .none)) {s with heap:=h',toks:=B}) ->
  codeAny (model P w) A (.builtin "dict.update.loop" ⟨[.ref d,.ref it,.int i tk,.none],[]⟩) R s:=by
 intro m
 induction m with
 | zero =>
  intro i hm A R s j more tk hA st hl hd S hz k;refine codeAny_builtin wA ?_;rw[Around.under_plainId lX];have hi:items[i]?=none:=by simp;omega
  have en:more=[]:=by
   have:items.toList.drop i=[]:=by simp;omega
   rw[this]at S;cases S;rfl
  subst en;unfold Builtin.«dict.update.loop»;dsimp only;refine wpAny_bind (wpAny_pyNext_list_end hA st hl hi fun h' eb=>?_);dsimp only;refine wpAny_bind (m:=Builtin.Dict.addKeywords d []) (wpAny_pure (wpAny_pure ?_));exact k h' s.toks (hd.extBut eb I.symm) fun b o _ hb e=>eb b o hb e
 | succ m ih =>
  intro i hm A R s j more tk hA st hl hd S hz k;refine codeAny_builtin wA ?_;rw[Around.under_plainId lX];have N:i<items.size:=by omega
  have hi:items[i]?=some items[i]:=by simp[N]
  have ed:items.toList.drop i=items[i]::items.toList.drop (i+1):=by simp[List.drop_eq_getElem_cons,N]
  rw[ed]at S;cases S with
  | cons p rest =>
   rename_i kv more;unfold Builtin.«dict.update.loop»;dsimp only;refine wpAny_bind (wpAny_pyNext_list_item st hl hi fun h1 st1 G=>?_);dsimp only;obtain⟨q,o,key,n,eq,nqd,nqi,gq,cq,dq,kq⟩:=p;rw[eq];refine wpAny_bind (wpAny_holding (wpAny_bind (wpAny_tryCatch (uO (s:={s with heap:=h1}) ((G.2 q nqi).trans gq) cq dq ?_))));refine wpAny_holding (wpAny_dictSet_pairs kq (hd.sameBut G I.symm) (fun h2 hd2 L=>?_) (by simp at hz;omega));have kept:∀b o,b≠d->b≠it->s.heap.get? b=some o->h2.get? b=some o:=fun b o Z U e=>(L.2 b Z).trans ((G.2 b U).trans e);refine wpAny_pure ⟨plainId_quiet lX _,?_⟩;have e1:((i:Int)+1)=((i+1:Nat):Int):=by push_cast;rfl
   rw[e1];refine ih (i+1) (by omega) A R _ (stored j kv.1 kv.2) more 0 hA (st1.at fun o e=>(L.2 it I).trans e) (hl.at fun o e=>kept l o nld nli e) hd2 (rest.mono kept) ?_ fun h' B r1 r2=>?_
   ·have:=stored_length_le j kv.1 kv.2;simp at hz;omega
   ·exact k h' B r1 fun b o Z U e=>r2 b o Z U (kept b o Z U e)
noncomputable def QJ (knd:KeyKind P w K)(h:Heap)(x:Value)(j:K×Value):Prop :=
 ∃(q:Addr) (o:Obj) (key:Value) (n:Nat),x = .ref q/\h.get? q=some o/\(o.cls = .type "list"∨o.cls = .type "tuple")/\o.data = .seq #[key,j.2] n/\knd.is j.1 key=true
inductive oI (knd:KeyKind P w K)(h:Heap):bZ->List (K×Value)->Prop
 | nil:oI knd h [] []
 | cons {x:Value} {xs:bZ} {kv:K×Value} {more:List (K×Value)}:QJ knd h x kv->oI knd h xs more->oI knd h (x::xs) (kv::more)
theorem oI.at {h h':Heap}{d it:Addr}(G:h.get? d=none)(B:h.get? it=none)(k:∀b o,h.get? b=some o->h'.get? b=some o):∀{xs:bZ} {more:List (K×Value)},oI knd h xs more->NP knd h' d it xs more
 | _,_,.nil=>.nil
 | _,_,.cons ⟨q,o,key,n,L,j,I⟩ r=>.cons ⟨q,o,key,n,L,fun e=>(by rw[e,G]at j;cases j),fun e=>(by rw[e,B]at j;cases j),k q o j,I⟩ (oI.at G B k r)
theorem qY {A:Around}{E:cE}{s:Shared}{l:Addr}{items:i4}{n:Nat}{sl:Array (Option Value)}{more:List (K×Value)}{Q:cE}
  (j:s.heap.get? l=some {cls:=.type "list",dict:=none,data:=.seq items n,slots:=sl}) (calm:A.handled=none) (al:oI knd s.heap items.toList more) (hz:more.length<=sizeLine)
  (q:∀h' tk,h'.DictOf knd s.heap.objs.size (merged [] more)->(∀b o,s.heap.get? b=some o->h'.get? b=some o)->Q (.ref s.heap.objs.size) {s with heap:=h',toks:=tk}) :
  wpAny (model P w) A (call (.type "dict") [.ref l]) Q E s:=by
 refine callType_codes (Q₁:=fun v Z=>v = .ref s.heap.objs.size/\Z={s with heap:=s.heap.push {cls:=.type "dict",data:=.dict #[]} }) F.kt_called_dict (F.kt_typeCall_dict_1 _) F.entry_dict_init (kt_code_dict_new _ ⟨rfl,rfl⟩) ?_;rintro v Z ⟨rfl,rfl⟩;have U:(s.heap.push {cls:=.type "dict",data:=.dict #[]}).DictOf knd s.heap.objs.size []:=Heap.DictOf.new s.heap;have I:=Heap.get?_push_of_some {cls:=.type "dict",data:=.dict #[]} j;have lt:=Heap.lt_size j;refine⟨U.typeIs,F.args_dict_init_2 _ _,?_⟩;unfold Builtin.«dict.__init__» Builtin.Dict.selfAndRest;refine wpAny_bind (wpAny_bind (wpAny_notOrdered_dict U.typeIs (wpAny_pure ?_)));unfold Builtin.Dict.updateCommon Builtin.Dict.updateFrom;dsimp only;refine wpAny_bind (wpAny_typeOf (T:="list") ⟨_,I,rfl⟩ ?_);rw[if_pos (by decide)];refine wpAny_bind (yB I calm fun S t1 N=>?_);rw[if_pos (by rfl)];have l1:=N _ _ I;refine wpAny_bind (wpAny_rule (wpAny_bind (wpAny_pyIter_list (items:=items) ⟨_,l1,rfl,_,rfl⟩ (wpAny_pure ⟨plainId_quiet lX _,?_⟩))));have d1:=U.keep N;have B:s.heap.objs.size<S.objs.size:=by obtain⟨o,e,_⟩:=Heap.dictOf_iff.mp d1;exact Heap.lt_size e
 have L:∀b o,s.heap.get? b=some o->(S.push {cls:=.type "list_iterator",data:=.fields #[.ref l,.int 0 0]}).get? b=some o:=fun b o e=>Heap.get?_push_of_some _ (N b o (Heap.get?_push_of_some _ e));refine HF (it:=S.objs.size) (l:=l) (items:=items) (Nat.ne_of_gt B) (Nat.ne_of_lt lt) (Nat.ne_of_lt (Nat.lt_trans lt B)) _ 0 rfl A.in1 _ _ [] more 0 calm ⟨_,Heap.get?_push_size _ rfl,rfl,rfl⟩ ⟨_,L _ _ j,rfl,_,rfl⟩ (d1.push _)
  (oI.at (Heap.get?_none_of_le (Nat.le_refl _)) (Heap.get?_none_of_le (Nat.le_of_lt B)) L al) (by simpa using hz) fun h' G r1 r2=>?_
 exact⟨rfl,q h' G r1 fun b o e=>r2 b o (Nat.ne_of_lt (Heap.lt_size e)) (Nat.ne_of_lt (Nat.lt_trans (Heap.lt_size e) B)) (L b o e)⟩
end
noncomputable def prV (H:Hp):V->Option (V×V)
 | .ref p=>match H p with
  | some (.lst [a,b])=>some (a,b)
  | some (.tup [a,b])=>some (a,b)
  | _=>none
 | _=>none
theorem zR {X:Cx}{L:cW}{σ:St}{H:Hp}{s:Shared}(I:aO X L σ H s):∀{ys:List V} {us:bZ} {j:List (bG×V)},aR ys us->ys.map (prV H)=j.map (fun N=>some (kV N.1,N.2)) ->
  ∃G:List (bG×Value),oI (bF X.prog X.w) s.heap us G/\KV j G
 | [],_,[],r,_=>by cases r;exact⟨[],.nil,.nil⟩
 | [],_,_::_,_,e=>by cases e
 | _::_,_,[],_,e=>by cases e
 | y::ys,_,N::j,r,e=>by
  cases r with
  | @cons _ u _ us ry r =>
   rw[List.map_cons,List.map_cons]at e;injection e with B e2;obtain⟨G,c,q⟩:=zR I r e2;cases y with
   | ref p =>
    cases ry;unfold prV at B;dsimp only at B;split at B
    ·rename_i a b hp;cases B;obtain⟨_,its,n,Z,h1⟩:=(show bY X.prog X.w H s.heap p (.lst [_,_])from I.hok p _ hp)
     obtain⟨U,S,rfl,r1,r2⟩:=vals2 Z;exact⟨(N.1,S)::G,.cons ⟨p,_,U,n,rfl,h1,.inl rfl,rfl,mK r1⟩ c,.cons ⟨rfl,r2⟩ q⟩
    ·rename_i a b hp;cases B;obtain⟨_,its,Z,o,h1,h2,n,h3⟩:=(show bY X.prog X.w H s.heap p (.tup [_,_])from I.hok p _ hp)
     obtain⟨U,S,rfl,r1,r2⟩:=vals2 Z;exact⟨(N.1,S)::G,.cons ⟨p,o,U,n,rfl,h1,.inr h2,h3,mK r1⟩ c,.cons ⟨rfl,r2⟩ q⟩
    ·cases B
   | _=>cases B
noncomputable def O2:List V->Hp->VK->Prop:=fun xs H Q=>∃p ys j,xs=[.ref p]/\H p=some (.lst ys)/\ys.map (prV H)=j.map (fun q=>some (kV q.1,q.2))/\∀d,H d=none->Q (.ref d) (upd H d (.dK (jI [] j)))
theorem mZ {X:Cx}(hc:X.calm=true):cT X (.type "dict") O2:=by
 intro G s σ H xs us Q I r h;obtain⟨p,ys,j,rfl,Z,L,q⟩:=h;obtain⟨u,rfl,N⟩:=vals1 r;cases N;obtain⟨z,its,n,S,h1⟩:=(show bY X.prog X.w H s.heap p (.lst ys)from I.hok p _ Z)
 obtain⟨U,c,B⟩:=zR I S L;have ll:j.length=ys.length:=by have:=congrArg List.length L;simpa using this.symm
 have lr:j.length=U.length:=B.length;refine qY h1 (I.ok.hd hc) (by simpa using c) (by omega) fun h' tk dd kp=>⟨.ref s.heap.objs.size,_,?_,rfl,q _ (I.hok.fresh (Nat.le_refl _))⟩
 have hz:(jI [] j).length<=sizeLine:=by have:=mJ j [];rw[List.length_nil]at this;omega
 exact I.laid (t':=tk) kp (Nat.le_refl _) (DA hz (beq_eq_false_iff_ne.mpr (Ne.symm (Nat.ne_of_lt I.big))) (B.merge .nil) dd)
noncomputable def rDIn (j:Bool):R2:=fun x y H Q=>∃a o,y = .ref a/\jY H a x o/\Q (.bl (if j then !o.isSome else o.isSome)) H
theorem CD {X:Cx}(L:X.A.units+64<cLine):i5 X (compareOp .NotIn) (rDIn true):=by intro j s σ H x y v u Q I G B h;obtain⟨a,o,rfl,g,q⟩:=h;cases B;exact NC (Nat.lt_of_le_of_lt (Nat.add_le_add_left (by decide) _) L) I g G fun S N=>⟨.bl _,H,N,rfl,q⟩
end L2
namespace Lw
open PySem L2
noncomputable def cM (ds:List D):List D:=ds.foldl (fun l d=>insA d l) []
noncomputable def zr (sm:bM)(n:Str):Option Str:=(sm.find? fun r=>decide (r.1=n)).map (·.2)
noncomputable def one (n z:Str)(l:List D):D:=match l with
 | []=>.str z
 | [d]=>d
 | l=>.tup (.str n::l)
noncomputable def knot (sm:bM)(n:Str)(ps:List D):D:=match zr sm n with
 | none=>.tup (.str n::ps)
 | some z=>one n z (cM (opn n z ps))
mutual
noncomputable def flt (sm:bM):D->D
 | .tup (.str n::ds)=>knot sm n (flts sm ds)
 | .lst (.str n::ds)=>knot sm n (flts sm ds)
 | d=>d
noncomputable def flts (sm:bM):List D->List D
 | []=>[]
 | d::ds=>flt sm d::flts sm ds
end
theorem cS (sm:bM):∀ds:List D,flts sm ds=ds.map (flt sm)
 | []=>rfl
 | d::ds=>by rw[flts,cS sm ds];rfl
theorem qJ (ds:List D)(d:D):cM (ds++[d])=insA d (cM ds):=by simp[cM]
theorem vY:∀(ds l:List D),(ds.foldl (fun l d=>insA d l) l).Perm (ds++l)
 | [],l=>.refl _
 | d::ds,l=>(vY ds (insA d l)).trans (((lZ d l).append_left ds).trans (List.perm_middle))
theorem bR (ds:List D):(cM ds).Perm ds:=by have:=vY ds [];simpa [cM] using this
mutual
noncomputable def sz:D->Nat
 | .tup (_::ds)=>max 1 (szs ds)
 | .lst (_::ds)=>max 1 (szs ds)
 | _=>1
noncomputable def szs:List D->Nat
 | []=>0
 | d::ds=>sz d+szs ds
end
theorem OW:∀d:D,1<=sz d:=by intro d;unfold sz;split <;> omega
theorem kB:∀ds:List D,ds.length<=szs ds
 | []=>Nat.le_refl _
 | d::ds=>by rw[szs,List.length_cons];have:=OW d;have:=kB ds;omega
theorem wY:∀ds j:List D,szs (ds++j)=szs ds+szs j
 | [],j=>by simp[szs]
 | d::ds,j=>by rw[List.cons_append,szs,wY ds j,szs];omega
theorem HV {l m:List D}(p:l.Perm m):szs l=szs m:=by
 induction p with
 | nil=>rfl
 | cons x _ j=>rw[szs,szs,j]
 | swap x y l=>rw[szs,szs,szs,szs];omega
 | trans _ _ a b=>exact a.trans b
theorem wF:∀ds j:List D,depDs (ds++j)=max (depDs ds) (depDs j)
 | [],j=>by simp[depDs]
 | d::ds,j=>by rw[List.cons_append,depDs,wF ds j,depDs,Nat.max_assoc]
theorem DB {l m:List D}(p:l.Perm m):depDs l=depDs m:=by
 induction p with
 | nil=>rfl
 | cons x _ j=>rw[depDs,depDs,j]
 | swap x y l=>rw[depDs,depDs,depDs,depDs,Nat.max_left_comm]
 | trans _ _ a b=>exact a.trans b
theorem LZ (n z:Str)(d:D):szs (opn1 n z d)<=sz d:=by
 unfold opn1;split
 ·split
  ·rw[sz];omega
  ·rw[szs,szs];omega
 ·split
  ·rw[szs];omega
  ·rw[szs,szs];omega
theorem lD (n z:Str)(d:D)(ds:List D):opn n z (d::ds)=opn1 n z d++opn n z ds:=by simp[opn]
theorem sE (n z:Str):∀ds:List D,szs (opn n z ds)<=szs ds
 | []=>Nat.le_refl _
 | d::ds=>by rw[lD,wY,szs];have:=LZ n z d;have:=sE n z ds;omega
theorem IU (n z:Str)(d:D):depDs (opn1 n z d)<=depD d:=by
 unfold opn1;split
 ·split
  ·rw[depD,depDs];omega
  ·rw[depDs,depDs];omega
 ·split
  ·rw[depDs];omega
  ·rw[depDs,depDs];omega
theorem xV (n z:Str):∀ds:List D,depDs (opn n z ds)<=depDs ds
 | []=>Nat.le_refl _
 | d::ds=>by rw[lD,wF,depDs];have:=IU n z d;have:=xV n z ds;omega
theorem PL (n z:Str)(l:List D):sz (one n z l)<=max 1 (szs l):=by
 unfold one;split
 ·show sz (.str z)<=_;unfold sz;omega
 ·rw[szs,szs];omega
 ·rw[sz];omega
theorem EE (sm:bM)(n:Str)(ps:List D):sz (knot sm n ps)<=max 1 (szs ps):=by
 unfold knot;split
 ·rw[sz];omega
 ·rename_i z _;have j:=PL n z (cM (opn n z ps));rw[HV (bR _)]at j;have q:=sE n z ps;omega
theorem L9 (n z:Str)(l:List D):depD (one n z l)<=depDs l+1:=by
 unfold one;split
 ·show(0:Nat)<=_;omega
 ·rw[depDs,depDs];omega
 ·rw[depD,depDs,show depD (.str n)=0 from rfl];omega
theorem AN (sm:bM)(n:Str)(ps:List D):depD (knot sm n ps)<=depDs ps+1:=by
 unfold knot;split
 ·rw[depD,depDs,show depD (.str n)=0 from rfl];omega
 ·rename_i z _;have j:=L9 n z (cM (opn n z ps));rw[DB (bR _)]at j;have q:=xV n z ps;omega
mutual
theorem J3 (sm:bM):∀d:D,sz (flt sm d)<=sz d
 | .tup (.str n::ds)=>by rw[flt,sz];have:=EE sm n (flts sm ds);have:=oC sm ds;omega
 | .lst (.str n::ds)=>by rw[flt,sz];have:=EE sm n (flts sm ds);have:=oC sm ds;omega
 | .non | .bl _ | .int _ | .str _ | .tup [] | .lst [] | .tup (.non::_) | .tup (.bl _::_) | .tup (.int _::_) | .tup (.tup _::_) | .tup (.lst _::_) | .lst (.non::_) | .lst (.bl _::_) | .lst (.int _::_) | .lst (.tup _::_) | .lst (.lst _::_)=>by unfold flt;exact Nat.le_refl _
theorem oC (sm:bM):∀ds:List D,szs (flts sm ds)<=szs ds
 | []=>Nat.le_refl _
 | d::ds=>by rw[flts,szs,szs];have:=J3 sm d;have:=oC sm ds;omega
end
mutual
theorem rF (sm:bM):∀d:D,depD (flt sm d)<=depD d
 | .tup (.str n::ds)=>by rw[flt,depD,depDs,show depD (.str n)=0 from rfl];have:=AN sm n (flts sm ds);have:=lG sm ds;omega
 | .lst (.str n::ds)=>by rw[flt,depD,depDs,show depD (.str n)=0 from rfl];have:=AN sm n (flts sm ds);have:=lG sm ds;omega
 | .non | .bl _ | .int _ | .str _ | .tup [] | .lst [] | .tup (.non::_) | .tup (.bl _::_) | .tup (.int _::_) | .tup (.tup _::_) | .tup (.lst _::_) | .lst (.non::_) | .lst (.bl _::_) | .lst (.int _::_) | .lst (.tup _::_) | .lst (.lst _::_)=>by unfold flt;exact Nat.le_refl _
theorem lG (sm:bM):∀ds:List D,depDs (flts sm ds)<=depDs ds
 | []=>Nat.le_refl _
 | d::ds=>by rw[flts,depDs,depDs];have:=rF sm d;have:=lG sm ds;omega
end
theorem fG:∀{ds:List D},Fls ds->∀d∈ds,Fl d
 | _::_,⟨a,b⟩,d,h=>by
  obtain rfl|h:=List.mem_cons.mp h
  ·exact a
  ·exact fG b d h
theorem jK:∀{ds:List D},(∀d∈ds,Fl d)->Fls ds
 | [],_=>trivial
 | d::ds,h=>⟨h d List.mem_cons_self,jK fun e k=>h e (List.mem_cons_of_mem _ k)⟩
theorem L5 {n z:Str}{d:D}(h:Fl d):Fls (opn1 n z d):=by
 unfold opn1;split
 ·rename_i m j;have k:Fls j:=by unfold Fl at h;exact h
  split
  ·exact k
  ·exact⟨h,trivial⟩
 ·split
  ·exact trivial
  ·exact⟨h,trivial⟩
theorem sF {n z:Str}{ds:List D}(h:Fls ds):Fls (opn n z ds):=jK fun d k=>by obtain⟨e,q,j⟩:=List.mem_flatMap.mp k;exact fG (L5 (fG h e q)) d j
mutual
noncomputable def Nb:D->Prop
 | .tup (_::ds)=>ds≠[]/\Nbs ds
 | _=>True
noncomputable def Nbs:List D->Prop
 | []=>True
 | d::ds=>Nb d/\Nbs ds
end
theorem rD:∀{ds:List D},Nbs ds->∀d∈ds,Nb d
 | _::_,⟨a,b⟩,d,h=>by
  obtain rfl|h:=List.mem_cons.mp h
  ·exact a
  ·exact rD b d h
theorem CL:∀{ds:List D},(∀d∈ds,Nb d)->Nbs ds
 | [],_=>trivial
 | d::ds,h=>⟨h d List.mem_cons_self,CL fun e k=>h e (List.mem_cons_of_mem _ k)⟩
theorem L4 {n z:Str}{d:D}(h:Nb d):Nbs (opn1 n z d):=by
 unfold opn1;split
 ·rename_i m j;have k:Nbs j:=by unfold Nb at h;exact h.2
  split
  ·exact k
  ·exact⟨h,trivial⟩
 ·split
  ·exact trivial
  ·exact⟨h,trivial⟩
theorem O8 {n z:Str}{ds:List D}(h:Nbs ds):Nbs (opn n z ds):=CL fun d k=>by obtain⟨e,q,j⟩:=List.mem_flatMap.mp k;exact rD (L4 (rD h e q)) d j
theorem PM {n z:Str}{l:List D}(h:∀d∈l,Nb d):Nb (one n z l):=by
 unfold one;split
 ·unfold Nb;exact trivial
 ·exact h _ List.mem_cons_self
 ·rename_i l j q;unfold Nb;exact⟨j,CL h⟩
theorem EG {sm:bM}{n:Str}{ps:List D}(h:Nbs ps)(ne:ps≠[]):Nb (knot sm n ps):=by
 unfold knot;split
 ·unfold Nb;exact⟨ne,h⟩
 ·exact PM fun d k=>rD (O8 h) d ((bR _).mem_iff.mp k)
theorem L3 {n:Str}{d:D}(f:Fl d)(b:Nb d):opn1 n ("" : Str) d≠[]:=by
 unfold opn1;split
 ·split
  ·unfold Nb at b;exact b.1
  ·exact fun z=>nomatch z
 ·split
  ·rename_i e;exfalso;cases d with
   | str x =>
    have e:(x == ("" : Str))=true:=e;have e:=eq_of_beq e;subst e;unfold Fl at f;exact absurd f.1 (by decide)
   | tup xs=>cases e
   | _=>unfold Fl at f;exact f
  ·exact fun z=>nomatch z
theorem IS {n:Str}:∀{ps:List D},Fls ps->Nbs ps->ps≠[]->opn n ("" : Str) ps≠[]
 | [],_,_,h=>absurd rfl h
 | d::ps,⟨f,_⟩,⟨b,_⟩,_=>by rw[lD];exact fun z=>L3 f b (List.append_eq_nil_iff.mp z).1
theorem EH {sm:bM}{n:Str}{ps:List D}(hz:∀r∈sm,r.2=("" : Str)∨Fl (.str r.2))(h:Fls ps)(b:Nbs ps)(ne:ps≠[]):Fl (knot sm n ps):=by
 unfold knot;split
 ·unfold Fl;exact h
 ·rename_i z e;have j:z=("" : Str)∨Fl (.str z):=by unfold zr at e;obtain⟨r,q,rfl⟩:=Option.map_eq_some_iff.mp e;exact hz r (List.mem_of_find?_eq_some q)
  have f1:∀d∈cM (opn n z ps),Fl d:=fun d k=>fG (sF h) d ((bR _).mem_iff.mp k);unfold one;split
  ·rename_i B;rcases j with rfl|j
   ·exfalso;have:=(bR (opn n ("" : Str) ps)).length_eq;rw[B]at this;exact IS h b ne (List.length_eq_zero_iff.mp this.symm)
   ·exact j
  ·rename_i e;exact f1 _ (by rw[e];exact List.mem_cons_self)
  ·unfold Fl;exact jK f1
end Lw
namespace L2
open PySem PySem.Spec PyProof.Rows
noncomputable def LK:V->List V->Hp->VK->Prop:=fun x vs H Q=>∃(l:Addr) (xs:List V) (i:Nat) (y:V),x = .ref l/\vs=[.int i,y]/\H l=some (.lst xs)/\i<=xs.length/\xs.length<1000/\Q .non (upd H l (.lst (xs.take i++y::xs.drop i)))
theorem oS:∀{xs:List V} {us:bZ} (i:Nat),aR xs us->aR (xs.take i) (us.take i)/\aR (xs.drop i) (us.drop i)
 | _,_,i,.nil=>by rw[List.take_nil,List.take_nil,List.drop_nil,List.drop_nil];exact⟨.nil,.nil⟩
 | _,_,0,.cons r t=>⟨.nil,.cons r t⟩
 | _,_,i+1,.cons r t=>⟨.cons r (oS i t).1,(oS i t).2⟩
theorem FY {X:Cx}:N8 X "list.insert" LK:=by
 intro G s σ H x vs v us Q I N S h;obtain⟨l,xs,i,y,rfl,rfl,L,hi,hz,q⟩:=h;cases N;obtain⟨u1,B,rfl,r1,U⟩:=vals2 S;obtain⟨t,rfl⟩:=r1;obtain⟨z,its,n,r,Z,e⟩:=I.lstM L;obtain⟨k,hk⟩:∃k:Int,k=(i:Int):=⟨_,rfl⟩
 rw[←hk];have j:¬(!Builtin.List.listFitsIndex k)=true:=by rw[fitsIndex_both (by omega) (by omega)];exact Bool.false_ne_true
 have hsz:its.toArray.size<=sizeLine:=by rw[List.size_toArray,←Z];exact z
 refine call_meets F.slot_list_insert ⟨_,e,rfl⟩ F.entry_list_insert (F.args_list_insert_3 _ _ _) (PySem.AutoSeq1.list_insert_list_int_val_1 l its.toArray n k t B j hsz) ⟨e,?_⟩
 ·obtain⟨a1,a2⟩:=oS i r;refine⟨.non,_,I.lset (its':=its.take i++B::its.drop i) L e ?_ (a1.append (.cons U a2)) ?_,rfl,q⟩
  ·have e1:¬(k<0):=by omega
   have e2:min k.toNat its.toArray.size=i:=by rw[List.size_toArray,hk,Int.toNat_natCast];omega
   dsimp only;rw[if_neg e1,e2];apply Array.ext';simp;exact List.take_of_length_le (by rw[List.length_drop];exact Nat.le_refl _)
  ·rw[List.length_append,List.length_cons,List.length_take,List.length_drop];exact Nat.le_trans (m:=1000) (by omega) (by decide)
noncomputable def RV (K:PySem.W.Frag)(a:Addr)(xs:List V):It :=
 ⟨fun i H=>fA K H a xs/\i<xs.length,fun i H x H'=>H'=H/\xs[xs.length - 1 - i]?=some x,fun i H=>fA K H a xs/\i=xs.length⟩
theorem HN {P:Program}{w:World}{K:PySem.W.Frag}{tg:Expr}(a it:Addr)(xs:List V):m8 P w K tg (RV K a xs) [it] it (fun i h=>h.IsRevIter it a ((xs.length:Int) - 1 - (i:Int))) where
 mem:=by simp
 obj:=fun i h st b q=>by
  obtain rfl:b=it:=by simpa using q
  obtain⟨o,e,c,d⟩:=st;exact⟨o,e,fun v z=>by rw[d]at z;cases z⟩
 keep:=fun i h h' st k=>st.at fun o e=>k it (by simp) o e
 item:=by
  intro X S L U hc i j s σ H E I G st N;subst S L U;obtain⟨hq,hi⟩:=N;obtain⟨its,rv,p,hz⟩:=I.list hq;have hx:xs[xs.length - 1 - i]?=some xs[xs.length - 1 - i]:=List.getElem?_eq_getElem (by omega);obtain⟨u,hu,ru⟩:=rv.get hx;obtain⟨f0,f1,f2,f3,f4,Z⟩:=G it (by simp);have e0:(xs.length:Int) - 1 - (i:Int)=((xs.length - 1 - i:Nat):Int):=by omega
  rw[e0]at st;refine wpAny_pyNext_rev_item st p.isList (x:=u) (by simpa using hu) fun h' B sb=>?_;have I1:aO X j σ H {s with heap:=h'}:=I.turned (t':=s.toks) (fun b o q e=>(sb.2 b q).trans e) f0 f1 f3 f4 Z;obtain⟨o,e,c,d⟩:=id B;refine⟨u,rfl,vZ (s:={s with heap:=h'}) e c d (by decide) ⟨_,H,I1,ru,⟨rfl,hx⟩,?_,fun b q=>(G b q).1⟩⟩;have e1:(xs.length:Int) - 1 - ((i+1:Nat):Int)=((xs.length - 1 - i:Nat):Int) - 1:=by omega
  rw[e1];exact B
 done:=by
  intro X S L U hc i j s σ H E I G st N;subst S L U;obtain⟨hq,hi⟩:=N;obtain⟨f0,f1,f2,f3,f4,Z⟩:=G it (by simp);have e0:(xs.length:Int) - 1 - (i:Int) = -1:=by omega
  rw[e0]at st;exact wpAny_pyNext_rev_end (I.ok.hd hc) st fun h' eb=>⟨rfl,I.turned (t':=s.toks) (fun b o q e=>eb b o q e) f0 f1 f3 f4 Z⟩
 self:=fun _ _ _ _ _ st h=>wpAny_pyIter_revIter st h
noncomputable def iRev (K:PySem.W.Frag)(q:TA):TI:=fun σ H R=>q σ H fun vs j=>∃a xs,vs=[.ref a]/\j a=some (.lst xs)/\R (RV K a xs) j
theorem xR {X:Cx}{U:Expr}(K:PySem.W.Frag)(hK:X.K=K){a:Expr}{S:TA}{p B:Pos}(hg:Gl X "reversed")(hm:X.mg "reversed" = none)(ha:PA X [a] S)(hs:starEach [a] X.env=[(false,eval a X.env)]:=by rfl) :
  PI X U (.Call (.Name "reversed" p) [a] [] B) (iRev K S):=by
 subst hK;intro G s σ H R I h;refine Call_ (mX I hg hm boot_reversed (PyProof.Rows.callWith_type1 (thn (ha B G s σ H _ I h) fun us j ⟨vs,H1,N,r1,q1⟩=>?_) hs rfl));obtain⟨L,xs,e,hx,q⟩:=q1;subst e;obtain⟨u1,rfl,e1⟩:=vals1 r1;cases e1;obtain⟨its,Z,p1,hz1⟩:=N.list (fA.of hx);refine call_reversed_list p1.isList ?_
 have st:(j.heap.push (revObj L ((its.toArray.size:Int) - 1))).IsRevIter j.heap.objs.size L ((xs.length:Int) - 1 - ((0:Nat):Int)):=⟨_,Heap.get?_push_size _ rfl,rfl,by
  have e:=Z.length;rw[List.size_toArray,←e]
  simp[revObj]⟩
 refine wpAny_pyIter_revIter (s:={j with heap:=j.heap.push (revObj L ((its.toArray.size:Int) - 1))}) st ?_;refine⟨j.heap.objs.size,[j.heap.objs.size],_,_,H1,rfl,N.kept (t':=j.toks) fun b o e=>Heap.get?_push_of_some _ e,HN L _ xs,st,fun b hb=>?_,q⟩;obtain rfl:b=j.heap.objs.size:=by simpa using hb
 exact N.fpOk (Nat.le_refl _) (N.hok.fresh (Nat.le_refl _))
section
variable {g:TG}{tb:TS}{D:iN}{σ:St}{H:Hp}{K:PySem.W.Frag}
theorem JZ {a:Addr}(xs:List V)(Pv:Nat->St->Hp->Prop)(S:Pv 0 σ H)(L:∀i σ H,i<=xs.length->Pv i σ H->H a=some (.lst xs))
  (I:∀i x σ H,i<xs.length->xs[xs.length - 1 - i]?=some x->Pv i σ H->g x σ H fun G U=>tb {D with nx:=Pv (i+1),ct:=Pv (i+1),bk:=D.nx} G U) (hd:∀σ H,Pv xs.length σ H->D.nx σ H):q8 (RV K a xs) g tb D σ H:=by
 refine⟨fun i m σ H=>m=xs.length - i/\i<=xs.length/\Pv i σ H,⟨xs.length,by simp,Nat.zero_le _,S⟩,?_⟩;rintro i m σ H ⟨rfl,N,p⟩;have B:=fA.of (K:=K) (L i σ H N p);by_cases j:i<xs.length
 ·refine .inr ⟨⟨B,j⟩,Pv (i+1),fun Z H' q=>⟨xs.length - (i+1),by omega,rfl,j,q⟩,fun z H' y=>?_⟩;obtain⟨rfl,q⟩:=y;exact I i z σ _ j q p
 ·have e:i=xs.length:=by omega
  subst e;exact .inl ⟨⟨B,rfl⟩,hd σ H p⟩
end
end L2
namespace Lw
open PySem L2
section
variable {P:Program}{w:World}{K:PySem.W.Frag}{mg:fM}{base:Heap}
mutual
/-- a term: leaves that can be told,names with parts -/
noncomputable def Tm:D->Prop
 | .str x=>1<=x.cps.toList.length/\x.cps.toList.length<=20
 | .tup (.str _::ds)=>ds≠[]/\Tms ds
 | .lst (.str _::ds)=>ds≠[]/\Tms ds
 | _=>False
noncomputable def Tms:List D->Prop
 | []=>True
 | d::ds=>Tm d/\Tms ds
end
theorem DT {d:D}(h:Tm d):(∃x,d = .str x/\1<=x.cps.toList.length/\x.cps.toList.length<=20)∨∃n ds,(d = .tup (.str n::ds)∨d = .lst (.str n::ds))/\ds≠[]/\Tms ds:=by
 unfold Tm at h;split at h
 ·exact .inl ⟨_,rfl,h⟩
 ·exact .inr ⟨_,_,.inl rfl,h⟩
 ·exact .inr ⟨_,_,.inr rfl,h⟩
 ·exact absurd h id
theorem rE {sm:bM}{ds:List D}(h:ds≠[]):flts sm ds≠[]:=by rw[cS];exact fun z=>h (List.map_eq_nil_iff.mp z)
mutual
theorem pV {sm:bM}(hz:∀r∈sm,r.2=("" : Str)∨Fl (.str r.2)):∀{d:D},Tm d->Fl (flt sm d)/\Nb (flt sm d)
 | .tup (.str n::ds),h=>by
  unfold Tm at h;obtain⟨a,b⟩:=iJ hz h.2;rw[flt];exact⟨EH hz a b (rE h.1),EG b (rE h.1)⟩
 | .lst (.str n::ds),h=>by
  unfold Tm at h;obtain⟨a,b⟩:=iJ hz h.2;rw[flt];exact⟨EH hz a b (rE h.1),EG b (rE h.1)⟩
 | .str x,h=>by unfold flt;unfold Tm at h;unfold Fl Nb;exact⟨h,trivial⟩
 | .non,h | .bl _,h | .int _,h | .tup [],h | .lst [],h | .tup (.non::_),h | .tup (.bl _::_),h | .tup (.int _::_),h | .tup (.tup _::_),h | .tup (.lst _::_),h | .lst (.non::_),h | .lst (.bl _::_),h | .lst (.int _::_),h | .lst (.tup _::_),h | .lst (.lst _::_),h=>by unfold Tm at h;exact absurd h id
theorem iJ {sm:bM}(hz:∀r∈sm,r.2=("" : Str)∨Fl (.str r.2)):∀{ds:List D},Tms ds->Fls (flts sm ds)/\Nbs (flts sm ds)
 | [],_=>by rw[flts];exact⟨trivial,trivial⟩
 | d::ds,⟨a,b⟩=>by rw[flts];exact⟨⟨(pV hz a).1,(iJ hz b).1⟩,⟨(pV hz a).2,(iJ hz b).2⟩⟩
end
theorem EO {sm:bM}(hz:∀r∈sm,r.2=("" : Str)∨Fl (.str r.2)){ds:List D}(h:Tms ds):Fls (flts sm ds):=(iJ hz h).1
theorem uV {j:cL}{sm:bM}(so:bW j sm){x:Str}(h:x∈zeros j):1<=x.cps.toList.length/\x.cps.toList.length<=20:=by unfold zeros at h;obtain⟨r,q,rfl⟩:=List.mem_map.mp h;have:=so.nm r.1 (List.mem_append_left _ (List.mem_map_of_mem ((List.mem_filter.mp q).1)));exact⟨this.1,Nat.le_trans this.2.1 (by decide)⟩
theorem fV {q:cL}{sm:bM}(so:bW q sm):∀r∈sm,r.2=("" : Str)∨Fl (.str r.2):=fun r j=>by
 by_cases e:r.2=("" : Str)
 ·exact .inl e
 ·refine .inr ?_;unfold Fl;exact uV so (so.nought r j e)
mutual
theorem rQ {B:cL}{sm:bM}{os:aW}(so:bW B sm)(ho:∀x∈os,cF x):∀{d:D},bN B sm os d->Tm d/\sz d=lvs d
 | .str x,h=>by
  unfold bN at h;refine⟨?_,by unfold sz lvs;rfl⟩;unfold Tm;rcases h with h|h
  ·obtain⟨l,rfl,j,q,_⟩:=ho x h;exact⟨by simp,by simp;omega⟩
  ·exact uV so h
 | .tup (.str n::ds),h=>by
  unfold bN at h;obtain⟨a,b⟩:=rP so ho h.2;have j:=pU h.1;have q:=lV h.2;refine⟨?_,by rw[sz,lvs,b];omega⟩;unfold Tm;exact⟨fun z=>by rw[z]at j;simp at j,a⟩
 | .lst (.str n::ds),h=>by
  unfold bN at h;obtain⟨a,b⟩:=rP so ho h.2;have j:=pU h.1;have q:=lV h.2;refine⟨?_,by rw[sz,lvs,b];omega⟩;unfold Tm;exact⟨fun z=>by rw[z]at j;simp at j,a⟩
 | .non,h | .bl _,h | .int _,h | .tup [],h | .lst [],h | .tup (.non::_),h | .tup (.bl _::_),h | .tup (.int _::_),h | .tup (.tup _::_),h | .tup (.lst _::_),h | .lst (.non::_),h | .lst (.bl _::_),h | .lst (.int _::_),h | .lst (.tup _::_),h | .lst (.lst _::_),h=>by unfold bN at h;exact absurd h id
theorem rP {j:cL}{sm:bM}{os:aW}(so:bW j sm)(ho:∀x∈os,cF x):∀{ds:List D},IsTms j sm os ds->Tms ds/\szs ds=lvss ds
 | [],_=>⟨trivial,rfl⟩
 | d::ds,⟨a,b⟩=>by obtain⟨I,G⟩:=rQ so ho a;obtain⟨B,q⟩:=rP so ho b;exact⟨⟨I,B⟩,by rw[szs,lvss,G,q]⟩
end
theorem Tms.get:∀{ds:List D} {i:Nat} {d:D},Tms ds->ds[i]?=some d->Tm d
 | [],_,_,_,z=>by simp at z
 | _::_,0,_,⟨a,_⟩,h=>by simp at h;subst h;exact a
 | _::_,i+1,_,⟨_,b⟩,h=>Tms.get b (by simpa using h)
theorem DU:∀{ds:List D} {i:Nat} {d:D},ds[i]?=some d->sz d<=szs ds
 | [],_,_,h=>by simp at h
 | e::ds,0,_,h=>by simp at h;subst h;rw[szs];omega
 | e::ds,i+1,_,h=>by have:=DU (ds:=ds) (i:=i) (by simpa using h);rw[szs];omega
theorem GQ (sm:bM)(ds:List D)(d:D):flts sm (ds++[d])=flts sm ds++[flt sm d]:=by rw[cS,cS,List.map_append];rfl
theorem yT (x:V)(xs:List V):cutV (x::xs) (some 1) none=xs:=by unfold cutV HT.sIx;simp
theorem d9.prs {H:Hp}:∀{sm:bM} {sv:List V},d9 H sm sv->sv.map (prV H)=(sm.map fun r=>((.inr r.1,V.str r.2):bG×V)).map (fun j=>some (kV j.1,j.2))
 | [],_,e=>by cases e;rfl
 | r::l,_,⟨t,us,e,h,q⟩=>by subst e;rw[List.map_cons,d9.prs q];unfold prV;simp only[h];rfl
theorem mU:∀(more j:List (bG×V)),((j++more).map (·.1)).Nodup->jI j more=j++more
 | [],j,_=>by simp[jI]
 | p::r,j,h=>by
  have e:putK j p.1 p.2=j++[p]:=by unfold putK;rw[if_neg];intro z;obtain⟨y,B,q⟩:=List.any_eq_true.mp z;rw[List.map_append,List.map_cons]at h;exact(List.nodup_append.mp h).2.2 y.1 (List.mem_map_of_mem B) p.1 List.mem_cons_self (by simpa using q)
  show jI (putK j p.1 p.2) r=_;rw[e,mU r (j++[p]) (by simpa using h)];simp
theorem AF {sm:bM}(nd:(sm.map (·.1)).Nodup):jI [] (sm.map fun r=>((.inr r.1,V.str r.2):bG×V))=sm.map fun r=>(.inr r.1,V.str r.2):=by
 rw[mU]
 ·rfl
 ·rw[List.nil_append,List.map_map];exact List.pairwise_map.mpr ((List.pairwise_map.mp nd).imp fun h e=>h (Sum.inr.inj e))
theorem rK (n:Str):∀sm:bM,valV (sm.map fun r=>((.inr r.1,V.str r.2):bG×V)) (.inr n)=(zr sm n).map V.str
 | []=>rfl
 | r::l=>by
  by_cases e:r.1=n
  ·rw[List.map_cons,jZ (by rw[e])];simp[zr,e]
  ·rw[List.map_cons,j4 (fun z=>e (by cases z;rfl)),rK n l];simp[zr,e]
noncomputable def CI (t:Addr)(sm:bM)(ds:List D)(H:Hp)(i:Nat)(j:List V)(σ:St)(q:Hp):Prop:=∃B:Option V,σ=[B,some (.ref t)]/\aH H q/\Reps q (flts sm (ds.take i)) j
theorem OG {c:TT}{B:TS}{D:iN}{σ:St}{H:Hp}(Pv:St->Hp->Prop)(μ:St->Hp->Nat)(I:Pv σ H)
  (G:∀σ H,Pv σ H->∀R:Bool->Hp->Prop,(∀H',B {D with nx:=fun q j=>Pv q j/\μ q j<μ σ H,ct:=fun q j=>Pv q j/\μ q j<μ σ H,bk:=D.nx} σ H'->R true H')->(∀H',D.nx σ H'->R false H')->c σ H R):wX c B D σ H:=by
 refine⟨fun m σ H=>m=μ σ H/\Pv σ H,⟨_,rfl,I⟩,?_⟩;rintro m σ H ⟨rfl,p⟩;refine G σ H p _ (fun H' h=>?_) (fun H' h=>?_)
 ·rw[if_pos rfl];exact⟨_,fun q j ⟨a,b⟩=>⟨_,b,rfl,a⟩,h⟩
 ·rw[if_neg (by decide)];exact h
mutual
theorem bD.tups {H H':Hp}(s:bC H H'):∀{d:D} {v:V},Fl d->bD H d v->bD H' d v
 | .str x,v,_,h=>h
 | .tup (.str n::ds),v,f,⟨a,vs,e,B,x,r,G,j,q⟩=>⟨a,vs,e,s _ _ B,x,r,G,j,Reps.tups s (by unfold Fl at f;exact f) q⟩
 | .non,_,f,_ | .bl _,_,f,_ | .int _,_,f,_ | .lst _,_,f,_ | .tup [],_,f,_ | .tup (.non::_),_,f,_ | .tup (.bl _::_),_,f,_ | .tup (.int _::_),_,f,_ | .tup (.tup _::_),_,f,_ | .tup (.lst _::_),_,f,_=>by unfold Fl at f;exact absurd f id
theorem Reps.tups {H H':Hp}(s:bC H H'):∀{ds:List D} {vs:List V},Fls ds->Reps H ds vs->Reps H' ds vs
 | [],_,_,h=>h
 | _::_,_,⟨a,b⟩,⟨x,r,e,q,j⟩=>⟨x,r,e,bD.tups s a q,Reps.tups s b j⟩
end
theorem yL {d:D}:∀{l:List D} {k:Nat},k<=l.length->(∀j e,j<k->l[j]?=some e->ah d e=false)->(∀e,l[k]?=some e->ah d e=true)->insA d l=l.take k++d::l.drop k
 | [],k,h,_,_=>by
  have:k=0:=by simpa using h
  subst this;rfl
 | e::l,0,_,_,h=>by
  have:=h e rfl;rw[insA,if_pos this];rfl
 | e::l,k+1,h,B,G=>by have:=B 0 e (by omega) rfl;rw[insA,if_neg (by rw[this];decide),yL (l:=l) (k:=k) (by simpa using h) (fun j f I q=>B (j+1) f (by omega) (by simpa using q)) (fun f q=>G f (by simpa using q))];rfl
theorem zH (i:Nat)(l:List D):szs (l.take i)<=szs l:=by have:=wY (l.take i) (l.drop i);rw[List.take_append_drop]at this;omega
theorem Reps.cut {H:Hp}{d:D}{v:V}(h:bD H d v):∀{ds:List D} {vs:List V} (k:Nat),Reps H ds vs->Reps H (ds.take k++d::ds.drop k) (vs.take k++v::vs.drop k)
 | [],_,k,e=>by cases e;simp;exact⟨v,[],rfl,h,rfl⟩
 | _::_,_,0,r=>⟨v,_,rfl,h,r⟩
 | _::_,_,k+1,⟨x,r,e,q,j⟩=>by subst e;exact⟨x,_,rfl,q,Reps.cut h k j⟩
theorem zW {n z:Str}:∀{l:List D},1<l.length->one n z l = .tup (.str n::l)
 | [],h=>by simp at h
 | [_],h=>by simp at h
 | _::_::_,_=>rfl
noncomputable def GI (t B l L q ol:Addr)(os:List D)(us:List V)(S N:Hp)(i:Nat)(σ:St)(j:Hp):Prop:=∃(I G:Option V) (fs:List V),σ=[some (.ref t),some (.ref B),some (.ref l),some (.ref L),some (.ref q),I,G]/\aH S j/\j ol=some (.lst us)/\bC N j/\j q=some (.lst fs)/\Reps j (cM (os.take i)) fs
noncomputable def WI (t B l I G:Addr)(x:V)(e:D)(q:List D)(N:Hp)(σ:St)(L:Hp):Prop:=∃k:Nat,σ=[some (.ref t),some (.ref B),some (.ref l),some (.ref I),some (.ref G),some x,some (.int k)]/\aH N L/\k<=q.length/\∀j g,j<k->q[j]?=some g->ah e g=false
noncomputable def wMu (n:Nat)(σ:St)(_:Hp):Nat:=match σ[6]? with|some (some (V.int x))=>((n:Int) - x).toNat|_=>0
noncomputable def oZ (n:Nat):Sp:=fun vs H Q _=>∃(t a b:Addr) (sm:bM) (sv:List V) (d:D) (v:V),vs=[.ref t,v]/\H t=some (.tup [.ref a,.ref b])/\H b=some (.lst sv)/\d9 H sm sv/\(sm.map (·.1)).Nodup/\(∀r∈sm,r.2=("" : Str)∨Fl (.str r.2))/\sm.length<=3/\bD H d v/\Tm d/\depD d<=n/\depD d<=50/\sz d<=64 /\
 ∀(j:V) (H':Hp),aH H H'->bD H' (flt sm d) j->Q j H'
theorem MN {f:Addr}{fd:FuncData}(n:Nat)(F:gU K "_law_flat" "_law_flat" dG f fd)(T:Txt mg)(O__law_ahead:cK P w K mg base a0 (n+2) "_law_ahead" (i9 n))(O__law_opened:cK P w K mg base a0 1 "_law_opened" kW)
  (O__law_flat:cK P w K mg base a0 (n+2) "_law_flat" (fun vs H Q E=>∃m,m<n/\oZ m vs H Q E)):cA P w K mg base a0 (n+3) f fd gE (oZ n):=by
 refine F.ok eC (fun vs H Q E h=>?_) (fun cdv A outer s H vs Q E hr h=>?_)
 ·obtain⟨t,a,b,sm,sv,d,v,rfl,_⟩:=h;rfl
 ·obtain⟨t,a,b,sm,sv,d,v,rfl,ht,hb,rs,nd,fz,s3,rep,tm,dn,d50,s64,q⟩:=h;have hu:=hr.units
  refine⟨_,(aF (bK (aX K rfl (aK aL rfl T.n_isinstance rfl (aA (pv 1) (aA (bU (v:=V.ty "str") rfl T.n_str rfl rfl) aC))) (fun _=>rfl)) (aG (aQ (pv 1))) aU)
   (aF (iH (i:=2) eC.nd rfl rfl rfl rfl (bJ.by (N:=lT) (names:=(aD dG).names) (N':=["_law_part","_law_told"]) (src:=[none,some 0]) (by decide +kernel) rfl rfl) (dM K rfl (gN kX (pv 1) (fC aJ) gK)) (fun _ _ _ _=>(bQ (i:=0) (show List.Nodup (["_law_part","_law_told"]:aW)by decide +kernel) rfl (Or.inl rfl))) (fun _ _ _ _=>fB) (fun _ _ _ _=>(aM O__law_flat (hr.mono (by omega)) pass0 rfl (aA (pv 1) (aA (pv 0) aC)))))
   (aF (aY (i:=3) eC.nd rfl (Or.inl rfl) (cC (mZ rfl) rfl T.n_dict rfl (aA (bP dN (pv 0) aJ (fun _ _=>rfl)) aC)))
   (aF (bK (aV (CD hu) (bP dN (pv 1) aJ (fun _ _=>rfl)) (pv 3) (by with_unfolding_all rfl)) (aG (aQ (bO bV (fI (aA (bP dN (pv 1) aJ (fun _ _=>rfl)) aC)) (cC gB rfl T.n_tuple rfl (aA (pv 2) aC))))) aU)
   (aF (aY (i:=4) eC.nd rfl (Or.inl rfl) (cI aC))
   (aF (eI PassesOwn.never rfl (dM K rfl (aM O__law_opened (hr.mono (by omega)) pass0 rfl (aA (bP dN (pv 1) aJ (fun _ _=>rfl)) (aA (n5 (Nat.lt_of_le_of_lt (Nat.add_le_add_left (by decide) _) hu) (pv 3) (bP dN (pv 1) aJ (fun _ _=>rfl)) (fun _ _=>rfl)) (aA (pv 2) aC))))) (bQ (i:=5) eC.nd rfl (Or.inl rfl)) (aF (aY (i:=6) eC.nd rfl (Or.inl rfl) aJ)
   (aF (nV PassesOwn.never (PW.pt (rZ (aV (jH hu) (pv 6) (aK bH rfl T.n_len rfl (aA (pv 4) aC)) (nomark _)) (nU (dC (aX K rfl (aM O__law_ahead (hr.mono (by omega)) pass0 rfl (aA (pv 5) (aA (bP dN (pv 4) (pv 6) (fun _ _=>rfl)) aC))) (fun _=>rfl)))))) (aG (aY (i:=6) eC.nd rfl (Or.inl rfl) (bO bV (pv 6) aJ))))
   (aG (cJ (jC PySem.F.plainAttrs_list PySem.F.slot_list_insert PySem.F.type_list_insert FY (pv 4) (aA (pv 6) (aA (pv 5) aC))))))))
   (aF (bK (aV zV (aK bH rfl T.n_len rfl (aA (pv 4) aC)) aJ (nomark _)) (aG (aQ (bO bV (fI (aA (bP dN (pv 1) aJ (fun _ _=>rfl)) aC)) (cC gB rfl T.n_tuple rfl (aA (pv 4) aC))))) aU)
   (aG (aQ (bP dN (bO bV (pv 4) (cI (aA (n5 (Nat.lt_of_le_of_lt (Nat.add_le_add_left (by decide) _) hu) (pv 3) (bP dN (pv 1) aJ (fun _ _=>rfl)) (fun _ _=>rfl)) aC))) aJ (fun _ _=>rfl))))))))))),?_⟩
  simp only[lT];clear hr F T hu O__law_ahead O__law_opened O__law_flat;have keep:=aI q (aI ht (aI hb (aI rs (aI nd (aI fz (aI s3 (aI rep (aI tm (aI dn (aI d50 s64))))))))));clear q ht hb rs nd fz s3 rep tm dn d50 s64
  walk_at "rd"
  obtain⟨q,ht,hb,rs,nd,fz,s3,rep,tm,dn,d50,s64⟩:=keep;rcases DT tm with⟨x,rfl,hx⟩|⟨nm,ds,hd,dne,tms⟩
  ·cases (show v = .str x from rep);refine⟨true,rfl,?_⟩;rw[if_pos rfl];exact q _ _ (fun _ _ h=>h) (by unfold flt;rfl)
  ·obtain⟨va,vs',rfl,hbb,hseq,res⟩:∃va vs',v = .ref va/\isV H (.ref va) (.ty "str")=some false/\fL H va (.str nm::vs')/\Reps H ds vs':=by
    rcases hd with rfl|rfl
    ·obtain⟨a,vs,rfl,ha,_,vs',rfl,e1,r⟩:=rep;cases e1;exact⟨a,vs',rfl,mY ha,.inr ha,r⟩
    ·obtain⟨a,vs,rfl,ha,_,vs',rfl,e1,r⟩:=rep;cases e1;exact⟨a,vs',rfl,sY ha,.inl ha,r⟩
   have G:∀H',aH H H'->ixV H' (.ref va) (.int 0)=some (.str nm):=fun H' s'=>by
    rcases hseq.same s' with e|e
    ·rw[ixV_l e,atI_zero]
    ·rw[ixV_t e,atI_zero]
   have hfl:flt sm d=knot sm nm (flts sm ds):=by rcases hd with rfl|rfl <;> rw[flt]
   have hsz:sz d=max 1 (szs ds):=by rcases hd with rfl|rfl <;> rw[sz]
   have hdp:depD d=depDs ds+1:=by
    rcases hd with rfl|rfl
    ·rw[depD,depDs,show depD (.str nm)=0 from rfl];omega
    ·rw[depD,depDs,show depD (.str nm)=0 from rfl];omega
   refine⟨false,hbb,?_⟩;rw[if_neg (by decide)];refine⟨va,rfl,_,hseq,fun _ h=>?_,fun p o hp ho=>?_⟩
   ·have:=h.1;simp[HT.sIx]at this
   ·rw[yT]at ho;have s0:aH H (upd H p o):=aH.upd hp;refine⟨vs',by rcases ho with⟨rfl,_⟩|⟨rfl,_⟩;exact .inl upd_same;exact .inr upd_same,fun J hJ=>?_⟩;refine dP hJ (CI t sm ds (upd H p o)) ⟨none,rfl,fun _ _ h=>h,rfl⟩ ?_ ?_ ?_
    ·rintro i B σ H' _ ⟨_,_,s1,_⟩;rw[upd_same,s1 _ _ upd_same]
    ·rintro i x B σ H1 hx ⟨o0,rfl,s1,Z⟩;obtain⟨e,he,re⟩:=Reps.get res hx;have s2:=s0.trans s1;have h1:=iV he;have h2:=DU he;have h3:=Reps.len Z;refine⟨_,rfl,_,rfl,depD e,by omega,t,a,b,sm,sv,e,x,rfl,s2 _ _ ht,s2 _ _ hb,rs.same (bC.of s2),nd,fz,s3,bD.same s2 re,tms.get he,Nat.le_refl _,by omega,by omega,fun v' H2 s' r'=>⟨?_,_,rfl,s1.trans s',?_⟩⟩
     ·refine Nat.lt_of_le_of_lt (m:=64) ?_ (by decide);rw[cS,List.length_map,List.length_take]at h3;have:=kB ds;omega
     ·rw[aZ he,GQ];exact Reps.snoc r' (Reps.same s' Z)
    ·rintro B σ H1 ⟨o0,rfl,s1,Z⟩ l hl;have Z:Reps H1 (flts sm ds) B:=by have e:=Reps.len res;rw[e,List.take_length]at Z;exact Z
     have sl:aH H (upd H1 l (.lst B)):=(s0.trans s1).trans (aH.upd hl);refine⟨.ref b,by rw[ixV_t (sl _ _ ht)];rfl,b,sv,_,rfl,sl _ _ hb,(rs.same (bC.of sl)).prs,fun dd hdd=>?_⟩;rw[AF nd];have s2:aH (upd H1 l (.lst B)) (upd (upd H1 l (.lst B)) dd (.dK (sm.map fun r=>(.inr r.1,V.str r.2)))):=aH.upd hdd;have S:=sl.trans s2;have l2:upd (upd H1 l (.lst B)) dd (.dK (sm.map fun r=>(.inr r.1,V.str r.2))) l=some (.lst B):=s2 _ _ upd_same;have d2:upd (upd H1 l (.lst B)) dd (.dK (sm.map fun r=>(.inr r.1,V.str r.2))) dd=some (.dK (sm.map fun r=>(.inr r.1,V.str r.2))):=upd_same;have r2:Reps (upd (upd H1 l (.lst B)) dd (.dK (sm.map fun r=>(.inr r.1,V.str r.2)))) (flts sm ds) B:=Reps.same ((aH.upd hl).trans s2) Z;generalize upd (upd H1 l (.lst B)) dd (.dK (sm.map fun r=>(.inr r.1,V.str r.2)))=H2 at s2 S l2 d2 r2⊢;have g2:jY H2 dd (.str nm) ((zr sm nm).map V.str):=by have:=jY.k (k:=.inr nm) d2;rw[rK]at this;exact this
     refine⟨.str nm,G _ S,dd,_,rfl,g2,_,rfl,?_⟩;cases hz:zr sm nm with
     | none =>
      rw[if_pos (by rfl)];refine⟨.str nm,G _ S,by decide,fun p1 hp1=>⟨l,rfl,B,.inl (by rw[aB (aE l2 hp1)];exact l2),fun l3 H3 hc=>?_⟩⟩;rcases hc with⟨hc,_⟩|⟨_,hc,rfl⟩
      ·rw[aB (aE l2 hp1),l2]at hc;cases hc
      ·have s4:aH H2 (upd (upd H2 p1 (.tup [.str nm])) l3 (.tup B)):=(aH.upd hp1).trans (aH.upd hc);refine⟨.tup (.str nm::B),?_,fun p4 hp4=>?_⟩
       ·have e1:upd (upd H2 p1 (.tup [.str nm])) l3 (.tup B) p1=some (.tup [.str nm]):=by rw[aB (aE upd_same hc)];exact upd_same
        have e2:upd (upd H2 p1 (.tup [.str nm])) l3 (.tup B) l3=some (.tup B):=upd_same;have la:=Reps.len r2;rw[cS,List.length_map]at la;have:=kB ds;unfold catO;simp only[e1,e2];refine if_pos ⟨Nat.le_trans (m:=100) (by simp;omega) (by decide),by simp,fun z=>dne (List.length_eq_zero_iff.mp (by rw[←la,z];rfl))⟩
       ·refine q _ _ (S.trans (s4.trans (aH.upd hp4))) ?_;rw[hfl];unfold knot;rw[hz];exact⟨p4,_,rfl,upd_same,.str nm,B,rfl,rfl,Reps.same (s4.trans (aH.upd hp4)) r2⟩
     | some z =>
      rw[if_neg (by simp)];refine⟨Nat.zero_le _,fun fo hfo=>⟨.str nm,G _ (S.trans (aH.upd hfo)),?_⟩⟩;have sfo:aH H2 (upd H2 fo (.lst [])):=aH.upd hfo;have g3:jY (upd H2 fo (.lst [])) dd (.str nm) (some (.str z)):=by have:=jY.k (k:=.inr nm) (sfo _ _ d2);rw[rK,hz]at this;exact this
      refine⟨_,rfl,_,rfl,.str nm,G _ (S.trans sfo),dd,.str z,rfl,g3,?_⟩;have fls:=EO fz tms;have hsf:=oC sm ds;have hdf:=lG sm ds;refine⟨nm,z,l,flts sm ds,B,rfl,sfo _ _ l2,Reps.same sfo r2,fls,fun i=>?_,by omega,fun ol us H4 s5 ol0 ol4 rus=>?_⟩
      ·have h1:=kB (opn nm z ((flts sm ds).take i));have h2:=sE nm z ((flts sm ds).take i);have h3:=zH i (flts sm ds);omega
      ·refine⟨ol,rfl,us,.inl ol4,fun J hJ=>?_⟩;have fop:Fls (opn nm z (flts sm ds)):=sF fls;have hlo:(opn nm z (flts sm ds)).length<=64:=by have h1:=kB (opn nm z (flts sm ds));have h2:=sE nm z (flts sm ds);omega
       have hdo:=xV nm z (flts sm ds);have nfo:ol≠fo:=fun e=>by rw[e,upd_same]at ol0;cases ol0
       have fo4:H4 fo=some (.lst []):=s5 _ _ upd_same;have s6:aH H2 H4:=sfo.trans s5;have U:Reps H4 (opn nm z (flts sm ds)) us:=Reps.same s5 rus;generalize hos:opn nm z (flts sm ds)=os at fop hlo hdo rus U;have lus:=Reps.len rus;have keep:=aI q (aI ht (aI hb (aI rs (aI nd (aI fz (aI tm (aI dn (aI d50 (aI s64 (aI hd (aI dne (aI tms (aI hseq (aI G (aI hfl (aI hsz (aI hdp (aI S (aI l2 (aI d2 (aI hz (aI s5 (aI ol0 (aI ol4 (aI fop (aI hlo (aI hdo (aI nfo (aI fo4 (aI s6 (aI U (aI lus hos))))))))))))))))))))))))))))))));refine jF hJ (GI t va l dd fo ol os us H2 H4) ⟨none,none,[],rfl,s6,ol4,bC.refl _,fo4,rfl⟩ (by rintro i σ H' _ ⟨_,_,_,_,_,h,_⟩;rw[h,ol4]) ?_ ?_
       ·rintro i x σ H5 hx ⟨o5,o6,fs,rfl,g1,L,I,g4,g5⟩;clear q ht hb rs nd fz tm dn d50 s64 hd dne tms hseq G hfl hsz hdp S l2 d2 hz s5 ol0 ol4 fop hlo hdo nfo fo4 s6 U lus hos;have keep2:=aI hx (aI g1 (aI L (aI I (aI g4 g5))));clear hx g1 L I g4 g5
        walk_at "rd"
        obtain⟨q,ht,hb,rs,nd,fz,tm,dn,d50,s64,hd,dne,tms,hseq,G,hfl,hsz,hdp,S,l2,d2,hz,s5,ol0,ol4,fop,hlo,hdo,nfo,fo4,s6,U,lus,hos⟩:=keep;obtain⟨hx,g1,L,I,g4,g5⟩:=keep2;obtain⟨e,he,re⟩:=Reps.get U hx;have fe:=fop.get he;have re5:=bD.tups I fe re;have dpe:=iV he;have fgs:∀g∈cM (os.take i),Fl g:=fun g hg=>fG fop g (List.mem_of_mem_take ((bR _).mem_iff.mp hg));have lf:=Reps.len g5;have li:(cM (os.take i)).length<=64:=by rw[(bR _).length_eq,List.length_take];omega
        refine OG (WI t va l dd fo x e (cM (os.take i)) H5) (wMu fs.length) ⟨0,rfl,fun _ _ h=>h,Nat.zero_le _,fun j g hj=>absurd hj (Nat.not_lt_zero _)⟩ ?_;rintro σ H6 ⟨k,rfl,w1,w2,w3⟩ R hT hF;have h6:=w1 _ _ g4;by_cases hk:k<fs.length
        ·obtain⟨y,hy⟩:∃y,fs[k]?=some y:=⟨_,List.getElem?_eq_getElem hk⟩
         obtain⟨g,hg,rg⟩:=Reps.get g5 hy;have rg6:=bD.same w1 rg;have re6:=bD.same w1 re5;have ix6:ixV H6 (.ref fo) (.int k)=some y:=by rw[ixV_l h6,EW];exact hy
         have keep3:=aI q (aI G (aI hx (aI hT (aI hF (aI g1 (aI L (aI I (aI g4 (aI g5 (aI re6 (aI rg6 (aI w3 (aI hos (aI fgs (aI w1 hfl)))))))))))))));clear q G hx hT hF g1 L I g4 g5 re6 rg6 w3 hos fgs re re5 rg rus U w1 fop hfl hz ht hb rs nd fz tm hd tms hseq d2 s5 ol0 ol4 fo4 s6 hJ res rep Z r2 g2 g3 S sfo sl s2 s0 s1
         walk_at "rd"
         obtain⟨q,G,hx,hT,hF,g1,L,I,g4,g5,re6,rg6,w3,hos,fgs,w1,hfl⟩:=keep3;rw[if_pos (by omega)];refine⟨e,g,x,y,rfl,re6,rg6,fe,fgs g (List.mem_of_getElem? hg),by omega,by omega,fun H7 s7=>⟨ah e g,rfl,?_⟩⟩;cases hab:ah e g with
         | false =>
          refine hT H7 ?_;refine⟨_,rfl,.inl ⟨_,rfl,⟨k+1,rfl,w1.trans s7,by omega,fun j g' hj hg'=>?_⟩,?_⟩⟩
          ·by_cases ej:j<k
           ·exact w3 j g' ej hg'
           ·have:j=k:=by omega
            subst this;rw[hg]at hg';cases hg';exact hab
          ·show((fs.length:Int) - ((k:Int)+1)).toNat<((fs.length:Int) - (k:Int)).toNat;omega
         | true =>
          refine hF H7 ?_;have h7:=s7 _ _ h6;have ein:=yL (d:=e) (l:=cM (os.take i)) w2 w3 (fun g' hg'=>by rw[hg]at hg';cases hg';exact hab);refine⟨_,rfl,tyL h7,_,rfl,_,rfl,fo,fs,k,x,rfl,rfl,h7,by omega,by omega,?_⟩;have w9:=w1.trans s7;have s9:aH H2 (upd H7 fo (.lst (fs.take k++x::fs.drop k))):=fun c u hc=>by rw[aB (fun w=>by rw[w,hfo]at hc;cases hc)];exact w9 _ _ (g1 _ _ hc)
          have t9:bC H7 (upd H7 fo (.lst (fs.take k++x::fs.drop k))):=bC.lst h7;refine⟨_,_,fs.take k++x::fs.drop k,rfl,s9,by rw[aB nfo];exact w9 _ _ L,(I.trans (bC.of w9)).trans t9,upd_same,?_⟩;rw[aZ he,qJ,ein];exact Reps.cut (bD.tups t9 fe (bD.same s7 re6)) k (Reps.tups t9 (jK fgs) (Reps.same w9 g5))
        ·have keep3:=aI q (aI G (aI hx (aI hT (aI hF (aI g1 (aI L (aI I (aI g4 (aI g5 (aI w3 (aI hos (aI fgs (aI w1 (aI re5 hfl))))))))))))));clear q G hx hT hF g1 L I g4 g5 w3 hos fgs re re5 rus U w1 fop hfl hz ht hb rs nd fz tm hd tms hseq d2 s5 ol0 ol4 fo4 s6 hJ res rep Z r2 g2 g3 S sfo sl s2 s0 s1
         walk_at "rd"
         obtain⟨q,G,hx,hT,hF,g1,L,I,g4,g5,w3,hos,fgs,w1,re5,hfl⟩:=keep3;rw[if_neg (by omega)];refine hF H6 ?_
         have ein:=yL (d:=e) (l:=cM (os.take i)) w2 w3 (fun g' hg'=>by
          have:=(List.getElem?_eq_some_iff.mp hg').1
          omega)
         have re6:=bD.same w1 re5;refine⟨_,rfl,tyL h6,_,rfl,_,rfl,fo,fs,k,x,rfl,rfl,h6,by omega,by omega,?_⟩;have s9:aH H2 (upd H6 fo (.lst (fs.take k++x::fs.drop k))):=fun c u hc=>by rw[aB (fun w=>by rw[w,hfo]at hc;cases hc)];exact w1 _ _ (g1 _ _ hc)
         have t9:bC H6 (upd H6 fo (.lst (fs.take k++x::fs.drop k))):=bC.lst h6;refine⟨_,_,fs.take k++x::fs.drop k,rfl,s9,by rw[aB nfo];exact w1 _ _ L,(I.trans (bC.of w1)).trans t9,upd_same,?_⟩;rw[aZ he,qJ,ein];exact Reps.cut (bD.tups t9 fe re6) k (Reps.tups t9 (jK fgs) (Reps.same w1 g5))
       ·rintro σ H5 ⟨o5,o6,fs,rfl,g1,L,I,g4,g5⟩;rw[lus,List.take_length]at g5;have keep2:=aI g1 (aI L (aI I (aI g4 g5)));clear q ht hb rs nd fz tm dn d50 s64 hd dne tms hseq G hfl hsz hdp S l2 d2 hz s5 ol0 ol4 fop hlo hdo nfo fo4 s6 U lus hos g1 L I g4 g5
        walk_at "rd"
        obtain⟨q,ht,hb,rs,nd,fz,tm,dn,d50,s64,hd,dne,tms,hseq,G,hfl,hsz,hdp,S,l2,d2,hz,s5,ol0,ol4,fop,hlo,hdo,nfo,fo4,s6,U,lus,hos⟩:=keep;obtain⟨g1,L,I,g4,g5⟩:=keep2;have lf:=Reps.len g5;have ll:(cM os).length=os.length:=(bR os).length_eq;have hk:flt sm d=one nm z (cM os):=by rw[hfl];unfold knot;rw[hz,←hos]
        have s7:=S.trans g1;by_cases h:1<fs.length
        ·rw[if_pos (by omega)];refine⟨.str nm,G _ s7,by decide,fun p1 hp1=>⟨fs,.inl (by rw[aB (aE g4 hp1)];exact g4),fun l3 H3 hc=>?_⟩⟩;rcases hc with⟨hc,_⟩|⟨_,hc,rfl⟩
         ·rw[aB (aE g4 hp1),g4]at hc;cases hc
         ·have s4:aH H5 (upd (upd H5 p1 (.tup [.str nm])) l3 (.tup fs)):=(aH.upd hp1).trans (aH.upd hc);refine⟨.tup (.str nm::fs),?_,fun p4 hp4=>?_⟩
          ·have e1:upd (upd H5 p1 (.tup [.str nm])) l3 (.tup fs) p1=some (.tup [.str nm]):=by rw[aB (aE upd_same hc)];exact upd_same
           have e2:upd (upd H5 p1 (.tup [.str nm])) l3 (.tup fs) l3=some (.tup fs):=upd_same;unfold catO;simp only[e1,e2];refine if_pos ⟨Nat.le_trans (m:=100) (by simp;omega) (by decide),by simp,fun z=>by rw[z]at h;simp at h⟩
          ·refine q _ _ (s7.trans (s4.trans (aH.upd hp4))) ?_;rw[hk,zW (by omega)];exact⟨p4,_,rfl,upd_same,.str nm,fs,rfl,rfl,Reps.same (s4.trans (aH.upd hp4)) g5⟩
        ·rw[if_neg (by omega)];have g6:jY H5 dd (.str nm) (some (.str z)):=by have:=jY.k (k:=.inr nm) (g1 _ _ d2);rw[rK,hz]at this;exact this
         refine⟨_,rfl,_,rfl,.str nm,G _ s7,dd,.str z,rfl,g6,by decide,fun p1 hp1=>⟨.lst (fs++[.str z]),rG (by rw[aB (aE g4 hp1)];exact g4) upd_same (Nat.le_trans (m:=100) (by simp;omega) (by decide)),fun p2 hp2=>?_⟩⟩;have s8:aH H5 (upd (upd H5 p1 (.lst [.str z])) p2 (.lst (fs++[.str z]))):=(aH.upd hp1).trans (aH.upd hp2);cases hl:cM os with
         | nil =>
          rw[hl]at g5 hk;cases g5;exact⟨.str z,by rw[ixV_l upd_same];rfl,q _ _ (s7.trans s8) (by rw[hk];rfl)⟩
         | cons g gs =>
          rw[hl]at g5 hk lf;have en:gs=[]:=by rw[List.length_cons]at lf;exact List.length_eq_zero_iff.mp (by omega)
          subst en;obtain⟨y,r,rfl,ry,_⟩:=g5;exact⟨y,by rw[ixV_l upd_same,List.cons_append,atI_zero],q _ _ (s7.trans s8) (by rw[hk];exact bD.same s8 ry)⟩
theorem M6 {f:Addr}{j:FuncData}(F:gU K "_law_flat" "_law_flat" dG f j)(T:Txt mg)(O__law_ahead:∀n,cK P w K mg base a0 (n+2) "_law_ahead" (i9 n))(O__law_opened:cK P w K mg base a0 1 "_law_opened" kW)
  (N:mg "_law_flat" = some (.ref f)) (S:PySem.W.keepIn K (.ref f)=true) (q:fN K j gE []):∀n,cA P w K mg base a0 (n+3) f j gE (oZ n):=by
 intro n
 induction n using Nat.strongRecOn with
 | ind n G =>
  exact MN n F T (O__law_ahead n) O__law_opened ⟨f,j,_,⟨fun vs H Q E ⟨m,B,h⟩=>(G m B).len vs H Q E h,fun A outer s H args us vs Q E L U q I ⟨m,B,h⟩=>((G m B).mono (by omega)).run A outer s H args us vs Q E L U q I h⟩,N,S,q⟩
theorem IQ {f:Addr}{j:FuncData}(F:gU K "_law_flat" "_law_flat" dG f j)(T:Txt mg)(O__law_ahead:∀n,cK P w K mg base a0 (n+2) "_law_ahead" (i9 n))(O__law_opened:cK P w K mg base a0 1 "_law_opened" kW)
  (q:mg "_law_flat" = some (.ref f)) (B:PySem.W.keepIn K (.ref f)=true) (G:fN K j gE []) (n:Nat):cK P w K mg base a0 (n+3) "_law_flat" (oZ n):=⟨f,j,_,M6 F T O__law_ahead O__law_opened q B G n,q,B,G⟩
end
section
variable {P:Program}{w:World}{K:PySem.W.Frag}{mg:fM}{base:Heap}
theorem Reps.rev {H:Hp}:∀{ds:List D} {vs:List V},Reps H ds vs->Reps H ds.reverse vs.reverse
 | [],_,e=>by cases e;rfl
 | d::ds,_,⟨x,r,e,a,b⟩=>by subst e;rw[List.reverse_cons,List.reverse_cons];exact Reps.snoc a (Reps.rev b)
end
end Lw
namespace L2
open PySem PySem.Spec PyProof.Rows
noncomputable def revT {α:Type}(xs:List α):List α:=(xs.drop 1).reverse
theorem vC {α:Type}(x:α)(xs:List α):revT (x::xs)=xs.reverse:=rfl
theorem KJ (k:Nat):(List.range k).map (fun m=>k - m)=((List.range k).map (fun m=>1+m)).reverse:=by
 apply List.ext_getElem
 ·simp
 ·intro i q j;simp at q j⊢;omega
theorem wQ (its:bZ)(k:Nat)(h:its.length=k+1):(List.range k).filterMap (fun m=>its.toArray[k - m]?)=(its.drop 1).reverse:=by
 have e:(List.range k).filterMap (fun m=>its.toArray[k - m]?)=((List.range k).map (fun m=>k - m)).filterMap (fun j=>its.toArray[j]?):=by rw[List.filterMap_map];rfl
 rw[e,KJ,List.filterMap_reverse];have:=pick_run its.toArray 1 k;rw[this];congr 1;rw[List.take_of_length_le];rw[List.length_drop];simp;omega
theorem FM (its:bZ)(h:its≠[]):slicePick its.toArray none (some 0) (some (-1))=(revT its).toArray:=by
 obtain⟨k,hk⟩:∃k,its.length=k+1:=⟨its.length - 1,by have:=List.length_pos_iff.mpr h;omega⟩
 unfold slicePick;rw[List.size_toArray,hk];have e:sliceBounds none (some 0) (some (-1)) (k+1)=((k:Int),0,-1):=by
  simp only[sliceBounds,Option.getD_some];refine Prod.ext ?_ (Prod.ext ?_ rfl)
  ·simp
  ·simp <;> omega
 rw[e];have q:sliceRange (k:Int) 0 (-1)=(List.range k).map fun m=>k - m:=by
  unfold sliceRange;have c:(if (-1:Int) > 0 then(if (k:Int)<0 then(0 - (k:Int) + -1 - 1) / -1 else 0)else(if (k:Int) > 0 then((k:Int) - 0 - -1 - 1) / (- -1)else 0)).toNat=k:=by
   rw[if_neg (by decide)];split
   ·have:((k:Int) - 0 - -1 - 1) / (- -1)=k:=by rw[show(- -1:Int)=1 from rfl,Int.ediv_one];omega
    rw[this];omega
   ·omega
  dsimp only;rw[c];refine List.map_congr_left fun m j=>?_;have:=List.mem_range.mp j;omega
 dsimp only;rw[q,List.filterMap_map];have:=wQ its k hk;unfold revT;rw[←this];rfl
theorem yY {prog:Program}{w:World}{A:Around}{E:cE}{s:Shared}{L:Addr}{I B G:Value}{n:Nat}{Q:Int×Int×Nat->Shared->Prop}(S:s.heap.IsSliceOf L I B G)(pl:IsPart I none)(N:IsPart B (some 0))(pt:IsPart G (some (-1)))(hn:1<=n)
  (h:Q ((n:Int) - 1,-1,n - 1) s):wpAny (model prog w) A (Builtin.Slice.sliceApplied (.ref L) (pure (n:Int))) Q E s:=by
 obtain⟨os,j,U,q⟩:=id S;unfold Builtin.Slice.sliceApplied Builtin.Slice.sliceFields;refine wpAny_bind (wpAny_bind (wpAny_field j q (x:=I) rfl (wpAny_bind (wpAny_field j q (x:=B) rfl (wpAny_bind (wpAny_field j q (x:=G) rfl (wpAny_pure ?_)))))));refine wpAny_bind (HT.slicePart_ pt ?_);show wpAny _ _ (if ((-1:Int) == 0)=true then _ else _) _ _ s;rw[if_neg (by decide)];refine wpAny_bind (HT.slicePart_ pl (wpAny_bind (HT.slicePart_ N (wpAny_bind (wpAny_pure ?_)))));have e1:Builtin.Slice.sliceAdjust none (some 0) (-1) (n:Int)=((n:Int) - 1,0):=by
  unfold Builtin.Slice.sliceAdjust;refine Prod.ext ?_ ?_
  ·simp
  ·simp;omega
 have Z:Builtin.Slice.slicePlaces ((n:Int) - 1) 0 (-1)=n - 1:=by
  unfold Builtin.Slice.slicePlaces;rw[if_neg (by decide)];split
  ·rw[show(- -1:Int)=1 from rfl,Int.ediv_one];omega
  ·omega
 show wpAny _ _ (match Builtin.Slice.sliceAdjust none (some 0) (-1) (n:Int)with|(lo,hi)=>pure (lo,(-1:Int),Builtin.Slice.slicePlaces lo hi (-1))) _ _ s;rw[e1];show wpAny _ _ (pure ((n:Int) - 1,(-1:Int),Builtin.Slice.slicePlaces ((n:Int) - 1) 0 (-1))) _ _ s;rw[Z];exact wpAny_pure h
theorem BQ {prog:Program}{w:World}{A:Around}{E:cE}{s:Shared}{t B:Addr}{its:bZ}{U N S:Value}{Q:cE}(j:IsTup s.heap t its.toArray)(Z:s.heap.IsSliceOf B U N S)(pl:IsPart U none)(pu:IsPart N (some 0))(pt:IsPart S (some (-1)))(hn:its≠[])(hz:its.length<=sizeLine)
  (h:Q (.ref s.heap.objs.size) {s with heap:=s.heap.push {cls:=.type "tuple",data:=.seq (revT its).toArray} }):wpAny (model prog w) A (getItem (.ref t) (.ref B)) Q E s:=by
 obtain⟨k,hk⟩:∃k,its.length=k+1:=⟨its.length - 1,by have:=List.length_pos_iff.mpr hn;omega⟩
 obtain⟨os,G,I,hds⟩:=id Z;have L:s.TypeIs (.ref B) "slice":=⟨os,G,I⟩
 unfold getItem
 try with_reducible refine wpAny_holding ?_
 first|refine wpAny_bind (wpAny_pure ?_)|skip
 refine wpAny_bind (wpAny_sequenceKey j.typeIs (by decide) ?_)
 refine wpAny_bind (wpAny_callSpecial?_slot (name:=Str.ofString "__getitem__") j.typeIs PyProof.Rows.slot_tuple_getitem
  (wpAny_call_entry PyProof.Rows.slot_tuple_getitem j.typeIs entry_tuple_getitem ?_ (args_tuple_getitem _ _)))
 show wpAny _ _ (Builtin.Tuple.tupleItemsOf (.ref t) >>= _) _ _ s;refine wpAny_bind (tupleItemsOf_ j ?_);refine wpAny_bind (wpAny_typeOf L ?_);rw[if_pos (by decide)];refine wpAny_bind (yY (n:=its.toArray.size) Z pl pu pt (by rw[List.size_toArray];omega) ?_);dsimp only;rw[if_neg (by intro q;rw[Bool.and_eq_true,Bool.and_eq_true]at q;exact absurd q.1.2 (by decide))];have e:((List.range (its.toArray.size - 1)).filterMap fun(m:Nat)=>its.toArray[(((its.toArray.size:Nat):Int) - 1+(m:Int) * -1).toNat]?).toArray=(revT its).toArray:=by rw[List.size_toArray,hk];have q:=wQ its k hk;unfold revT;rw[←q];congr 2;funext m;congr 1;omega
 rw[e];have hsz:sizeOk (.seq (revT its).toArray):=by show(revT its).toArray.size<=sizeLine;rw[List.size_toArray];unfold revT;rw[List.length_reverse,List.length_drop];omega
 first
  | exact wpAny_bind (m:=Builtin.Tuple.tupleExact _) (wpAny_newObj_type (wpAny_pure ⟨_,rfl,wpAny_pure h⟩) hsz)
  | exact wpAny_bind (m:=Builtin.Tuple.tupleExact _) (wpAny_newObj_type (wpAny_bind (wpAny_pure (wpAny_pure ⟨_,rfl,wpAny_pure h⟩))) hsz)
  | exact wpAny_bind (wpAny_bind (m:=Builtin.Tuple.tupleExact _) (wpAny_newObj_type (wpAny_pure (wpAny_pure ⟨_,rfl,wpAny_pure h⟩)) hsz))
  | exact wpAny_bind (wpAny_bind (m:=Builtin.Tuple.tupleExact _) (wpAny_newObj_type (wpAny_pure ⟨_,rfl,wpAny_pure h⟩) hsz))
noncomputable def RA (X:Cx)(r:V->Option Int->Option Int->Option Int->Hp->VK->Prop):Prop :=
 ∀(j:cW) (s:Shared) (σ:St) (H:Hp) (x:V) (v vl vu vt:Value) (lo hi st:Option Int) (sl:Addr) (Q:VK),aO X j σ H s->aT x v->s.heap.IsSliceOf sl vl vu vt->IsPart vl lo->IsPart vu hi->IsPart vt st->r x lo hi st H Q ->
  ∃T id,typeLookup (.type T) "__getitem__" = pure (some (.builtin id))/\s.TypeIs v T/\wpAny (model X.prog X.w) X.A (getItem v (.ref sl)) (EP X j σ Q) X.xe s
noncomputable def tSl3 (r:V->Option Int->Option Int->Option Int->Hp->VK->Prop)(B:TE)(tl q j:TO):TE:=fun σ H Q=>B σ H fun x N=>tl σ N fun l L=>q σ L fun u I=>j σ I fun t G=>r x l u t G Q
theorem vG {X:Cx}{e:Expr}{te:TE}{lo hi:Option Expr}{st:Expr}{tl Z U:TO}{G p2:Pos}{r:V->Option Int->Option Int->Option Int->Hp->VK->Prop}(hr:RA X r)(he:PE X e te)(hl:PO X lo tl)(hu:PO X hi Z)(ht:PO X (some st) U):PE X (.Subscript e (.Slice lo hi (some st) p2) G) (tSl3 r te tl Z U):=by intro j s σ H Q I h;refine Subscript_ (thn (he j s σ H _ I h) fun v s1 ⟨x,H1,I1,r1,q1⟩=>?_);refine wpAny_Slice (thn (hl j s1 σ H1 _ I1 q1) fun S s2 ⟨l,H2,I2,pl,q2⟩=>thn (hu j s2 σ H2 _ I2 q2) fun L s3 ⟨u,H3,I3,pu,q3⟩=>thn (ht j s3 σ H3 _ I3 q3) fun N B ⟨t,H4,I4,pt,q4⟩=>?_);have I5:aO X j σ H4 {B with heap:=B.heap.push {cls:=.type "slice",data:=.fields #[S,L,N]} }:=I4.kept (t':=B.toks) fun b ob q=>Heap.get?_push_of_some _ q;obtain⟨T,id,hT,hy,hg⟩:=hr j _ σ H4 x v S L N l u t B.heap.objs.size Q I5 r1 (Heap.IsSliceOf.new ..) pl pu pt q4;exact tail_any (ops:=[v,.ref B.heap.objs.size]) hy hT hg (by with_unfolding_all rfl)
noncomputable def rBack:V->Option Int->Option Int->Option Int->Hp->VK->Prop:=fun x j q st H Q=>j=none/\q=some 0/\st=some (-1)/\∃a xs,x = .ref a/\fL H a xs/\xs≠[] /\
 ∀p o,H p=none->(o = .lst (revT xs)/\H a=some (.lst xs)∨o = .tup (revT xs)/\H a=some (.tup xs))->Q (.ref p) (upd H p o)
theorem aR.revT {xs:List V}{us:bZ}(h:aR xs us):aR (revT xs) (L2.revT us):=(h.drop 1).reverse
theorem zM {α:Type}(xs:List α):(revT xs).length<=xs.length:=by unfold revT;rw[List.length_reverse,List.length_drop];omega
theorem DS {xs:List V}{us:bZ}(h:aR xs us)(n:xs≠[]):us≠[]:=fun z=>by have:=h.length;rw[z]at this;exact n (List.length_eq_zero_iff.mp this)
theorem DZ {X:Cx}:RA X rBack:=by
 intro S s σ H x v vl vu vt lo hi st sl Q I L U pl N pt h;obtain⟨rfl,rfl,rfl,a,xs,rfl,G|G,Z,q⟩:=h
 ·cases L;obtain⟨its,r,B,hz⟩:=I.list (fA.of G);refine⟨"list",_,slot_list_getitem.lookup,B.isList.typeIs,?_⟩;have j:=r.length;refine wpAny_getItem_list_slice B.isList U pl N pt (by decide) ?_ (by rw[List.size_toArray] <;> omega);rw[FM its (DS r Z)];refine⟨.ref s.heap.objs.size,_,I.laid (t':=s.toks) (o:=.lst (revT xs)) (fun b ob q=>Heap.get?_push_of_some _ q) (Nat.le_refl _) ?_,rfl,q _ _ (I.hok.fresh (Nat.le_refl _)) (.inl ⟨rfl,G⟩)⟩;exact⟨Nat.le_trans (zM xs) hz,_,0,r.revT,Heap.get?_push_size _ rfl⟩
 ·cases L;obtain⟨its,r,B,hz⟩:=I.tuple (hZ.of G);refine⟨"tuple",_,PyProof.Rows.slot_tuple_getitem.lookup,B.typeIs,?_⟩;have j:=r.length;refine BQ B U pl N pt (DS r Z) (by omega) ?_;refine⟨.ref s.heap.objs.size,_,I.laid (t':=s.toks) (o:=.tup (revT xs)) (fun b ob q=>Heap.get?_push_of_some _ q) (Nat.le_refl _) ?_,rfl,q _ _ (I.hok.fresh (Nat.le_refl _)) (.inr ⟨rfl,G⟩)⟩;exact⟨Nat.le_trans (zM xs) hz,_,r.revT,⟨_,Heap.get?_push_size _ rfl,rfl,_,rfl⟩⟩
noncomputable def rExtU:V->List V->Hp->VK->Prop:=fun x vs H Q=>∃l b xs j,x = .ref l/\vs=[.ref b]/\H l=some (.lst xs)/\fL H b j/\xs.length+j.length<=sizeLine/\Q .non (upd H l (.lst (xs++j)))
theorem NA {l b:Addr}{its its2:i4}{n n2:Nat}{od:Option Addr}{osl:Array (Option Value)}(q:(!its.isEmpty && Builtin.List.listTooLong (its.size+its2.size))=false)(N:its.size<=sizeLine)(L:its.size+its2.size<=sizeLine+1) :
  Meets (Builtin.«list.extend» ⟨[.ref l,.ref b],[]⟩) (fun _ R s=>s.heap.get? l=some {cls:=.type "list",data:=.seq its n}/\s.heap.get? b=some ⟨.type "tuple",od,.seq its2 n2,osl⟩ /\
   R (.ok (.ret .none)) {s with heap:=s.heap.update l (Obj.mapSeq fun x=>x++its2)}):=by
 refine .of_wp fun prog w A R B h=>?_;obtain⟨S,g,d,tk,os⟩:=B;obtain⟨j,G,h⟩:=h;have q:¬(!its.isEmpty && Builtin.List.listTooLong (its.size+its2.size))=true:=by rw[q];decide
 have f1:=AutoSeq1.idx_int;have f4:=AutoSeq1.sub_tuple_list;have U:=AutoSeq1.sub_list_tuple;have I:(its++its2).size<=sizeLine+1:=by rw[Array.size_append];exact L
 wp_walk using (wpAny_updateSeq j rfl (hz:=N) (_hz':=I)),
  wpAny_loadPart' j,wpAny_loadPart' G
 exact⟨_,rfl,h⟩
theorem x0 {X:Cx}:N8 X "list.extend" rExtU:=by
 intro j s σ H x vs v us Q I L N h;obtain⟨l,b,xs,zs,U,Z,B,G|G,hz,q⟩:=h
 ·exact FZ j s σ H x vs v us Q I L N ⟨l,b,xs,zs,U,Z,B,G,hz,q⟩
 subst U Z;cases L;obtain⟨u,rfl,ru⟩:=N.one;cases ru;obtain⟨z,its,n,r,hl,e⟩:=I.lstM B;obtain⟨its2,S,⟨⟨oc,od,odt,osl⟩,e2,c2,n2,d2⟩,z2⟩:=I.tuple (hZ.of G);cases c2;cases d2;have hl2:=S.length;have hsz:its.toArray.size+its2.toArray.size<=sizeLine:=by rw[List.size_toArray,List.size_toArray];omega
 have m:=NA (l:=l) (b:=b) (its:=its.toArray) (its2:=its2.toArray) (n:=n) (n2:=n2) (od:=od) (osl:=osl) (by rw[sJ hsz,Bool.and_false]) (by rw[List.size_toArray];omega) (by omega);refine call_meets F.slot_list_extend ⟨_,e,rfl⟩ F.entry_list_extend (F.args_list_extend_2 _ _) m ⟨e,e2,?_⟩;refine⟨.non,_,I.lset (its':=its++its2) B e (by simp) (r.append S) ?_,rfl,q⟩;rw[List.length_append];omega
noncomputable def tl1 (z:Str):Str:=⟨(z.cps.toList.drop 1).toArray⟩
noncomputable def rSlTx:V->Option Int->Option Int->Hp->VK->Prop:=fun x j q H Q=>∃z,x = .str z/\j=some 1/\q=none/\1<=z.length/\z.length<=sizeLine/\Q (.str (tl1 z)) H
theorem FL (z:Str)(h:1<=z.length)(u:Tok):slicePicked z (some (1,u)) none none=(List.range (z.length - 1)).map fun m=>1+m:=by
 show Builtin.Str.strSliceIndices (some 1) none 1 z.length=_;unfold Builtin.Str.strSliceIndices;dsimp only;rw[if_neg (show ¬(1:Int)<0 by decide),if_pos (show(1:Int) > 0 by decide),if_pos (show(1:Int) > 0 by decide)];have e:max 0 (min 1 (z.length:Int))=1:=by omega
 rw[e];unfold sliceRange;dsimp only;rw[if_pos (by decide)];have c:(if (1:Int)<(z.length:Int)then((z.length:Int) - 1+1 - 1) / 1 else 0).toNat=z.length - 1:=by
  split
  ·rw[Int.ediv_one];omega
  ·omega
 rw[c];refine List.map_congr_left fun m _=>?_;omega
theorem OX {X:Cx}:Q9 X rSlTx:=by
 intro j s σ H x v Z U lo hi sl Q I B L pl G h;obtain⟨z,rfl,rfl,rfl,S,hz,q⟩:=h;obtain⟨t,rfl⟩:=B;cases pl;rename_i tk;cases G;refine⟨"str",_,F.slot_str_getitem.lookup,typeIs_str _ _ _,?_⟩;refine wpAny_getItem_str_slice (l:=some (1,tk)) (u:=none) (st:=none) L rfl ?_;have N:=FL z S tk;unfold sliceMade;rw[N,if_neg (by intro w;rw[Bool.and_eq_true]at w;have:=eq_of_beq w.2;simp at this;omega)];have e:(((List.range (z.length - 1)).map fun m=>1+m).filterMap (z.cps[·]?)).toArray=(z.cps.toList.drop 1).toArray:=by have:=pick_run z.cps 1 (z.length - 1);rw[this];congr 1;rw[List.take_of_length_le];rw[List.length_drop,Array.length_toList];exact Nat.le_refl _
 rw[e];refine⟨?_,.str (tl1 z),H,I.tok _,⟨_,rfl⟩,q⟩;show(z.cps.toList.drop 1).toArray.size<=sizeLine;have hd:(z.cps.toList.drop 1).length=z.cps.size - 1:=by simp
 rw[List.size_toArray,hd];exact Nat.le_trans (Nat.sub_le _ _) hz
noncomputable def RU (z:Str):It:=⟨fun i _=>i<z.cps.size,fun i H x H'=>H'=H/\∃c,z.cps[i]?=some c/\x = .str ⟨#[c]⟩,fun i _=>i=z.cps.size⟩
theorem HM {P:Program}{w:World}{K:PySem.W.Frag}{tg:Expr}(it:Addr)(z:Str)(t:Tok):m8 P w K tg (RU z) [it] it (fun i h=>h.IsStrIter it "str_ascii_iterator" z t i) where
 mem:=by simp
 obj:=fun i h st b B=>by
  obtain rfl:b=it:=by simpa using B
  obtain⟨o,e,c,d⟩:=st;exact⟨o,e,fun v q=>by rw[d]at q;cases q⟩
 keep:=fun i h h' st k=>by obtain⟨o,e,r⟩:=st;exact⟨o,k it (by simp) o e,r⟩
 item:=by intro X Z S hK hc i j s σ H E I N st L;subst Z S hK;obtain⟨f0,f1,f2,f3,f4,f5⟩:=N it (by simp);have W:=Walks.strAscii (prog:=X.prog) (w:=X.w) (I.ok.hd hc) it z t;refine W.item i s _ _ L st fun v h' tk hv G kk=>?_;obtain⟨c,u,U,rfl⟩:=hv;have I1:aO X j σ H {s with heap:=h',toks:=tk}:=I.turned (fun b o B e=>kk b o (by simpa using B) e) f0 f1 f3 f4 f5;obtain⟨o,e,cc,d⟩:=id G;exact⟨_,rfl,vZ (s:={s with heap:=h',toks:=tk}) e cc d (by decide) ⟨.str ⟨#[c]⟩,H,I1,⟨u,rfl⟩,⟨rfl,c,U,rfl⟩,G,fun b B=>(N b B).1⟩⟩
 done:=by intro X Z S hK hc i j s σ H E I N st L;subst Z S hK;obtain⟨f0,f1,f2,f3,f4,f5⟩:=N it (by simp);have L:i=z.cps.size:=L;subst L;exact wpAny_pyNext_ascii_end (I.ok.hd hc) st (by simp) fun h' eb=>⟨rfl,I.turned (t':=s.toks) (fun b o B e=>eb b o B e) f0 f1 f3 f4 f5⟩
 self:=fun _ _ _ _ _ st h=>wpAny_pyIter_striter_ascii st h
noncomputable def iTxt (j:TE):TI:=fun σ H R=>j σ H fun x q=>∃z:Str,x = .str z/\z.cps.all (· < 128)=true/\R (RU z) q
theorem IG {X:Cx}{N e:Expr}{L:TE}(U:PE X e L):PI X N e (iTxt L):=by
 intro j s σ H R I h;refine thn (U j s σ H _ I h) fun v B ⟨x,H1,G,r1,S⟩=>?_;obtain⟨z,rfl,ha,q⟩:=S;obtain⟨t,rfl⟩:=r1;refine wpAny_pyIter_ascii ha ?_;refine⟨B.heap.objs.size,[B.heap.objs.size],_,_,H1,rfl,G.kept (t':=B.toks) fun b o e=>Heap.get?_push_of_some _ e,HM _ z t,⟨_,Heap.get?_push_size _ rfl,rfl,rfl⟩,fun b Z=>?_,q⟩;obtain rfl:b=B.heap.objs.size:=by simpa using Z
 exact G.fpOk (Nat.le_refl _) (G.hok.fresh (Nat.le_refl _))
section
variable {X:Cx}{CX:zB}{k:Nat}{sp:Sp}{E:XK}{x m:Str}{C:Addr}{p pos apos:Pos}{o e:Expr}{es:kU}{ta:TE}{t:TA}
theorem xT {pl:Sem Bool}(O:G8 X.prog X.w X.K X.mg X.base CX k C m sp)(I:eK k X.A)(B:jO CX X E)(L:PE X o ta)(S:PA X (e::es) t)
  (j:starEach (e::es) X.env=(false,eval e X.env)::starEach es X.env:=by rfl) (q:(backTo pos (starEach es X.env)).any (·.1)=false:=by rfl)
  (G:eval (.Call (.Attribute o m apos) (e::es) [] pos) X.env=(do
   let ov ←eval o X.env
   standAt apos.atName
   let(f,first) ←holding [ov] (getMethod ov m pl)
   callWith pos f first (backTo pos (starEach (e::es) X.env)) (backToKw pos (keywordEach [] X.env))):=by rfl):PE X (.Call (.Attribute o m apos) (e::es) [] pos) (tMeth C m sp [] E ta t):=by
 obtain⟨f,U,ps,F,M,N,c⟩:=O;exact LS L c M F I N .nil B S j q G
noncomputable def QL (P:Program)(w:World)(K:PySem.W.Frag)(mg:fM)(base:Heap)(CX:zB)(k:Nat)(x:Str)(C:Addr)(sp:Sp):Prop :=
 ∃f j ps,cA P w K mg base CX k f j ps sp/\mg x=some (.ref C)/\Mk K C f/\fN K j ps []
theorem QY (O:QL X.prog X.w X.K X.mg X.base CX k x C sp)(G:eK (k+1) X.A)(B:jO CX X E)(L:Gl X x)(U:PA X (e::es) t)(q:(x == ("__debug__" : Str))=false:=by decide)
  (N:starEach (e::es) X.env=(false,eval e X.env)::starEach es X.env:=by rfl) (j:(backTo pos (starEach es X.env)).any (·.1)=false:=by rfl):PE X (.Call (.Name x p) (e::es) [] pos) (tMake C sp [] E t):=by
 obtain⟨f,Z,ps,F,I,M,S⟩:=O;exact LU M F G L I S .nil B U q N j
end
section
variable {g:TG}{tt:TT}{te:TE}{Q:VK}{σ:St}{H:Hp}
theorem wG {z:Str}(Pv:Nat->List V->St->Hp->Prop)(G:Pv 0 [] σ H)(q:∀i c j σ H,z.cps[i]?=some c->Pv i j σ H->CStep g tt te (.str ⟨#[c]⟩) j σ H (Pv (i+1)))
  (hd:∀j σ H,Pv z.cps.size j σ H->∀p,H p=none->Q (.ref p) (upd H p (.lst j))):oO (RU z) g tt te Q σ H :=
 oG (n:=z.cps.size) Pv G (fun i j σ H B p=>⟨B,fun x H' y=>by obtain⟨rfl,c,hc,rfl⟩:=y;exact q i c j σ _ hc p⟩) fun j σ H p=>⟨rfl,hd j σ H p⟩
end
noncomputable def inTx (z:Str)(c:Nat):Bool:=!(Builtin.Str.occurrences z ⟨#[c]⟩ 0 z.length 1).isEmpty
end L2
namespace Lw
open PySem L2
section
variable {P:Program}{w:World}{K:PySem.W.Frag}{mg:fM}{base:Heap}
noncomputable def mulO (j:cL)(n:Str):Option Int:=(j.find? fun r=>decide (r.1=n)).map (·.2)
noncomputable def mulV (j:cL)(n:Str):V:=((mulO j n).map V.int).getD .non
noncomputable def nulV (sm:bM)(n:Str):V:=((zr sm n).map V.str).getD .non
theorem HE (n:Str):∀j:cL,valV (j.map fun r=>((.inr r.1,V.int r.2):bG×V)) (.inr n)=(mulO j n).map V.int
 | []=>rfl
 | r::l=>by
  by_cases e:r.1=n
  ·rw[List.map_cons,jZ (by rw[e])];simp[mulO,e]
  ·rw[List.map_cons,j4 (fun z=>e (by cases z;rfl)),HE n l];simp[mulO,e]
structure iK (K:PySem.W.Frag)(C:Addr)(fx:cL)(sm:bM)(H:Hp)(g:Addr):Prop where
 cls:HA K C
 n1:iE K C "many_by_name"
 n2:iE K C "nought_by_name"
 ex:∃dx fs dm dn,H g=some (.ins C dx fs)/\fs.lookup ("many" : Str)=none/\fs.lookup ("nought" : Str)=none/\fs.lookup ("many_by_name" : Str)=some (.ref dm)/\fs.lookup ("nought_by_name" : Str)=some (.ref dn) /\
  H dm=some (.dK (fx.map fun r=>(.inr r.1,.int r.2)))/\H dn=some (.dK (sm.map fun r=>(.inr r.1,.str r.2)))
theorem iK.same {C:Addr}{j:cL}{sm:bM}{H H':Hp}{g:Addr}(h:iK K C j sm H g)(s:aH H H'):iK K C j sm H' g:=by obtain⟨a,b,c,U,fs,dm,Z,S,N,L,I,G,B,q⟩:=h;exact⟨a,b,c,U,fs,dm,Z,s _ _ S,N,L,I,G,s _ _ B,s _ _ q⟩
noncomputable def BX (K:PySem.W.Frag)(C:Addr):Sp:=fun vs H Q _=>∃(g:Addr) (n:Str) (fx:cL) (sm:bM),vs=[.ref g,.str n]/\iK K C fx sm H g/\Q (mulV fx n) H
theorem MI {f C:Addr}{Z:FuncData}(F:gU K "many" "Signs.many" eG f Z)(T:Txt mg):cA P w K mg base a0 1 f Z kP (BX K C):=by
 refine F.ok uN (fun vs H Q E h=>?_) (fun cdv A outer s H vs Q E U h=>?_)
 ·obtain⟨g,n,fx,sm,rfl,_⟩:=h;rfl
 ·obtain⟨g,n,fx,sm,rfl,⟨N,L,c3,dx,fs,dm,dn,I,h2,h3,G,h5,j,h7⟩,q⟩:=h;have S:=U.units;refine⟨_,(aG (aQ (sC (aX K rfl (aK aL rfl T.n_isinstance rfl (aA (pv 1) (aA (bU (v:=V.ty "str") rfl T.n_str rfl rfl) aC))) (fun _=>rfl)) (zS (Nat.lt_of_le_of_lt (Nat.add_le_add_left (by decide) _) S) (IL (pv 0) rfl) (pv 1) ⟨rfl,rfl,rfl,rfl⟩) xS))),?_⟩;simp only[oN];clear U F T S;have B:=jY.k (k:=.inr n) j;rw[HE]at B;have keep:=aI q (aI N (aI L (aI I (aI G (aI j B)))));clear q N L c3 I h2 h3 G h5 j h7 B
  walk_at "rd"
  obtain⟨q,N,L,I,G,j,B⟩:=keep;refine⟨true,rfl,?_⟩;rw[if_pos rfl];exact⟨_,rfl,g,C,dx,fs,_,rfl,I,N,L,G,dm,rfl,.inl ⟨_,.inl j⟩,_,rfl,_,B,q⟩
noncomputable def nM (K:PySem.W.Frag)(C:Addr):Sp:=fun vs H Q _=>∃(g:Addr) (n:Str) (fx:cL) (sm:bM),vs=[.ref g,.str n]/\iK K C fx sm H g/\Q (nulV sm n) H
theorem FS {f C:Addr}{Z:FuncData}(F:gU K "nought" "Signs.nought" dL f Z)(T:Txt mg):cA P w K mg base a0 1 f Z iZ (nM K C):=by
 refine F.ok qW (fun vs H Q E h=>?_) (fun cdv A outer s H vs Q E U h=>?_)
 ·obtain⟨g,n,fx,sm,rfl,_⟩:=h;rfl
 ·obtain⟨g,n,fx,sm,rfl,⟨N,c2,L,dx,fs,dm,dn,I,h2,h3,h4,G,h6,j⟩,q⟩:=h;have S:=U.units;refine⟨_,(aG (aQ (sC (aX K rfl (aK aL rfl T.n_isinstance rfl (aA (pv 1) (aA (bU (v:=V.ty "str") rfl T.n_str rfl rfl) aC))) (fun _=>rfl)) (zS (Nat.lt_of_le_of_lt (Nat.add_le_add_left (by decide) _) S) (IL (pv 0) rfl) (pv 1) ⟨rfl,rfl,rfl,rfl⟩) xS))),?_⟩;simp only[lU];clear U F T S;have B:=jY.k (k:=.inr n) j;rw[rK]at B;have keep:=aI q (aI N (aI L (aI I (aI G (aI j B)))));clear q N c2 L I h2 h3 h4 G h6 j B
  walk_at "rd"
  obtain⟨q,N,L,I,G,j,B⟩:=keep;refine⟨true,rfl,?_⟩;rw[if_pos rfl];exact⟨_,rfl,g,C,dx,fs,_,rfl,I,N,L,G,dn,rfl,.inl ⟨_,.inl j⟩,_,rfl,_,B,q⟩
theorem QU {c:Nat}(h:isWd c):inTx "abcdefghijklmnopqrstuvwxyz0123456789" c=true:=by
 have a:∀j:Fin 26,inTx "abcdefghijklmnopqrstuvwxyz0123456789" (97+j.1)=true:=by decide +kernel
 have b:∀j:Fin 10,inTx "abcdefghijklmnopqrstuvwxyz0123456789" (48+j.1)=true:=by decide +kernel
 unfold isWd at h;rcases h with h|h
 ·have:=a ⟨c - 97,by omega⟩;rw[show 97+(c - 97)=c by omega]at this;exact this
 ·have:=b ⟨c - 48,by omega⟩;rw[show 48+(c - 48)=c by omega]at this;exact this
theorem AJ {H:Hp}{z:Str}(h:z.length<=sizeLine):lenV H (.str z)=some z.length:=if_pos h
theorem yG {H:Hp}{z:Str}{i:Int}(h:z.length<=sizeLine):ixV H (.str z) (.int i)=(atI z.cps.toList i).map fun c=>.str ⟨#[c]⟩:=if_pos h
noncomputable def w4:Sp:=fun vs H Q _=>∃x:Str,vs=[.str x]/\(cF x∨i0 x)/\∀H',aH H H'->(cF x->Q (.bl true) H')/\(i0 x->Q (.bl false) H')
theorem MB {f:Addr}{fd:FuncData}(F:gU K "is_wish" "is_wish" fX f fd)(T:Txt mg):cA P w K mg base a0 1 f fd p9 w4:=by
 refine F.ok B5 (fun vs H Q E h=>?_) (fun cdv A outer s H vs Q E hr h=>?_)
 ·obtain⟨x,rfl,_⟩:=h;rfl
 ·obtain⟨x,rfl,B,q⟩:=h;have hu:=hr.units
  refine⟨_,(aF (bK (PW.pt (iU (dC (aX K rfl (aK aL rfl T.n_isinstance rfl (aA (pv 0) (aA (bU (v:=V.ty "str") rfl T.n_str rfl rfl) aC))) (fun _=>rfl))) (h8 (dC (lC n6 n6 aJ (aK bH rfl T.n_len rfl (aA (pv 0) aC)) (gO T.c_LONGEST_WISH rfl)))))) (aG (aQ qH)) aU)
   (aG (aQ (IO (dY (eJ hu) (bP dN (pv 0) aJ (fun _ _=>rfl)) gM (nomark _)) (CA (aK (pZ rfl) rfl T.n_all rfl (aA (iI rfl (bJ.by (N:=qC) (names:=(aD fX).names) (N':=["sign"]) (src:=[none]) (by decide +kernel) rfl rfl) (IG (gN OX (pv 0) (fC aJ) gK)) (fun _ _ _ _=>(bQ (i:=0) (show List.Nodup (["sign"]:aW)by decide +kernel) rfl (Or.inl rfl))) (fun _ _ _ _=>fB) (fun _ _ _ _=>(dY pJ (pv 0) (gO T.c_WISH_SIGNS rfl) (by with_unfolding_all rfl)))) aC))))))),?_⟩
  simp only[qC];clear hr F T hu;have keep:=aI q B;clear q B
  walk_at "rd"
  obtain⟨q,B⟩:=keep;have hl:x.length<=20:=by
   rcases B with⟨l,rfl,_,L,_⟩|h
   ·show(63::l).toArray.size<=20;rw[List.size_toArray,List.length_cons];omega
   ·have:=h.2.1;rw[Array.length_toList]at this;exact Nat.le_trans this (by decide)
  have hz:x.length<=sizeLine:=Nat.le_trans hl (by decide);refine⟨true,rfl,?_⟩;rw[if_neg (by decide)];refine⟨.int x.length,by rw[AJ hz];rfl,_,rfl,?_⟩;rcases B with hw|I
  ·obtain⟨l,rfl,h1,L,h3⟩:=id hw;have U:(Str.mk (63::l).toArray).length=l.length+1:=by show(63::l).toArray.size=_;rw[List.size_toArray,List.length_cons]
   have G:=fun H' S=>(q H' S).1 hw;have ix:ixV H (.str ⟨(63::l).toArray⟩) (.int 0)=some (.str ⟨#[63]⟩):=by rw[yG hz];show(atI (63::l).toArray.toList 0).map _=_;rw[List.toList_toArray,atI_zero];rfl
   rw[if_pos (by rw[U];omega)];refine⟨_,rfl,?_⟩;rw[if_neg (by rw[U];omega)];refine⟨_,ix,?_⟩;rw[rEqD_ss]

   refine⟨_,rfl,?_⟩;have Z:decide ((⟨#[63]⟩:Str)=Str.ofString "?")=true:=by decide +kernel
   rw[if_pos Z];have et:tl1 ⟨(63::l).toArray⟩=⟨l.toArray⟩:=by unfold tl1;simp
   refine⟨_,rfl,1,rfl,⟨(63::l).toArray⟩,rfl,rfl,rfl,by rw[U];omega,hz,tl1 ⟨(63::l).toArray⟩,rfl,?_,?_⟩
   ·rw[et];simp only[List.all_toArray,List.all_eq_true,decide_eq_true_eq];intro c hc;have:=h3 c hc;unfold isWd at this;omega
   ·rw[et];refine wG (fun i j σ H'=>H'=H/\j=(List.replicate i true).map V.bl/\i<=8/\∃o:Option V,σ=[o]) ⟨rfl,rfl,by decide,none,rfl⟩ ?_ ?_
    ·rintro i c j σ H' hc ⟨rfl,rfl,hi,o,rfl⟩;have hc':l[i]?=some c:=by simpa using hc
     have hm:c∈l:=List.mem_of_getElem? hc';have hi':i<l.length:=(List.getElem?_eq_some_iff.mp hc').1;refine⟨_,rfl,_,rfl,_,rfl,?_⟩;have e:=QU (h3 c hm);unfold inTx at e;dsimp only;refine⟨Nat.lt_of_le_of_lt (m:=100) (by simp;omega) (by decide),rfl,?_,by omega,_,rfl⟩;rw[e,List.replicate_succ',List.map_append];rfl
    ·rintro j σ H' ⟨rfl,rfl,hi,o,rfl⟩ p hp;refine⟨p,rfl,List.replicate _ true,upd_same,?_⟩;have:(List.replicate (Str.mk l.toArray).cps.size true).all id=true:=by simp
     rw[this];exact G _ (aH.upd hp)
  ·have G:=fun H' S=>(q H' S).2 I;by_cases L:(2:Int)<=x.length
   ·rw[if_pos L];refine⟨_,rfl,?_⟩;have:=I.2.1;rw[Array.length_toList]at this;have e9:(x.length:Int)<=9:=by show(x.cps.size:Int)<=9;omega
    rw[if_neg (by omega)];cases hc:x.cps.toList with
    | nil=>have:=I.1;rw[hc]at this;simp at this
    | cons c r =>
     have hcc:=I.2.2 c (by rw[hc];exact List.mem_cons_self);refine⟨.str ⟨#[c]⟩,by rw[yG hz,hc,atI_zero];rfl,?_⟩;rw[rEqD_ss];refine⟨_,rfl,?_⟩;rw[if_neg]
     ·exact G _ (aH.refl _)
     ·intro w;have:=of_decide_eq_true w;have e:(⟨#[c]⟩:Str).cps=(Str.ofString "?").cps:=by rw[this]
      have e2:(Str.ofString "?").cps = #[63]:=by decide +kernel
      rw[e2]at e;have:c=63:=by simpa using e
      omega
   ·rw[if_neg L];exact G _ (aH.refl _)
theorem AC {j:cL}{sm:bM}(so:bW j sm){n:Str}{k:Int}(h:(n,k)∈j):mulO j n=some k:=by
 have nd:=(List.nodup_append.mp so.nd).1;unfold mulO;clear so
 induction j with
 | nil=>cases h
 | cons r l q =>
  rw[List.map_cons,List.nodup_cons]at nd;obtain rfl|h:=List.mem_cons.mp h
  ·simp
  ·have ne:r.1≠n:=fun e=>nd.1 (by rw[e];exact List.mem_map_of_mem (f:=(·.1)) h);rw[List.find?_cons,decide_eq_false ne];exact q h nd.2
theorem K3 {sm:bM}{n:Str}(h:n∉sm.map (·.1)):zr sm n=none:=by
 unfold zr;rw[List.find?_eq_none.mpr]
 ·rfl
 ·intro r j e;exact h (List.mem_map.mpr ⟨r,j,of_decide_eq_true e⟩)
theorem K2 {sm:bM}{n:Str}(h:n∈sm.map (·.1)):∃z,zr sm n=some z:=by
 obtain⟨r,j,e⟩:=List.mem_map.mp h;cases q:sm.find? (fun r=>decide (r.1=n))with
 | none=>exact absurd (decide_eq_true e) (List.find?_eq_none.mp q r j)
 | some z=>exact⟨z.2,by unfold zr;rw[q];rfl⟩
noncomputable def xI (K:PySem.W.Frag)(C:Addr):Sp:=fun vs H Q _=>∃(g:Addr) (fx:cL) (sm:bM) (os:aW) (d:D) (v:V),vs=[.ref g,v]/\iK K C fx sm H g/\bW fx sm/\(∀x∈os,cF x)/\bD H d v/\bN fx sm os d/\lvs d<=100/\∀H',aH H H'->Q (.bl true) H'
theorem JF {f C:Addr}{fd:FuncData}(F:gU K "is_built" "is_built" fR f fd)(T:Txt mg)(O_is_wish:cK P w K mg base a0 1 "is_wish" w4)(M_many:G8 P w K mg base a0 1 C "many" (BX K C))(M_nought:G8 P w K mg base a0 1 C "nought" (nM K C)):cA P w K mg base a0 2 f fd nB (xI K C):=by
 refine F.ok zL (fun vs H Q E h=>?_) (fun cdv A outer s H vs Q E G h=>?_)
 ·obtain⟨g,L,sm,os,d,v,rfl,_⟩:=h;rfl
 ·obtain⟨g,L,sm,os,d,v,rfl,sg,so,ho,rep,tm,B,q⟩:=h;have hu:=G.units
  refine⟨_,(aF (bK (aX K rfl (aK aL rfl T.n_isinstance rfl (aA (pv 1) (aA (bU (v:=V.ty "str") rfl T.n_str rfl rfl) aC))) (fun _=>rfl)) (aG (aQ (QX (aM O_is_wish (G.mono (by decide)) pass0 rfl (aA (pv 1) aC)) (CA (dY (eJ hu) (xT M_many (G.mono (by decide)) pass0 (pv 0) (aA (pv 1) aC)) aJ (nomark _)))))) aU)
   (aF (bK (PW.pt (iU (dC (aX K rfl (aK aL rfl T.n_isinstance rfl (aA (pv 1) (aA (fI (aA (bU (v:=V.ty "list") rfl T.n_list rfl rfl) (aA (bU (v:=V.ty "tuple") rfl T.n_tuple rfl rfl) aC))) aC))) (fun _=>rfl))) (h8 (aV (jH hu) (aK bH rfl T.n_len rfl (aA (pv 1) aC)) aJ (nomark _))))) (aG (aQ qH)) aU)
   (aF (bK (aV L6 (xT M_nought (G.mono (by decide)) pass0 (pv 0) (aA (bP dN (pv 1) aJ (fun _ _=>rfl)) aC)) xS (nomark _)) (aG (aQ (dY N0 (aK bH rfl T.n_len rfl (aA (pv 1) aC)) aJ (nomark _)))) aU)
   (aG (aQ (dY (eJ hu) (xT M_many (G.mono (by decide)) pass0 (pv 0) (aA (bP dN (pv 1) aJ (fun _ _=>rfl)) aC)) (bO pG (aK bH rfl T.n_len rfl (aA (pv 1) aC)) aJ) (nomark _))))))),?_⟩
  simp only[uA];clear G F T hu O_is_wish M_many M_nought;have keep:=aI q (aI sg (aI so (aI ho (aI rep (aI tm B)))));clear q sg so ho rep tm B
  walk_at "rd"
  obtain⟨q,sg,so,ho,rep,tm,B⟩:=keep;obtain⟨dx,fs,_,_,h1,h2,h3,_⟩:=sg.ex;rcases BS tm with⟨x,rfl,Z⟩|⟨n,ds,hd,hh,tms⟩
  ·cases (show v = .str x from rep);refine⟨true,rfl,?_⟩;rw[if_pos rfl];rcases Z with Z|Z
   ·have hw:=ho x Z;refine⟨x,rfl,.inl hw,fun H' s'=>⟨fun _=>⟨true,rfl,?_⟩,fun hn=>?_⟩⟩
    ·rw[if_pos rfl];exact q _ s'
    ·obtain⟨l,rfl,_⟩:=hw;have:=hn.2.2 63 (by simp);omega
   ·obtain⟨r,G,e⟩:∃r∈L,r.1=x/\r.2=0:=by unfold zeros at Z;obtain⟨r,h1,rfl⟩:=List.mem_map.mp Z;obtain⟨h2,h3⟩:=List.mem_filter.mp h1;exact⟨r,h2,rfl,by simpa using h3⟩
    have hn:i0 x:=so.nm x (List.mem_append_left _ (List.mem_map.mpr ⟨r,G,e.1⟩));have hm:mulO L x=some 0:=AC so (by rw[←e.1,←e.2];exact G);refine⟨x,rfl,.inr hn,fun H' s'=>⟨fun hw=>?_,fun _=>⟨false,rfl,?_⟩⟩⟩
    ·obtain⟨l,rfl,_⟩:=hw;have:=hn.2.2 63 (by simp);omega
    ·rw[if_neg (by decide)];refine⟨_,rfl,g,dx,fs,rfl,s' _ _ h1,h2,_,rfl,g,x,L,sm,rfl,sg.same s',?_⟩;show rEqD (mulV L x) _ _ _;unfold mulV;rw[hm];show rEqD (.int 0) _ _ _;rw[rEqD_ii];exact q _ s'
  ·obtain⟨U,j,rfl,hbb,hseq,res⟩:∃U j,v = .ref U/\isV H (.ref U) (.ty "str")=some false/\fL H U (.str n::j)/\Reps H ds j:=by
    rcases hd with rfl|rfl
    ·obtain⟨a,vs,rfl,ha,_,j,rfl,e1,r⟩:=rep;cases e1;exact⟨a,j,rfl,mY ha,.inr ha,r⟩
    ·obtain⟨a,vs,rfl,ha,_,j,rfl,e1,r⟩:=rep;cases e1;exact⟨a,j,rfl,sY ha,.inl ha,r⟩
   have hlen:=Reps.len res;refine⟨false,hbb,?_⟩;rw[if_neg (by decide)];refine⟨by decide,fun p hp=>?_⟩;have I:aH H (upd H p (.tup [.ty "list",.ty "tuple"])):=aH.upd hp;have S:upd H p (.tup [.ty "list",.ty "tuple"]) p=some (.tup [.ty "list",.ty "tuple"]):=upd_same;generalize upd H p (.tup [.ty "list",.ty "tuple"])=H1 at I S⊢;have N:=hseq.same I;have ix0:ixV H1 (.ref U) (.int 0)=some (.str n):=by
    rcases N with e|e
    ·rw[ixV_l e,atI_zero]
    ·rw[ixV_t e,atI_zero]
   have ln:lenV H1 (.ref U)=some (j.length+1):=by
    rcases N with e|e
    ·rw[lenV_l e];rfl
    ·rw[lenV_t e];rfl
   refine⟨true,by rcases N with e|e;exact JU e S;exact JT e S,?_⟩;rw[if_neg (by decide)];have hk:=pU hh;refine⟨_,by rw[ln];rfl,_,rfl,?_⟩;rw[if_neg (by omega)];refine⟨_,rfl,g,dx,fs,rfl,I _ _ h1,h3,_,rfl,.str n,ix0,g,n,L,sm,rfl,sg.same I,?_⟩;rcases hh with⟨k0,hk⟩|⟨k2,hk⟩
   ·have nin:n∉sm.map (·.1):=fun z=>(List.nodup_append.mp so.nd).2.2 n (List.mem_map_of_mem (f:=(·.1)) hk) n z rfl;have e0:nulV sm n = .non:=by unfold nulV;rw[K3 nin];rfl
    have em:mulV L n = .int (ds.length:Int):=by unfold mulV;rw[AC so hk];rfl
    rw[e0];refine⟨false,rfl,?_⟩;rw[if_neg (by decide)];refine⟨_,rfl,g,dx,fs,rfl,I _ _ h1,h2,_,rfl,.str n,ix0,g,n,L,sm,rfl,sg.same I,?_⟩;refine⟨_,by rw[ln];rfl,_,rfl,?_⟩;rw[em,rEqD_ii,decide_eq_true (by omega)];exact q _ I
   ·obtain⟨z,hz⟩:=K2 hk;have e0:nulV sm n = .str z:=by unfold nulV;rw[hz];rfl
    rw[e0];refine⟨true,rfl,?_⟩;rw[if_pos rfl];refine⟨_,by rw[ln];rfl,_,rfl,?_⟩;rw[decide_eq_true (p:=_) (by omega)];exact q _ I
mutual
noncomputable def nds:D->Nat
 | .tup (_::ds)=>1+ndss ds
 | .lst (_::ds)=>1+ndss ds
 | _=>1
noncomputable def ndss:List D->Nat
 | []=>0
 | d::ds=>nds d+ndss ds
end
theorem rC (d:D):1<=nds d:=by unfold nds;split <;> omega
theorem j8:∀ds:List D,ds.length<=ndss ds
 | []=>Nat.le_refl _
 | d::ds=>by rw[ndss,List.length_cons];have:=rC d;have:=j8 ds;omega
theorem gQ:∀ds j:List D,ndss (ds++j)=ndss ds+ndss j
 | [],j=>by simp[ndss]
 | d::ds,j=>by rw[List.cons_append,ndss,gQ ds j,ndss];omega
theorem sK:∀ds:List D,ndss ds.reverse=ndss ds
 | []=>rfl
 | d::ds=>by rw[List.reverse_cons,gQ,sK ds,ndss,ndss,ndss];omega
theorem HD {c:TT}{B:TS}{D:iN}{σ:St}{H:Hp}(Pv:Nat->St->Hp->Prop)(n:Nat)(I:Pv n σ H)
  (G:∀n σ H,Pv n σ H->∀R:Bool->Hp->Prop,(∀H',B {D with nx:=fun q j=>∃m,m<n/\Pv m q j,ct:=fun q j=>∃m,m<n/\Pv m q j,bk:=D.nx} σ H'->R true H')->(∀H',D.nx σ H'->R false H')->c σ H R):wX c B D σ H:=by
 refine⟨Pv,⟨n,I⟩,?_⟩;intro m σ H p;refine G m σ H p _ (fun H' h=>?_) (fun H' h=>?_)
 ·rw[if_pos rfl];exact⟨_,fun q j z=>z,h⟩
 ·rw[if_neg (by decide)];exact h
theorem yS {H:Hp}{p:Addr}{o:HO}:del (upd H p o) p=del H p:=by
 funext b;unfold del upd;by_cases e:b=p
 ·rw[if_pos e,if_pos e]
 ·rw[if_neg e,if_neg e,if_neg e]
theorem EU {H:Hp}{t p:Addr}{o:HO}(h:H p=none):aH (del H t) (del (upd H p o) t):=fun b u e=>by obtain⟨j,q⟩:=dZ e;exact eZ (by rw[aB (aE j h)];exact j) q
theorem j9 {H H':Hp}{t:Addr}(s:aH H H'):aH (del H t) (del H' t):=fun b u e=>by obtain⟨q,j⟩:=dZ e;exact eZ (s _ _ q) j
theorem jB {H:Hp}{d:D}:∀{ds:List D} {vs:List V},Reps H (ds++[d]) vs->∃us v,vs=us++[v]/\Reps H ds us/\bD H d v
 | [],vs,⟨v,r,e,h,h'⟩=>by
  cases (show r=[]from h');exact⟨[],v,e,rfl,h⟩
 | c::ds,vs,⟨v,r,e,h,h'⟩=>by obtain⟨us,u,B,q,j⟩:=jB (ds:=ds) h';exact⟨v::us,u,by rw[e,B];rfl,⟨v,us,rfl,h,q⟩,j⟩
noncomputable def tp (r:D×Nat):D:=.tup [r.1,.int r.2]
noncomputable def SU (g t:Addr)(v:V)(q:cL)(sm:bM)(os:aW)(H:Hp)(n:Nat)(σ:St)(j:Hp):Prop:=∃(ps:List (D×Nat)) (vs:List V) (o3 o4:Option V),σ=[some (.ref g),some v,some (.ref t),o3,o4]/\j t=some (.lst vs)/\aH H (del j t) /\
 Reps (del j t) (ps.map tp) vs/\(∀r∈ps,bN q sm os r.1/\lvs r.1<=100/\r.2+depD r.1<=100)/\ndss (ps.map (·.1))=n/\n<=1000
noncomputable def SV (t:Addr)(ds:List D)(k:Nat)(G:Hp)(i:Nat)(j:List V)(σ:St)(q:Hp):Prop:=∃B:Option V,σ=[B,some (.int k)]/\aH G q/\Reps (del q t) ((ds.reverse.take i).map fun d=>tp (d,k+1)) j
theorem DC {H:Hp}{t:Addr}(h:H t=none){j:Hp}(s:aH H j):aH H (del j t):=fun b u e=>eZ (s _ _ e) (aE e h)
theorem ET {H j:Hp}{t:Addr}(s:aH H (del j t)):aH H j:=fun b u e=>(dZ (s _ _ e)).1
noncomputable def xH (K:PySem.W.Frag)(C:Addr):Sp:=fun vs H Q _=>∃(g:Addr) (fx:cL) (sm:bM) (os:aW) (d:D) (v:V),vs=[.ref g,v]/\iK K C fx sm H g/\bW fx sm/\(∀x∈os,cF x)/\bD H d v/\bN fx sm os d/\lvs d<=100/\depD d<=100/\nds d<=1000/\∀H',aH H H'->Q .non H'
theorem JE {f C:Addr}{fd:FuncData}(F:gU K "check_term" "check_term" dQ f fd)(T:Txt mg)(O_is_built:cK P w K mg base a0 2 "is_built" (xI K C)):cA P w K mg base a0 3 f fd kK (xH K C):=by
 refine F.ok g9 (fun vs H Q E h=>?_) (fun cdv A outer s H vs Q E hr h=>?_)
 ·obtain⟨g,fx,sm,os,d,v,rfl,_⟩:=h;rfl
 ·obtain⟨g,fx,sm,os,d,v,rfl,sg,so,ho,rep,tm,Z,d100,B,q⟩:=h;have hu:=hr.units
  refine⟨_,(aF (aY (i:=2) g9.nd rfl (Or.inl rfl) (cI (aA (fI (aA (pv 1) (aA aJ aC))) aC)))
   (aG (nV PassesOwn.never (aX K rfl (pv 2) (fun _=>rfl)) (aF (sA (pF PySem.F.plainAttrs_list PySem.F.slot_list_pop PySem.F.type_list_pop CN (pv 2)) (IH rfl (nX (bQ (i:=3) g9.nd rfl (Or.inl rfl)) (nX (bQ (i:=4) g9.nd rfl (Or.inr rfl)) D2))))
   (aF (bK (PW.pt (iU (aV zV (pv 4) (gO T.c_DEEPEST rfl) (nomark _)) (h8 (dC (aX K rfl (aM O_is_built (hr.mono (by decide)) pass0 rfl (aA (pv 0) (aA (pv 3) aC))) (fun _=>rfl)))))) (aG eN) aU)
   (aG (bK (dC (aX K rfl (aK aL rfl T.n_isinstance rfl (aA (pv 3) (aA (bU (v:=V.ty "str") rfl T.n_str rfl rfl) aC))) (fun _=>rfl))) (aG (cJ (jC PySem.F.plainAttrs_list PySem.F.slot_list_extend PySem.F.type_list_extend x0 (pv 2) (aA (iI rfl (bJ.by (N:=kQ) (names:=(aD dQ).names) (N':=["part","depth"]) (src:=[none,some 4]) (by decide +kernel) rfl rfl) (dM K rfl (vG DZ (pv 3) gK (fC aJ) (fC (NZ HG aJ)))) (fun _ _ _ _=>(bQ (i:=0) (show List.Nodup (["part","depth"]:aW)by decide +kernel) rfl (Or.inl rfl))) (fun _ _ _ _=>fB) (fun _ _ _ _=>(fI (aA (pv 0) (aA (bO bV (pv 1) aJ) aC))))) aC)))) aU))))))),?_⟩
  simp only[kQ];clear hr F T hu O_is_built;have keep:=aI q (aI sg (aI so (aI ho (aI rep (aI tm (aI Z (aI d100 B)))))));clear q sg so ho rep tm Z d100 B
  walk_at "rd"
  obtain⟨q,sg,so,ho,rep,tm,Z,d100,B⟩:=keep;refine⟨by decide,fun p hp=>⟨by decide,fun t ht=>?_⟩⟩;have s1:aH H (upd H p (.tup [v,.int 0])):=aH.upd hp;have L:upd H p (.tup [v,.int 0]) p=some (.tup [v,.int 0]):=upd_same;generalize upd H p (.tup [v,.int 0])=H1 at s1 L ht⊢;have ht0:H t=none:=s1.free ht;have e1:del (upd H1 t (.lst [.ref p])) t=del H1 t:=yS;have sd:aH H (del H1 t):=DC ht0 s1;refine HD (SU g t v fx sm os H) (nds d) ⟨[(d,0)],[.ref p],none,none,rfl,upd_same,by rw[e1];exact sd,?_,?_,by simp[ndss],B⟩ ?_
  ·rw[e1];exact⟨.ref p,[],rfl,⟨p,_,rfl,eZ L (aE L ht),v,_,rfl,bD.same sd rep,.int 0,[],rfl,rfl,rfl⟩,rfl⟩
  ·intro r hr;rw[List.mem_singleton.mp hr];exact⟨tm,Z,by simpa using d100⟩
  ·rintro n σ H2 ⟨ps,vs,o3,o4,rfl,h2,sH,j,ok,rfl,I⟩ R hT hF;rcases List.eq_nil_or_concat ps with rfl|⟨ps',r,rfl⟩
   ·have:vs=[]:=j;subst this;exact⟨_,rfl,false,.inl ⟨[],fA.of h2,rfl⟩,hF H2 (q _ (ET sH))⟩
   ·rw[List.concat_eq_append]at j ok I hT;rw[List.map_append,List.map_cons,List.map_nil]at j I hT;obtain⟨us,u,rfl,reps',ru⟩:=jB j;obtain⟨a,_,rfl,ha,x,_,rfl,rx,_,_,rfl,e2,e3⟩:=ru;cases e2;cases (show _=[]from e3);obtain⟨tmr,lr,dr⟩:=ok r (by simp);have keep:=aI q (aI sg (aI so (aI ho (aI sH (aI reps' (aI ok (aI I (aI h2 (aI ha (aI rx (aI tmr (aI lr dr))))))))))));refine⟨_,rfl,true,.inl ⟨_,fA.of h2,by simp⟩,hT H2 ?_⟩;clear q sg so ho sH j ok I hT hF rep tm Z d100 B s1 L ht ht0 e1 sd h2 reps' ha rx tmr lr dr e3
    walk_at "rd"
    obtain⟨q,sg,so,ho,sH,j,ok,I,h2,ha,rx,tmr,lr,dr⟩:=keep;have hat:H2 a=some (.tup [x,.int r.2])/\a≠t:=dZ ha;refine⟨tyL h2,.ref a,by simp,a,rfl,[x,.int r.2],hZ.of (by rw[aB hat.2];exact hat.1),rfl,x,_,rfl,_,_,rfl,rfl,r.2,rfl,?_⟩;rw[if_neg (by omega),List.dropLast_concat];have e3:del (upd H2 t (.lst us)) t=del H2 t:=yS;have h3:upd H2 t (.lst us) t=some (.lst us):=upd_same;rw[←e3]at sH j rx;generalize upd H2 t (.lst us)=H3 at e3 h3 sH j rx⊢;have nl:us.length<=1000:=by have:=Reps.len j;rw[List.length_map]at this;have h1:=j8 (ps'.map (·.1));rw[List.length_map]at h1;rw[gQ]at I;omega
    refine⟨g,fx,sm,os,r.1,x,rfl,sg.same (ET sH),so,ho,bD.same (tN _ _) rx,tmr,lr,fun H4 s4=>⟨true,rfl,?_⟩⟩;rw[if_neg (by decide)];have h4:=s4 _ _ h3;have sd4:=j9 (t:=t) s4;have sH4:=sH.trans sd4;have reps4:=Reps.same sd4 j;have rx4:=bD.same sd4 rx;have rest:∀r'∈ps',bN fx sm os r'.1/\lvs r'.1<=100/\r'.2+depD r'.1<=100:=fun r' hr'=>ok r' (List.mem_append_left _ hr');rw[gQ]at I⊢;rcases BS tmr with⟨y,ey,hy⟩|⟨n,ds,hd,hh,tms⟩
    ·rw[ey]at rx4;cases (show x = .str y from rx4);refine⟨true,rfl,?_⟩;rw[if_neg (by decide)];exact⟨_,by rw[ndss,ndss];have:=rC r.1;omega,ps',us,_,_,rfl,h4,sH4,reps4,rest,rfl,by omega⟩
    ·obtain⟨va,U,rfl,hbb,hseq,res⟩:∃va U,x = .ref va/\isV H4 (.ref va) (.ty "str")=some false/\fL H4 va (.str n::U)/\Reps (del H4 t) ds U:=by
      rcases hd with e|e
      ·rw[e]at rx4;obtain⟨a,vs,rfl,ha,_,U,rfl,e1,r⟩:=rx4;cases e1;exact⟨a,U,rfl,mY (dZ ha).1,.inr (dZ ha).1,r⟩
      ·rw[e]at rx4;obtain⟨a,vs,rfl,ha,_,U,rfl,e1,r⟩:=rx4;cases e1;exact⟨a,U,rfl,sY (dZ ha).1,.inl (dZ ha).1,r⟩
     have hnd:nds r.1=1+ndss ds:=by rcases hd with e|e <;> rw[e,nds]
     have hdp:depD r.1=depDs ds+1:=by
      rcases hd with e|e
      ·rw[e,depD,depDs,show depD (.str n)=0 from rfl];omega
      ·rw[e,depD,depDs,show depD (.str n)=0 from rfl];omega
     have hlv:lvs r.1=lvss ds:=by rcases hd with e|e <;> rw[e,lvs]
     refine⟨false,hbb,?_⟩;rw[if_pos rfl];refine⟨tyL h4,_,rfl,0,rfl,1,rfl,-1,rfl,rfl,rfl,rfl,va,_,rfl,hseq,by simp,fun b o hb ho=>?_⟩;rw[vC]at ho;refine⟨b,rfl,U.reverse,by rcases ho with⟨rfl,_⟩|⟨rfl,_⟩;exact .inl upd_same;exact .inr upd_same,fun J hJ=>?_⟩;have s5:aH H4 (upd H4 b o):=aH.upd hb;have hb5:upd H4 b o b=some o:=upd_same;have nbt:b≠t:=(aE h4 hb).symm;generalize upd H4 b o=H5 at s5 hb5 hJ⊢;refine dP hJ (SV t ds r.2 H5) ⟨none,rfl,aH.refl _,rfl⟩ ?_ ?_ ?_
     ·rintro i S σ H' _ ⟨_,_,s6,_⟩;rw[hb5,s6 _ _ hb5]
     ·rintro i y S σ H6 hy ⟨o0,rfl,s6,G⟩;obtain⟨e,he,re⟩:=Reps.get (Reps.rev res) hy;have la:=Reps.len G;have h1:=j8 ds;refine⟨_,rfl,_,rfl,.inl ⟨_,rfl,(by decide:2<=sizeLine),fun p1 L=>⟨Nat.lt_of_le_of_lt (m:=1000) ?_ (by decide),_,rfl,s6.trans (aH.upd L),?_⟩⟩⟩
      ·rw[List.length_map,List.length_take,List.length_reverse]at la;rw[ndss,ndss]at I;omega
      ·have np:p1≠t:=(aE (s6 _ _ (s5 _ _ h4)) L).symm;have sm5:aH (del H4 t) (del (upd H6 p1 (.tup [y,.int (r.2+1)])) t):=j9 ((s5.trans s6).trans (aH.upd L));rw[aZ he,List.map_append];have rp:bD (del (upd H6 p1 (.tup [y,.int (r.2+1)])) t) (tp (e,r.2+1)) (.ref p1):=⟨p1,_,rfl,eZ upd_same np,y,_,rfl,bD.same sm5 re,_,[],rfl,rfl,rfl⟩
       exact Reps.snoc rp (Reps.same (EU L) G)
     ·rintro S σ H6 ⟨o0,rfl,s6,G⟩ l hl;have la:=Reps.len G;have lr':=Reps.len res;have h1:=j8 ds;have h6:upd H6 l (.lst S) t=some (.lst us):=by rw[aB (aE (s6 _ _ (s5 _ _ h4)) hl)];exact s6 _ _ (s5 _ _ h4)
      rw[List.length_reverse,lr',←List.length_reverse (as:=ds),List.take_length]at G;rw[List.length_map,List.length_take,List.length_reverse]at la;rw[ndss,ndss]at I;have s7:aH H4 (upd H6 l (.lst S)):=(s5.trans s6).trans (aH.upd hl);have e7:del (upd (upd H6 l (.lst S)) t (.lst (us++S))) t=del (upd H6 l (.lst S)) t:=yS;refine⟨t,l,us,S,rfl,rfl,h6,.inl upd_same,Nat.le_trans (m:=2000) (by omega) (by decide),ndss (ps'.map (·.1))+ndss ds,by rw[ndss,ndss];omega,ps'++ds.reverse.map (fun d=>(d,r.2+1)),us++S,_,_,rfl,upd_same,?_,?_,?_,?_,by omega⟩
      ·rw[e7];exact sH4.trans (j9 s7)
      ·rw[e7,List.map_append,List.map_map];exact Reps.append (Reps.same (j9 s7) reps4) (Reps.same (EU hl) G)
      ·intro r' hr';rcases List.mem_append.mp hr' with h|h
       ·exact rest r' h
       ·obtain⟨e,he,rfl⟩:=List.mem_map.mp h;have he:=List.mem_reverse.mp he;obtain⟨i,hi⟩:=List.getElem?_of_mem he;have h2:=D9 hi;have h3:=iV hi;exact⟨tms.get hi,by show lvs e<=100;omega,by show r.2+1+depD e<=100;omega⟩
      ·rw[List.map_append,List.map_map,gQ];congr 1;rw[show((fun x:D×Nat=>x.1) ∘ fun d=>(d,r.2+1))=id from rfl,List.map_id,sK]
end
section
variable {P:Program}{w:World}{K:PySem.W.Frag}{mg:fM}{base:Heap}
mutual
noncomputable def Wk:D->Prop
 | .str _=>True
 | .tup (.str _::ds)=>Wks ds
 | .lst (.str _::ds)=>Wks ds
 | _=>False
noncomputable def Wks:List D->Prop
 | []=>True
 | d::ds=>Wk d/\Wks ds
end
mutual
noncomputable def wlk:D->List D
 | .tup (.str n::ds)=>.tup (.str n::ds)::wlks ds
 | .lst (.str n::ds)=>.lst (.str n::ds)::wlks ds
 | d=>[d]
noncomputable def wlks:List D->List D
 | []=>[]
 | d::ds=>wlk d++wlks ds
end
theorem uW:∀ds:List D,wlks ds=ds.flatMap wlk
 | []=>rfl
 | d::ds=>by rw[wlks,uW ds];rfl
theorem OD {d:D}(h:Wk d):(∃x,d = .str x)∨∃n ds,(d = .tup (.str n::ds)∨d = .lst (.str n::ds))/\Wks ds:=by
 unfold Wk at h;split at h
 ·exact .inl ⟨_,rfl⟩
 ·exact .inr ⟨_,_,.inl rfl,h⟩
 ·exact .inr ⟨_,_,.inr rfl,h⟩
 ·exact absurd h id
mutual
theorem N5:∀{d:D},Fl d->Wk d
 | .str x,h=>trivial
 | .tup (.str n::ds),h=>by unfold Wk;unfold Fl at h;exact ER h
 | .non,h | .bl _,h | .int _,h | .lst _,h | .tup [],h | .tup (.non::_),h | .tup (.bl _::_),h | .tup (.int _::_),h | .tup (.tup _::_),h | .tup (.lst _::_),h=>by unfold Fl at h;exact absurd h id
theorem ER:∀{ds:List D},Fls ds->Wks ds
 | [],_=>trivial
 | _::_,⟨a,b⟩=>⟨N5 a,ER b⟩
end
theorem Wks.app:∀{ds j:List D},Wks ds->Wks j->Wks (ds++j)
 | [],_,_,h=>h
 | _::_,_,⟨a,b⟩,h=>⟨a,Wks.app b h⟩
theorem Wks.rev:∀{ds:List D},Wks ds->Wks ds.reverse
 | [],h=>h
 | d::ds,⟨a,b⟩=>by rw[List.reverse_cons];exact Wks.app (Wks.rev b) ⟨a,trivial⟩
theorem Wks.unsnoc:∀{ds:List D} {d:D},Wks (ds++[d])->Wks ds/\Wk d
 | [],_,h=>⟨trivial,h.1⟩
 | _::_,_,⟨a,b⟩=>⟨⟨a,(Wks.unsnoc b).1⟩,(Wks.unsnoc b).2⟩
mutual
theorem q9:∀d:D,(wlk d).length<=nds d
 | .tup (.str n::ds)=>by rw[wlk,nds,List.length_cons];have:=rJ ds;omega
 | .lst (.str n::ds)=>by rw[wlk,nds,List.length_cons];have:=rJ ds;omega
 | .non | .bl _ | .int _ | .str _ | .tup [] | .lst [] | .tup (.non::_) | .tup (.bl _::_) | .tup (.int _::_) | .tup (.tup _::_) | .tup (.lst _::_) | .lst (.non::_) | .lst (.bl _::_) | .lst (.int _::_) | .lst (.tup _::_) | .lst (.lst _::_)=>by unfold wlk;rw[List.length_singleton];exact rC _
theorem rJ:∀ds:List D,(wlks ds).length<=ndss ds
 | []=>Nat.le_refl _
 | d::ds=>by rw[wlks,ndss,List.length_append];have:=q9 d;have:=rJ ds;omega
end
noncomputable def nL:Sp:=fun vs H Q _=>∃(d:D) (v:V) (G:Hp),vs=[v]/\aH G H/\bD G d v/\Wk d/\nds d<=1000/\∀(l:Addr) (ws:List V) (H':Hp),aH H H'->H l=none->H' l=some (.lst ws)->Reps G (wlk d) ws->Q (.ref l) H'
noncomputable def R7 (v:V)(q t:Addr)(d:D)(H G:Hp)(n:Nat)(σ:St)(j:Hp):Prop:=∃(fs ts:List D) (ws us:List V) (o:Option V),σ=[some v,some (.ref q),some (.ref t),o]/\j q=some (.lst ws)/\j t=some (.lst us)/\aH H j/\Reps G fs ws/\Reps G ts us/\Wks ts /\
 fs++ts.reverse.flatMap wlk=wlk d/\ndss ts=n/\n<=1000
theorem FQ {f:Addr}{fd:FuncData}(F:gU K "walked" "walked" iS f fd)(T:Txt mg):cA P w K mg base a0 1 f fd tX nL:=by
 refine F.ok lW (fun vs H Q E h=>?_) (fun cdv A outer s H vs Q E hr h=>?_)
 ·obtain⟨d,v,G,rfl,_⟩:=h;rfl
 ·obtain⟨d,v,G,rfl,sG,rep,wk,j,q⟩:=h;have hu:=hr.units
  refine⟨_,(aF (aY (i:=1) lW.nd rfl (Or.inl rfl) (cI aC))
   (aF (aY (i:=2) lW.nd rfl (Or.inl rfl) (cI (aA (pv 0) aC)))
   (aF (nV PassesOwn.never (aX K rfl (pv 2) (fun _=>rfl)) (aF (aY (i:=3) lW.nd rfl (Or.inl rfl) (pF PySem.F.plainAttrs_list PySem.F.slot_list_pop PySem.F.type_list_pop CN (pv 2)))
   (aF (cJ (jC PySem.F.plainAttrs_list PySem.F.slot_list_append PySem.F.type_list_append fF (pv 1) (aA (pv 3) aC)))
   (aG (bK (dC (aX K rfl (aK aL rfl T.n_isinstance rfl (aA (pv 3) (aA (bU (v:=V.ty "str") rfl T.n_str rfl rfl) aC))) (fun _=>rfl))) (aG (cJ (jC PySem.F.plainAttrs_list PySem.F.slot_list_extend PySem.F.type_list_extend x0 (pv 2) (aA (vG DZ (pv 3) gK (fC aJ) (fC (NZ HG aJ))) aC)))) aU)))))
   (aG (aQ (pv 1)))))),?_⟩
  simp only[BC];clear hr F T hu;have keep:=aI q (aI rep (aI wk (aI j sG)));clear q rep wk j sG
  walk_at "rd"
  obtain⟨q,rep,wk,j,sG⟩:=keep;refine⟨by decide,fun fo L=>⟨by decide,fun t ht=>?_⟩⟩;have nft:fo≠t:=aE upd_same ht;have Z:H t=none:=(aH.upd L).free ht;refine HD (R7 v fo t d H G) (nds d) ⟨[],[d],[],[v],none,rfl,by rw[aB nft];exact upd_same,upd_same,(aH.upd L).trans (aH.upd ht),rfl,⟨v,[],rfl,rep,rfl⟩,⟨wk,trivial⟩,by simp,by simp[ndss],j⟩ ?_;rintro n σ H2 ⟨fs,ts,ws,us,o,rfl,h1,h2,sH,rf,rt,wt,e,rfl,U⟩ R hT hF;rcases List.eq_nil_or_concat ts with rfl|⟨N,r,rfl⟩
  ·cases (show us=[]from rt);refine⟨_,rfl,false,.inl ⟨[],fA.of h2,rfl⟩,hF H2 ⟨_,rfl,?_⟩⟩;have e:fs=wlk d:=by simpa using e
   rw[e]at rf;exact q fo ws H2 sH L h1 rf
  ·rw[List.concat_eq_append]at rt wt e U hT;obtain⟨B,u,rfl,rt',ru⟩:=jB rt;obtain⟨wt',wr⟩:=wt.unsnoc;have keep:=aI q (aI h1 (aI h2 (aI sH (aI rf (aI rt' (aI ru (aI wt' (aI wr (aI e (aI U (aI L (aI Z (aI j sG)))))))))))));refine⟨_,rfl,true,.inl ⟨_,fA.of h2,by simp⟩,hT H2 ?_⟩;clear q h1 h2 sH rf rt rt' ru wt wt' wr e U hT hF rep wk j L ht Z sG
   walk_at "rd"
   obtain⟨q,h1,h2,sH,rf,rt,ru,wt,wr,e,U,L,Z,j,sG⟩:=keep;rw[List.dropLast_concat];rw[List.reverse_append,List.reverse_cons,List.reverse_nil,List.nil_append,List.singleton_append,List.flatMap_cons]at e;have h3:upd H2 t (.lst B) t=some (.lst B):=upd_same;have f3:upd H2 t (.lst B) fo=some (.lst ws):=by rw[aB nft];exact h1
   have s3:aH H (upd H2 t (.lst B)):=fun b o S=>by rw[aB (aE S Z)];exact sH _ _ S
   generalize upd H2 t (.lst B)=H3 at h3 f3 s3⊢;have h4:upd H3 fo (.lst (ws++[u])) t=some (.lst B):=by rw[aB nft.symm];exact h3
   have f4:upd H3 fo (.lst (ws++[u])) fo=some (.lst (ws++[u])):=upd_same;have s4:aH H (upd H3 fo (.lst (ws++[u]))):=fun b o S=>by rw[aB (aE S L)];exact s3 _ _ S
   have lf:=Reps.len rf;have lw:=congrArg List.length e;rw[List.length_append]at lw;have lt':=Reps.len rt;have hn:=j8 N;have hnr:nds r+ndss N<=1000:=by rw[gQ,ndss,ndss]at U;omega
   have rep2:Reps G (fs++[r]) (ws++[u]):=Reps.snoc ru rf;refine⟨tyL h2,u,by simp,tyL f3,ws,f3,Nat.lt_of_le_of_lt (m:=1000) (by have:=q9 d;omega) (by decide),?_⟩;generalize upd H3 fo (.lst (ws++[u]))=H4 at h4 f4 s4⊢;have sG4:=sG.trans s4;rw[gQ];rcases OD wr with⟨x,rfl⟩|⟨nm,ds,hd,wds⟩
   ·cases (show u = .str x from ru);refine⟨true,rfl,?_⟩;rw[if_neg (by decide)];refine⟨ndss N,by rw[ndss,ndss];have:=rC (.str x);omega,fs++[.str x],N,_,B,_,rfl,f4,h4,s4,rep2,rt,wt,?_,rfl,by omega⟩;rw[←e];show _=fs++([.str x]++_);rw[List.append_assoc]
   ·obtain⟨va,I,rfl,hbb,hseq⟩:∃va I,u = .ref va/\isV H4 (.ref va) (.ty "str")=some false/\fL H4 va (.str nm::I)/\Reps G ds I:=by
     rcases hd with rfl|rfl
     ·obtain⟨a,vs,rfl,ha,_,I,rfl,e1,r⟩:=ru;cases e1;exact⟨a,I,rfl,mY (sG4 _ _ ha),.inr (sG4 _ _ ha),r⟩
     ·obtain⟨a,vs,rfl,ha,_,I,rfl,e1,r⟩:=ru;cases e1;exact⟨a,I,rfl,sY (sG4 _ _ ha),.inl (sG4 _ _ ha),r⟩
    obtain⟨hseq,res⟩:=hseq;have hnd:nds r=1+ndss ds:=by rcases hd with rfl|rfl <;> rw[nds]
    have hwl:wlk r=r::wlks ds:=by rcases hd with rfl|rfl <;> rw[wlk]
    have h1:=j8 ds;have lr:=Reps.len res;refine⟨false,hbb,?_⟩;rw[if_pos rfl];refine⟨tyL h4,_,rfl,0,rfl,1,rfl,-1,rfl,rfl,rfl,rfl,va,_,rfl,hseq,by simp,fun b o S ho=>?_⟩;rw[vC]at ho;have h5:upd H4 b o t=some (.lst B):=by rw[aB (aE h4 S)];exact h4
    have f5:upd H4 b o fo=some (.lst (ws++[.ref va])):=by rw[aB (aE f4 S)];exact f4
    have s5:aH H (upd H4 b o):=s4.trans (aH.upd S);refine⟨t,b,B,I.reverse,rfl,rfl,h5,by rcases ho with⟨rfl,_⟩|⟨rfl,_⟩;exact .inl upd_same;exact .inr upd_same,Nat.le_trans (m:=2000) (by rw[List.length_reverse];omega) (by decide),ndss N+ndss ds,by rw[ndss,ndss];omega,fs++[r],N++ds.reverse,_,_,_,rfl,by rw[aB nft];exact f5,upd_same,?_,rep2,Reps.append rt (Reps.rev res),wt.app wds.rev,?_,by rw[gQ,sK],by omega⟩
    ·exact fun b o S=>by rw[aB (aE S Z)];exact s5 _ _ S
    ·rw[←e,hwl,List.reverse_append,List.reverse_reverse,List.flatMap_append,←uW];simp
noncomputable def mrk:D->M
 | .str x=>(sortS x,x,0)
 | .tup (.str n::ds)=>(2,n,ds.length+1)
 | _=>(0,"",0)
mutual
theorem EK:∀{d:D},Fl d->key d=(wlk d).map mrk
 | .str x,_=>by unfold key wlk;rfl
 | .tup (.str n::ds),h=>by unfold Fl at h;rw[key,wlk,AO h];rfl
 | .non,h | .bl _,h | .int _,h | .lst _,h | .tup [],h | .tup (.non::_),h | .tup (.bl _::_),h | .tup (.int _::_),h | .tup (.tup _::_),h | .tup (.lst _::_),h=>by unfold Fl at h;exact absurd h id
theorem AO:∀{ds:List D},Fls ds->keys ds=(wlks ds).map mrk
 | [],_=>rfl
 | d::ds,⟨a,b⟩=>by rw[keys,wlks,EK a,AO b,List.map_append]
end
mutual
theorem J7:∀{d:D},Fl d->∀e∈wlk d,Fl e
 | .str x,h=>by unfold wlk;intro e j;rw[List.mem_singleton.mp j];exact h
 | .tup (.str n::ds),h=>by
  rw[wlk];intro e j;obtain rfl|j:=List.mem_cons.mp j
  ·exact h
  ·exact EQ (by unfold Fl at h;exact h) e j
 | .non,h | .bl _,h | .int _,h | .lst _,h | .tup [],h | .tup (.non::_),h | .tup (.bl _::_),h | .tup (.int _::_),h | .tup (.tup _::_),h | .tup (.lst _::_),h=>by unfold Fl at h;exact absurd h id
theorem EQ:∀{ds:List D},Fls ds->∀e∈wlks ds,Fl e
 | [],_=>fun e j=>by cases j
 | d::ds,⟨a,b⟩=>fun e j=>by
  rw[wlks]at j;obtain j|j:=List.mem_append.mp j
  ·exact J7 a e j
  ·exact EQ b e j
end
noncomputable def mV (m:M):List V:=[.int m.1,.str m.2.1,.int m.2.2]
noncomputable def mD (m:M):D:=.tup [.int m.1,.str m.2.1,.int m.2.2]
noncomputable def BW:Sp:=fun vs H Q _=>∃(d:D) (v:V),vs=[v]/\bD H d v/\Fl d/\∀p,H p=none->Q (.ref p) (upd H p (.tup (mV (mrk d))))
theorem MH {f:Addr}{U:FuncData}(F:gU K "order_mark" "order_mark" eD f U)(T:Txt mg):cA P w K mg base a0 1 f U kJ BW:=by
 refine F.ok uM (fun vs H Q E h=>?_) (fun cdv A outer s H vs Q E L h=>?_)
 ·obtain⟨d,v,rfl,_⟩:=h;rfl
 ·obtain⟨d,v,rfl,rep,B,q⟩:=h;have I:=L.units
  refine⟨_,(aF (bK (aX K rfl (aK aL rfl T.n_isinstance rfl (aA (pv 0) (aA (bU (v:=V.ty "str") rfl T.n_str rfl rfl) aC))) (fun _=>rfl)) (aG (aQ (fI (aA (sC (aV (eJ I) (bP dN (pv 0) aJ (fun _ _=>rfl)) gM (nomark _)) aJ aJ) (aA (pv 0) (aA aJ aC)))))) aU)
   (aG (aQ (fI (aA aJ (aA (bP dN (pv 0) aJ (fun _ _=>rfl)) (aA (aK bH rfl T.n_len rfl (aA (pv 0) aC)) aC))))))),?_⟩
  simp only[oJ];clear L F T I;have keep:=aI q (aI rep B);clear q rep B
  walk_at "rd"
  obtain⟨q,rep,B⟩:=keep;rcases jL B with⟨x,rfl,S,N⟩|⟨nm,ds,rfl,fls⟩
  ·cases (show v = .str x from rep);refine⟨true,rfl,?_⟩;rw[if_pos rfl];have hz:x.length<=sizeLine:=Nat.le_trans (m:=20) (by rw[Array.length_toList]at N;exact N) (by decide);cases hc:x.cps.toList with
   | nil=>rw[hc]at S;simp at S
   | cons c r =>
    refine⟨.str ⟨#[c]⟩,by rw[yG hz,hc,atI_zero];rfl,?_⟩;rw[rEqD_ss];refine⟨_,rfl,?_⟩;have ec:decide ((⟨#[c]⟩:Str)=Str.ofString "?")=decide (c=63):=by
     have e2:Str.ofString "?" = ⟨#[63]⟩:=by decide +kernel
     rw[e2,Bool.eq_iff_iff];simp
    have Z:sortS x=if c=63 then 0 else 1:=by unfold sortS;rw[hc];simp
    rw[ec];by_cases h:c=63
    ·rw[if_pos (decide_eq_true h)];refine⟨by decide,fun p j=>?_⟩;have:Q (.ref p) (upd H p (.tup [.int (sortS x),.str x,.int 0])):=q p j;rw[Z,if_pos h]at this;exact this
    ·rw[if_neg (by simpa using h)];refine⟨by decide,fun p j=>?_⟩;have:Q (.ref p) (upd H p (.tup [.int (sortS x),.str x,.int 0])):=q p j;rw[Z,if_neg h]at this;exact this
  ·obtain⟨a,vs,rfl,G,_,vs',rfl,e1,r⟩:=rep;cases e1;have lr:=Reps.len r;refine⟨false,mY G,?_⟩;rw[if_neg (by decide)];refine⟨.str nm,by rw[ixV_t G,atI_zero],.int (ds.length+1),by rw[lenV_t G,List.length_cons,lr];rfl,by decide,fun p j=>?_⟩;exact q p j
noncomputable def spKey:Sp:=fun vs H Q _=>∃(d:D) (v:V),vs=[v]/\bD H d v/\Fl d/\nds d<=1000/\∀(l:Addr) (H':Hp),aH H H'->H l=none->bD (nw H H') (.lst ((key d).map mD)) (.ref l)->Q (.ref l) H'
noncomputable def SG (ds:List D)(H G:Hp)(i:Nat)(j:List V)(σ:St)(q:Hp):Prop:=∃B:Option V,σ=[B]/\aH G q/\Reps (nw H q) (((ds.take i).map mrk).map mD) j
theorem zP {H:Hp}{p:Addr}{m:M}(h:H p=some (.tup (mV m))):bD H (mD m) (.ref p):=⟨p,_,rfl,h,.int _,_,rfl,rfl,.str _,_,rfl,rfl,.int _,[],rfl,rfl,rfl⟩
theorem D6 {H q j:Hp}(s:aH q j):aH (nw H q) (nw H j):=fun a o e=>by obtain⟨G,B⟩:=fU.mp e;exact fU.mpr ⟨G,s _ _ B⟩
theorem PQ {f:Addr}{fd:FuncData}(F:gU K "order_key" "order_key" eA f fd)(T:Txt mg)(O_order_mark:cK P w K mg base a0 1 "order_mark" BW)(O_walked:cK P w K mg base a0 1 "walked" nL):cA P w K mg base a0 2 f fd lI spKey:=by
 refine F.ok xK (fun vs H Q E h=>?_) (fun cdv A outer s H vs Q E hr h=>?_)
 ·obtain⟨d,v,rfl,_⟩:=h;rfl
 ·obtain⟨d,v,rfl,rep,L,j,q⟩:=h;have hu:=hr.units
  refine⟨_,(aF (bK (aX K rfl (aK aL rfl T.n_isinstance rfl (aA (pv 0) (aA (bU (v:=V.ty "str") rfl T.n_str rfl rfl) aC))) (fun _=>rfl)) (aG (aQ (cI (aA (aM O_order_mark (hr.mono (by decide)) pass0 rfl (aA (pv 0) aC)) aC)))) aU)
   (aG (aQ (iI rfl (bJ.by (N:=lQ) (names:=(aD eA).names) (N':=["at"]) (src:=[none]) (by decide +kernel) rfl rfl) (dM K rfl (aM O_walked (hr.mono (by decide)) pass0 rfl (aA (pv 0) aC))) (fun _ _ _ _=>(bQ (i:=0) (show List.Nodup (["at"]:aW)by decide +kernel) rfl (Or.inl rfl))) (fun _ _ _ _=>fB) (fun _ _ _ _=>(aM O_order_mark (hr.mono (by decide)) pass0 rfl (aA (pv 0) aC))))))),?_⟩
  simp only[lQ];clear hr F T hu O_order_mark O_walked;have keep:=aI q (aI rep (aI L j));clear q rep L j
  walk_at "rd"
  obtain⟨q,rep,L,j⟩:=keep;rcases jL L with⟨x,rfl,h1,h2⟩|⟨nm,ds,rfl,fls⟩
  ·cases (show v = .str x from rep);refine⟨true,rfl,?_⟩;rw[if_pos rfl];refine⟨_,_,rfl,rep,L,fun p I=>⟨by decide,fun l G=>q l _ ((aH.upd I).trans (aH.upd G)) ((aH.upd I).free G) ?_⟩⟩;have hk:key (.str x)=[mrk (.str x)]:=by unfold key;rfl
   rw[hk];exact⟨l,[.ref p],rfl,fU.mpr ⟨(aH.upd I).free G,upd_same⟩,.ref p,[],rfl,zP (fU.mpr ⟨I,by rw[aB (aE upd_same G)];exact upd_same⟩),rfl⟩
  ·obtain⟨b,hb⟩:∃b,isV H v (.ty "str")=some b/\b=false:=by obtain⟨a,vs,rfl,ha,_⟩:=rep;exact⟨false,mY ha,rfl⟩
   refine⟨b,hb.1,?_⟩;rw[if_neg (by rw[hb.2];decide)];refine⟨_,v,H,rfl,aH.refl _,rep,N5 L,j,fun l0 ws H1 U hl0 h1 Z=>⟨l0,rfl,ws,.inl h1,fun J hJ=>?_⟩⟩;have lw:=Reps.len Z;have lk:=q9 (.tup (.str nm::ds));refine dP hJ (SG (wlk (.tup (.str nm::ds))) H H1) ⟨none,rfl,aH.refl _,rfl⟩ (fun i S σ H' _ ⟨_,_,s2,_⟩=>by rw[h1,s2 _ _ h1]) ?_ ?_
   ·rintro i x S σ H2 hx ⟨o0,rfl,s2,B⟩;obtain⟨e,he,re⟩:=Reps.get Z hx;have la:=Reps.len B;refine⟨_,rfl,e,x,rfl,bD.same (U.trans s2) re,J7 L e (List.mem_of_getElem? he),fun p I=>⟨Nat.lt_of_le_of_lt (m:=1000) ?_ (by decide),_,rfl,s2.trans (aH.upd I),?_⟩⟩
    ·rw[List.length_map,List.length_map,List.length_take]at la;omega
    ·rw[aZ he,List.map_append,List.map_append];exact Reps.snoc (zP (fU.mpr ⟨(U.trans s2).free I,upd_same⟩)) (Reps.same (D6 (aH.upd I)) B)
   ·rintro S σ H2 ⟨o0,rfl,s2,B⟩ l G;rw[lw,List.take_length]at B;refine q l _ ((U.trans s2).trans (aH.upd G)) ((U.trans s2).free G) ?_;rw[EK L];exact⟨l,S,rfl,fU.mpr ⟨(U.trans s2).free G,upd_same⟩,Reps.same (D6 (aH.upd G)) B⟩
noncomputable def opP (n:Str)(d:D):List D:=match d with
 | .tup (.str m::j)=>if m=n then j else [d]
 | d=>[d]
noncomputable def oW:Sp:=fun vs H Q _=>∃(n:Str) (d:D) (v:V),vs=[.str n,v]/\bD H d v/\Fl d/\∀(l:Addr) (ws:List V) (H':Hp),aH H H'->H l=none->H' l=some (.lst ws)->Reps H (opP n d) ws->Q (.ref l) H'
theorem CF {f:Addr}{Z:FuncData}(F:gU K "opened" "opened" iT f Z)(T:Txt mg):cA P w K mg base a0 1 f Z tZ oW:=by
 refine F.ok FG (fun vs H Q E h=>?_) (fun cdv A outer s H vs Q E S h=>?_)
 ·obtain⟨n,d,v,rfl,_⟩:=h;rfl
 ·obtain⟨n,d,v,rfl,rep,I,q⟩:=h;have N:=S.units
  refine⟨_,(aF (bK (PW.pt (rZ (aX K rfl (aK aL rfl T.n_isinstance rfl (aA (pv 1) (aA (bU (v:=V.ty "tuple") rfl T.n_tuple rfl rfl) aC))) (fun _=>rfl)) (nU (aV (eJ N) (bP dN (pv 1) aJ (fun _ _=>rfl)) (pv 0) (nomark _))))) (aG (aQ (cC tR rfl T.n_list rfl (aA (gN kX (pv 1) (fC aJ) gK) aC)))) aU)
   (aG (aQ (cI (aA (pv 1) aC))))),?_⟩
  simp only[BD];clear S F T N;have keep:=aI q (aI rep I);clear q rep I
  walk_at "rd"
  obtain⟨q,rep,I⟩:=keep;have j:opP n d=[d]->1<=sizeLine/\∀(p:Addr),H p=none->Q (V.ref p) (upd H p (HO.lst [v])):=fun e=>⟨by decide,fun p G=>q p [v] _ (aH.upd G) G upd_same (by rw[e];exact⟨v,[],rfl,rep,rfl⟩)⟩
  rcases jL I with⟨x,rfl,h1,h2⟩|⟨nm,ds,rfl,fls⟩
  ·cases (show v = .str x from rep);exact⟨false,rfl,by rw[if_neg (by decide)];exact j rfl⟩
  ·obtain⟨a,vs,rfl,L,_,B,rfl,e1,r⟩:=id rep;cases e1;refine⟨true,yI L,?_⟩;rw[if_pos rfl];refine⟨.str nm,by rw[ixV_t L,atI_zero],?_⟩;rw[rEqD_ss];refine⟨_,rfl,?_⟩;by_cases e:nm=n
   ·rw[if_pos (decide_eq_true e)];refine⟨a,rfl,_,.inr L,fun _ h=>?_,fun p o G ho=>?_⟩
    ·have:=h.1;simp[HT.sIx]at this
    ·rw[yT]at ho;refine⟨B,by rcases ho with⟨rfl,_⟩|⟨rfl,_⟩;rw[seqV_l upd_same];rw[seqV_t upd_same],fun l U=>q l B _ ((aH.upd G).trans (aH.upd U)) ((aH.upd G).free U) upd_same ?_⟩;show Reps H (if nm=n then ds else [.tup (.str nm::ds)]) B;rw[if_pos e];exact r
   ·rw[if_neg (by simpa using e)];exact j (by show(if nm=n then ds else [.tup (.str nm::ds)])=_;rw[if_neg e])
end
end Lw
namespace L2
open PySem PySem.Spec PyProof.Rows PySem.W
noncomputable def iO (n:Nat)(lt:Nat->Nat->Bool){α:Type}:KasT α->(α->Prop)->Prop
 | .ret a,Q=>Q a
 | .ask i j k,Q=>i<n/\j<n/\iO n lt (k (lt i j)) Q
theorem iO.bind {n:Nat}{lt:Nat->Nat->Bool}{α β:Type}{f:α->KasT β}{Q:β->Prop}{R:α->Prop}(q:∀a,R a->iO n lt (f a) Q):∀{t:KasT α},iO n lt t R->iO n lt (t.bind f) Q
 | .ret a,h=>q a h
 | .ask i j k,h=>⟨h.1,h.2.1,iO.bind q h.2.2⟩
theorem iO.mono {n:Nat}{lt:Nat->Nat->Bool}{α:Type}{Q R:α->Prop}(q:∀a,R a->Q a):∀{t:KasT α},iO n lt t R->iO n lt t Q
 | .ret a,h=>q a h
 | .ask i j k,h=>⟨h.1,h.2.1,iO.mono q h.2.2⟩
structure RC (n:Nat)(lt:Nat->Nat->Bool):Prop where
 irr:∀i,lt i i=false
 asym:∀i j,lt i j=true->lt j i=false
 tr:∀i j k,lt j i=false->lt k j=false->lt k i=false
section
variable {n:Nat}{lt:Nat->Nat->Bool}
noncomputable def le (lt:Nat->Nat->Bool)(i j:Nat):Prop:=lt j i=false
noncomputable abbrev pa (p:Array Nat)(i:Nat):Nat:=p.getD i 0
noncomputable def Up (lt:Nat->Nat->Bool)(p:Array Nat)(k:Nat):Prop:=∀i j,i<=j->j<k->le lt (pa p i) (pa p j)
noncomputable def Dn (lt:Nat->Nat->Bool)(p:Array Nat)(k:Nat):Prop:=∀i j,i<=j->j<k->le lt (pa p j) (pa p i)
noncomputable def Gd (n:Nat)(p:Array Nat):Prop:=p.Perm (List.range n).toArray
theorem Gd.size {p:Array Nat}(h:Gd n p):p.size=n:=by have:=h.size_eq;simpa using this
theorem Gd.inn {p:Array Nat}(h:Gd n p)(q:1<=n)(i:Nat):pa p i<n:=by
 by_cases j:i<p.size
 ·have e:pa p i=p[i]:=by simp[pa,Array.getD,j]
  rw[e];have B:p[i]∈p.toList:=by simp
  have:=(Array.perm_iff_toList_perm.mp h).mem_iff.mp B
  simpa using this
 ·have e:pa p i=0:=by simp[pa,Array.getD,j]
  rw[e];exact q
theorem zT {p q:Array Nat}{i j:Nat}(h:p[i]?=q[j]?):pa p i=pa q j:=by unfold pa;rw[Array.getD_eq_getD_getElem?,Array.getD_eq_getD_getElem?,h]
theorem kG {p:Array Nat}{i j:Nat}(q:j<=p.size)(k:Nat):pa (kas_rev p i j) k=if i<=k/\k<j then pa p (i+j - 1 - k)else pa p k:=by
 have e:=getElem?_mirror_all (xs:=p) (i:=i) q k;unfold kas_rev;by_cases h:i<=k/\k<j
 ·rw[if_pos h]at e⊢;exact zT e
 ·rw[if_neg h]at e⊢;exact zT e
theorem O6 {p:Array Nat}{src d:Nat}(B:src<p.size)(hd:d<=src)(k:Nat):pa (bubble p src d) k=if k=src - d then pa p src else if src - d<k/\k<=src then pa p (k - 1)else pa p k:=by
 have e:=getElem?_bubble (xs:=p) B d hd k;by_cases q:k=src - d
 ·rw[if_pos q]at e⊢;exact zT e
 ·rw[if_neg q]at e⊢;by_cases j:src - d<k/\k<=src
  ·rw[if_pos j]at e⊢;exact zT e
  ·rw[if_neg j]at e⊢;exact zT e
theorem Gd.rev {p:Array Nat}(h:Gd n p)(i j:Nat):Gd n (kas_rev p i j):=(mirror_perm p i j _).trans h
theorem Gd.bub {p:Array Nat}(h:Gd n p)(i j:Nat):Gd n (bubble p i j):=(bubble_perm p i j).trans h
variable (O:RC n lt)
include O
theorem RC.le_refl (i:Nat):le lt i i:=O.irr i
theorem RC.le_trans {i j k:Nat}(a:le lt i j)(b:le lt j k):le lt i k:=O.tr i j k a b
theorem RC.le_of {i j:Nat}(h:lt i j=true):le lt i j:=O.asym i j h
theorem Up.snoc {p:Array Nat}{k:Nat}(h:Up lt p k)(I:1<=k)(e:le lt (pa p (k - 1)) (pa p k)):Up lt p (k+1):=by
 intro i j B L;by_cases q:j<k
 ·exact h i j B q
 ·have:j=k:=by omega
  subst this;by_cases G:i=j
  ·subst G;exact O.le_refl _
  ·exact O.le_trans (h i (j - 1) (by omega) (by omega)) e
theorem Dn.snoc {p:Array Nat}{k:Nat}(h:Dn lt p k)(I:1<=k)(e:le lt (pa p k) (pa p (k - 1))):Dn lt p (k+1):=by
 intro i j B L;by_cases q:j<k
 ·exact h i j B q
 ·have:j=k:=by omega
  subst this;by_cases G:i=j
  ·subst G;exact O.le_refl _
  ·exact O.le_trans e (h i (j - 1) (by omega) (by omega))
theorem tV {p:Array Nat}(g:Gd n p)(j:1<=n):∀(f k:Nat),1<=k->Up lt p k->iO n lt (kas_asc p f k) fun m=>k<=m/\m<=k+f/\Up lt p m/\(m<k+f->lt (pa p m) (pa p (m - 1))=true)
 | 0,k,q,h=>⟨Nat.le_refl _,Nat.le_refl _,h,fun z=>absurd z (Nat.lt_irrefl _)⟩
 | f+1,k,q,h=>by
  refine⟨g.inn j _,g.inn j _,?_⟩;cases c:lt (p.getD k 0) (p.getD (k - 1) 0)with
  | true =>
   dsimp only;rw[if_pos rfl];exact⟨Nat.le_refl _,by omega,h,fun _=>c⟩
  | false =>
   dsimp only;rw[if_neg (by decide)];exact(tV g j f (k+1) (by omega) (Up.snoc O h q c)).mono fun m ⟨a,b,d,e⟩=>⟨by omega,by omega,d,fun z=>e (by omega)⟩
theorem m6 {p:Array Nat}{k:Nat}(g:Gd n p)(G:1<=n)(B:Up lt p k):∀(f l r:Nat),r - l<=f->l<=r->r<=k->(∀i,i<l->le lt (pa p i) (pa p k))->(∀i,r<=i->i<k->le lt (pa p k) (pa p i)) ->
  iO n lt (kas_place p k f l r) fun m=>m<=k/\(∀i,i<m->le lt (pa p i) (pa p k))/\(∀i,m<=i->i<k->le lt (pa p k) (pa p i))
 | 0,l,r,Z,N,j,L,I=>by
  have:l=r:=by omega
  subst this;exact⟨j,L,I⟩
 | f+1,l,r,Z,N,j,L,I=>by
  unfold kas_place;by_cases q:l ≥ r
  ·rw[if_pos q];have:l=r:=by omega
   subst this;exact⟨j,L,I⟩
  ·rw[if_neg q];refine⟨g.inn G _,g.inn G _,?_⟩;cases c:lt (p.getD k 0) (p.getD ((l+r) / 2) 0)with
   | true =>
    dsimp only;rw[if_pos rfl];refine m6 g G B f l ((l+r) / 2) (by omega) (by omega) (by omega) L fun i S U=>?_;exact O.le_trans (O.le_of c) (B _ _ S U)
   | false =>
    dsimp only;rw[if_neg (by decide)];refine m6 g G B f ((l+r) / 2+1) r (by omega) (by omega) j (fun i S=>?_) I;exact O.le_trans (B i ((l+r) / 2) (by omega) (by omega)) c
theorem OK {p:Array Nat}{k l:Nat}(S:k<p.size)(B:Up lt p k)(hl:l<=k)(Z:∀i,i<l->le lt (pa p i) (pa p k))(U:∀i,l<=i->i<k->le lt (pa p k) (pa p i)):Up lt (bubble p k (k - l)) (k+1):=by
 have e:=O6 (p:=p) S (Nat.sub_le k l);have ek:k - (k - l)=l:=by omega
 rw[ek]at e;intro i j G hj;rw[e i,e j];by_cases N:i=l
 ·rw[if_pos N];by_cases q:j=l
  ·rw[if_pos q];exact O.le_refl _
  ·rw[if_neg q,if_pos (by omega)];exact U _ (by omega) (by omega)
 ·rw[if_neg N];by_cases L:l<i/\i<=k
  ·rw[if_pos L,if_neg (by omega),if_pos (by omega)];exact B _ _ (by omega) (by omega)
  ·rw[if_neg L];by_cases q:j=l
   ·rw[if_pos q];exact Z _ (by omega)
   ·rw[if_neg q];by_cases I:l<j/\j<=k
    ·rw[if_pos I];exact B _ _ (by omega) (by omega)
    ·rw[if_neg I];exact B _ _ G (by omega)
theorem BA (I:1<=n):∀(f:Nat) (p:Array Nat) (k:Nat),Gd n p->k+f<=n->Up lt p k->iO n lt (kas_bin f p k) fun q=>Gd n q/\Up lt q (k+f)
 | 0,p,k,g,L,j=>⟨g,j⟩
 | f+1,p,k,g,L,j=>by
  unfold kas_bin;refine iO.bind (R:=fun m=>m<=k/\(∀i,i<m->le lt (pa p i) (pa p k))/\(∀i,m<=i->i<k->le lt (pa p k) (pa p i))) (fun m B=>?_) (m6 O g I j k 0 k (by omega) (by omega) (Nat.le_refl _) (fun i G=>absurd G (Nat.not_lt_zero _)) fun i G L=>absurd G (by omega));refine(BA I f (bubble p k (k - m)) (k+1) (g.bub _ _) (by omega) (OK O (by rw[g.size];omega) j B.1 B.2.1 B.2.2)).mono fun q h=>⟨h.1,?_⟩
  rw[show k+(f+1)=k+1+f by omega];exact h.2
noncomputable def QS (lt:Nat->Nat->Bool)(p:Array Nat)(n q:Nat):Prop:=∀i j,n - (q+1)<=i->i<n->n - (q+1)<=j->j<n->le lt (pa p i) (pa p j)
theorem KB {p:Array Nat}{k q:Nat}(G:k<=p.size)(N:Dn lt p k)(eq:QS lt p k q):Dn lt (kas_rev p (k - (q+1)) k) k:=by
 intro i j B S;rw[kG G,kG G];by_cases L:k - (q+1)<=i/\i<k
 ·rw[if_pos L,if_pos (by omega)];exact eq _ _ (by omega) (by omega) (by omega) (by omega)
 ·rw[if_neg L];by_cases I:k - (q+1)<=j/\j<k
  ·rw[if_pos I];exact N _ _ (by omega) (by omega)
  ·rw[if_neg I];exact N _ _ B S
theorem sD {p:Array Nat}{i j:Nat}(q:j<=p.size){k:Nat}(h:j<=k):pa (kas_rev p i j) k=pa p k:=by rw[kG q,if_neg (by omega)]
theorem mC (B:1<=n):∀(f:Nat) (p:Array Nat) (k q:Nat),Gd n p->1<=k->k+f<=n->q+1<=k->Dn lt p k->QS lt p k q->iO n lt (kas_desc f p k q) fun r=>Gd n r.1/\k<=r.2.1/\r.2.1<=k+f/\r.2.2+1<=r.2.1/\Dn lt r.1 r.2.1/\QS lt r.1 r.2.1 r.2.2
 | 0,p,k,q,g,I,hk,N,G,eq=>⟨g,Nat.le_refl _,Nat.le_refl _,N,G,eq⟩
 | f+1,p,k,q,g,I,hk,N,G,eq=>by
  refine⟨g.inn B _,g.inn B _,?_⟩;have one:∀S:Array Nat,QS lt S (k+1) 0:=fun S i j a b c d=>by
   have:i=k:=by omega
   have:j=k:=by omega
   subst_vars
   exact O.le_refl _
  have more:∀r:Array Nat×Nat×Nat,(Gd n r.1/\k+1<=r.2.1/\r.2.1<=k+1+f/\r.2.2+1<=r.2.1/\Dn lt r.1 r.2.1/\QS lt r.1 r.2.1 r.2.2)->(Gd n r.1/\k<=r.2.1/\r.2.1<=k+(f+1)/\r.2.2+1<=r.2.1/\Dn lt r.1 r.2.1/\QS lt r.1 r.2.1 r.2.2):=fun r ⟨a,b,c,d⟩=>⟨a,by omega,by omega,d⟩
  have hz:k<=p.size:=by rw[g.size];omega
  cases c:lt (p.getD k 0) (p.getD (k - 1) 0)with
  | true =>
   dsimp only;rw[if_pos rfl];have U:=O.le_of c;by_cases h0:q > 0
   ·rw[if_pos h0];have d1:=KB O hz G eq;have e1:pa (kas_rev p (k - (q+1)) k) k=pa p k:=sD O hz (Nat.le_refl _);have e2:le lt (pa p k) (pa (kas_rev p (k - (q+1)) k) (k - 1)):=by rw[kG hz,if_pos (by omega)];exact O.le_trans U (eq _ _ (by omega) (by omega) (by omega) (by omega))
    exact(mC B f _ (k+1) 0 (g.rev _ _) (by omega) (by omega) (by omega) (Dn.snoc O d1 I (by rw[e1];exact e2)) (one _)).mono more
   ·rw[if_neg h0];exact(mC B f p (k+1) 0 g (by omega) (by omega) (by omega) (Dn.snoc O G I U) (one _)).mono more
  | false =>
   dsimp only;rw[if_neg (by decide)];refine⟨g.inn B _,g.inn B _,?_⟩;cases c2:lt (p.getD (k - 1) 0) (p.getD k 0)with
   | true =>
    dsimp only;rw[if_pos rfl];exact⟨g,Nat.le_refl _,by show k<=k+(f+1);omega,N,G,eq⟩
   | false =>
    dsimp only;rw[if_neg (by decide)];refine(mC B f p (k+1) (q+1) g (by omega) (by omega) (by omega) (Dn.snoc O G I c2) ?_).mono more;have a1:le lt (pa p (k - 1)) (pa p k):=c;have a2:le lt (pa p k) (pa p (k - 1)):=c2;intro i j hi hi' hj hj';by_cases Z:i=k
    ·by_cases L:j=k
     ·subst Z;subst L;exact O.le_refl _
     ·subst Z;exact O.le_trans a2 (eq _ _ (by omega) (by omega) (by omega) (by omega))
    ·by_cases L:j=k
     ·subst L;exact O.le_trans (eq _ _ (by omega) (by omega) (by omega) (by omega)) a1
     ·exact eq _ _ (by omega) (by omega) (by omega) (by omega)
theorem K5 {p:Array Nat}{k:Nat}(q:k<=p.size)(G:Dn lt p k):Up lt (kas_rev p 0 k) k:=by intro i j B I;rw[kG q,kG q,if_pos (by omega),if_pos (by omega)];exact G _ _ (by omega) (by omega)
theorem tU (j:1<=n){p:Array Nat}{k m:Nat}(g:Gd n p)(q:1<=k)(I:k<=m)(G:m<=n)(B:Dn lt p k):iO n lt (kas_tail3 k m p) fun r=>Gd n r.2/\1<=r.1/\r.1<=m/\Up lt r.2 r.1:=by
 have hz:k<=p.size:=by rw[g.size];omega
 unfold kas_tail3;refine iO.bind (fun a h=>?_) (tV O (g.rev 0 k) j (m - k) k q (K5 O hz B));exact⟨g.rev 0 k,by have:=h.1;show 1<=a;omega,by have:=h.2.1;show a<=m;omega,h.2.2.1⟩
theorem mL (q:1<=n){p:Array Nat}{k m:Nat}(g:Gd n p)(N:1<=k)(L:k+1<=m)(B:m<=n)(I:Dn lt p (k+1)):iO n lt (kas_descPart k m p) fun r=>Gd n r.2/\1<=r.1/\r.1<=m/\Up lt r.2 r.1:=by
 unfold kas_descPart
 refine iO.bind (fun r h=>?_) (mC O q (m - (k+1)) p (k+1) 0 g (by omega) (by omega) (by omega) I fun i j a b c d=>by
  have:i=k:=by omega
  have:j=k:=by omega
  subst_vars
  exact O.le_refl _)
 obtain⟨a,b,c,d,e,f⟩:=h;by_cases G:r.2.2 > 0
 ·rw[if_pos G];exact tU O q (a.rev _ _) (by omega) (by omega) B (KB O (by rw[a.size];omega) e f)
 ·rw[if_neg G];exact tU O q a (by omega) (by omega) B e
theorem DH (q:1<=n){p:Array Nat}(g:Gd n p):iO n lt (kas_count n p) fun r=>Gd n r.2/\1<=r.1/\r.1<=n/\Up lt r.2 r.1:=by
 unfold kas_count
 refine iO.bind (fun m h=>?_) (tV O g q (n - 1) 1 (Nat.le_refl _) fun i j a b=>by
  have:i=0:=by omega
  have:j=0:=by omega
  subst_vars
  exact O.le_refl _)
 obtain⟨G,h2,B,N⟩:=h;by_cases e:m=n
 ·rw[if_pos (by simpa using e)];exact⟨g,G,by show m<=n;omega,B⟩
 ·rw[if_neg (by simpa using e)];have U:=N (by omega);by_cases S:m > 1
  ·rw[if_pos S];refine⟨g.inn q _,g.inn q _,?_⟩;cases c:lt (p.getD 0 0) (p.getD (m - 1) 0)with
   | true =>
    dsimp only;rw[if_pos rfl];exact⟨g,G,by show m<=n;omega,B⟩
   | false =>
    dsimp only;rw[if_neg (by decide)];have hz:m<=p.size:=by rw[g.size];omega
    have all:∀i j,i<m->j<m->le lt (pa p i) (pa p j):=fun i j Z I=>O.le_trans (O.le_trans (B i (m - 1) (by omega) (by omega)) c) (B 0 j (by omega) I);refine mL O q (g.rev 0 m) G (by omega) (Nat.le_refl _) (Dn.snoc O (fun i j L I=>?_) G ?_)
    ·rw[kG hz,kG hz,if_pos (by omega),if_pos (by omega)];exact all _ _ (by omega) (by omega)
    ·rw[sD O hz (Nat.le_refl _),kG hz,if_pos (by omega)];exact O.le_trans (O.le_of U) (all _ _ (by omega) (by omega))
  ·rw[if_neg S];have:m=1:=by omega
   subst this;refine mL O q g (Nat.le_refl _) (by omega) (Nat.le_refl _) (Dn.snoc O (fun i j L I=>?_) (Nat.le_refl _) (O.le_of U));have:i=0:=by omega
   have:j=0:=by omega
   subst_vars
   exact O.le_refl _
theorem G6 (G:1<=n):iO n lt (kas_sort n) fun q=>Gd n q/\Up lt q n:=by
 unfold kas_sort;refine iO.bind (fun r h=>?_) (DH O G (Array.Perm.refl _));obtain⟨g,L,I,j⟩:=h;by_cases h:r.1<n
 ·rw[if_pos h,show max r.1 1=r.1 by omega];refine(BA O G (n - r.1) r.2 r.1 g (by omega) j).mono fun q B=>⟨B.1,?_⟩
  rw[←show r.1+(n - r.1)=n by omega];exact B.2
 ·rw[if_neg h];have:r.1=n:=by omega
  rw[this]at j;exact⟨g,j⟩
end
theorem EY {n:Nat}{lt:Nat->Nat->Bool}{α:Type}{q:Nat->Nat->(Bool->Shared->Prop)->Shared->Prop}(J:Shared->Prop)(hc:∀i j C s,i<n->j<n->J s->(∀B,J B->C (lt i j) B)->q i j C s){Q:α->Prop}{R:α->Shared->Prop}(L:∀a s,J s->Q a->R a s) :
  ∀{t:KasT α},iO n lt t Q->∀s,J s->t.kasWp q R s
 | .ret a,h,s,I=>L a s I h
 | .ask i j k,h,s,I=>hc i j _ s h.1 h.2.1 I fun B G=>EY J hc L h.2.2 B G
end L2
namespace L2
open PySem PySem.Spec PyProof.Rows PySem.SeqAt
open PySem.AutoSeq1 (wpAny_loadPart')
open PySem.MeetsSeq PySem.MeetsSeq2 PySem.MeetsSeq3
noncomputable def NT (A:Around)(s:Shared)(y x:Value)(b:Bool):Prop:=∀(prog:Program) (w:World) (E:cE) (Q:cE),Q (.bool b) s->wpAny (model prog w) A (richCompare .Lt y x) Q E s
inductive uT (A:Around)(s:Shared):bZ->bZ->Bool->Prop
 | nn:uT A s [] [] false
 | nc {v:Value} {vs:bZ}:uT A s [] (v::vs) true
 | cn {u:Value} {us:bZ}:uT A s (u::us) [] false
 | eq {u v:Value} {us vs:bZ} {b:Bool}:EqAt A s u v true->uT A s us vs b->uT A s (u::us) (v::vs) b
 | ne {u v:Value} {us vs:bZ} {b:Bool}:EqAt A s u v false->NT A s u v b->uT A s (u::us) (v::vs) b
noncomputable def QN (us:i4)(i:Nat)(xs:bZ):Prop:=i<=us.size/\us.toList.drop i=xs
theorem QN.end_ {us:i4}{i:Nat}(h:QN us i []):us.size=i/\us[i]?=none:=by have e:=congrArg List.length h.2;rw[List.length_drop,Array.length_toList,List.length_nil]at e;have:=h.1;exact⟨by omega,Array.getElem?_eq_none (by omega)⟩
theorem QN.next {us:i4}{i:Nat}{x:Value}{xs:bZ}(h:QN us i (x::xs)):i<us.size/\us[i]?=some x/\QN us (i+1) xs:=by
 have e:=congrArg List.length h.2;rw[List.length_drop,Array.length_toList,List.length_cons]at e;have lt:i<us.toList.length:=by rw[Array.length_toList];omega
 have j:=h.2;rw[List.drop_eq_getElem_cons lt]at j;injection j with B q;rw[Array.length_toList]at lt;refine⟨lt,?_,lt,q⟩;rw[Array.getElem?_eq_getElem lt,←B];rfl
noncomputable abbrev uG (l b:Addr)(ol ob:Obj)(xs ys:bZ):PySem.Spec:=fun A R s=>s.heap.get? l=some ol/\s.heap.get? b=some ob/\∃r,uT A.in1 s xs ys r/\R (.ok (.ret (.bool r))) s
theorem rN {l b:Addr}{ol j:Obj}{xs ys:bZ}{i:Nat}{prog:Program}{w:World}{A:Around}{R:Result->Shared->Prop}{s:Shared}(m:Meets (Builtin.«list.__eq__.loop» (ltAsk l b i)) (uG l b ol j xs ys))(h:uG l b ol j xs ys A R s) :
  (Code.builtin "list.__eq__.loop" (ltAsk l b i)).quiet=true/\codeAny (model prog w) A (.builtin "list.__eq__.loop" (ltAsk l b i)) R s:=by
 refine⟨plainId_quiet plain_eq_loop (ltAsk l b i),codeAny_builtin entry_eq_loop ?_⟩;have u:=A.under_plainId plain_eq_loop (ltAsk l b i);rw[u];exact m prog w A R s h
theorem u8 (l b:Addr)(us vs:i4)(n k:Nat)(du Z:Option Addr)(N L:Array (Option Value)):∀(xs ys:bZ) (i:Nat),QN us i xs->QN vs i ys ->
  Meets (Builtin.«list.__eq__.loop» (ltAsk l b i)) (uG l b {cls:=.type "list",dict:=du,data:=.seq us n,slots:=N} {cls:=.type "list",dict:=Z,data:=.seq vs k,slots:=L} xs ys)
 | [],ys,i,f,g=>by
  rintro prog w A R ⟨S,U,d,tk,os⟩ ⟨j,q,r,hc,h⟩;obtain⟨z,no⟩:=f.end_;have B:r=decide (us.size<vs.size):=by
   cases hc with
   | nn=>exact(decide_eq_false (by rw[z,(g.end_).1];exact Nat.lt_irrefl _)).symm
   | nc=>exact(decide_eq_true (by rw[z];exact(g.next).1)).symm
  rw[B]at h
  wp_walk using wpAny_loadPart' j,wpAny_loadPart' q
  rw[show((i:Nat):Int).toNat=i from rfl,no];cases vs[i]? <;> wp_walk using wpAny_loadPart' j,wpAny_loadPart' q <;> exact h
 | x::xs,[],i,f,g=>by
  rintro prog w A R ⟨S,U,d,tk,os⟩ ⟨j,q,r,hc,h⟩;obtain⟨z,no⟩:=g.end_;obtain⟨lt,is,_⟩:=f.next
  cases hc;have B:false=decide (us.size<vs.size):=(decide_eq_false (by omega)).symm;rw[B]at h
  wp_walk using wpAny_loadPart' j,wpAny_loadPart' q
  rw[show((i:Nat):Int).toNat=i from rfl,no,is]
  wp_walk using wpAny_loadPart' j,wpAny_loadPart' q
  exact h
 | x::xs,y::ys,i,f,g=>by
  have go:=u8 l b us vs n k du Z N L xs ys (i+1) (f.next).2.2 (g.next).2.2;rintro prog w A R ⟨S,U,d,tk,os⟩ ⟨j,q,r,hc,h⟩;obtain⟨_,I,_⟩:=f.next
  obtain⟨_,isV,_⟩:=g.next
  wp_walk using wpAny_loadPart' j,wpAny_loadPart' q
  rw[show((i:Nat):Int).toNat=i from rfl,I,isV];cases hc with
  | eq asked rest =>
   refine wpAny_bind (asked prog w _ _ ?_)
   wp_walk
   exact rN go ⟨j,q,r,rest,h⟩
  | ne asked G =>
   refine wpAny_bind (asked prog w _ _ ?_);have G:=G prog w
   wp_walk using wpAny_loadPart' j,wpAny_loadPart' q
   rw[I,isV]
   wp_walk using G
   exact h
theorem x6 (l b:Addr)(us vs:i4)(n k:Nat)(L I:Option Addr)(G B:Array (Option Value)) :
  Meets (Builtin.«list.__lt__» ⟨[.ref l,.ref b],[]⟩) (uG l b {cls:=.type "list",dict:=L,data:=.seq us n,slots:=G} {cls:=.type "list",dict:=I,data:=.seq vs k,slots:=B} us.toList vs.toList):=by
 have go:=u8 l b us vs n k L I G B us.toList vs.toList 0 ⟨Nat.zero_le _,rfl⟩ ⟨Nat.zero_le _,rfl⟩;rintro prog w A R ⟨N,S,d,tk,os⟩ ⟨j,q,h⟩;have kind:=AutoSeq1.sub_list_list
 wp_walk using wpAny_loadPart' j,wpAny_loadPart' q
 exact rN go ⟨j,q,h⟩
theorem uK (l b:Addr)(us vs:i4)(n k:Nat)(du dv:Option Addr)(su sv:Array (Option Value)) :
  Meets (Builtin.«tuple.__lt__» ⟨[.ref l,.ref b],[]⟩) (uG l b {cls:=.type "tuple",dict:=du,data:=.seq us n,slots:=su} {cls:=.type "tuple",dict:=dv,data:=.seq vs k,slots:=sv} us.toList vs.toList):=by
 refine .of_wp fun prog w A R s1 h=>?_;obtain⟨Z,g,d,tk,os⟩:=s1;obtain⟨hl,hb,r,hc,h⟩:=h;have f2:=AutoSeq1.sub_tuple_tuple
 wp_walk using wpAny_loadPart' hl,wpAny_loadPart' hb,wpAny_forIn_list _ (fun rest b N=>b.1=none/\N=⟨Z,g,d,tk,os⟩/\∃(xs ys:bZ),rest=xs.zip ys/\uT A.in1 ⟨Z,g,d,tk,os⟩ xs ys r/\xs.length+vs.size=ys.length+us.size) _
 case turn =>
  rintro⟨y,x⟩ rest b N ⟨L,rfl,xs,ys,hz,I,j⟩;cases I with
  | nn=>cases hz
  | nc=>cases hz
  | cn=>cases hz
  | eq asked more =>
   rw[List.zip_cons_cons]at hz;injection hz with G B;injection G with S U;subst S U;simp only[List.length_cons]at j;refine wpAny_bind (asked prog w _ _ ?_)
   wp_walk
   exact⟨rfl,rfl,_,_,B,more,by omega⟩
  | ne asked q =>
   rw[List.zip_cons_cons]at hz;injection hz with G B;injection G with S U;subst S U;refine wpAny_bind (asked prog w _ _ ?_);have q:=q prog w
   wp_walk using q
   refine⟨_,rfl,?_⟩
   simpa using h
 case fin =>
  rintro⟨b1,b2⟩ N ⟨L,rfl,xs,ys,hz,I,j⟩;simp only at L;subst L;have hv:r=decide (us.size<vs.size):=by
   cases I with
   | nn =>
    simp only[List.length_nil]at j;exact(decide_eq_false (by omega)).symm
   | nc =>
    simp only[List.length_nil,List.length_cons]at j;exact(decide_eq_true (by omega)).symm
   | cn =>
    simp only[List.length_nil,List.length_cons]at j;exact(decide_eq_false (by omega)).symm
   | eq _ _=>rw[List.zip_cons_cons]at hz;cases hz
   | ne _ _=>rw[List.zip_cons_cons]at hz;cases hz
  rw[hv]at h
  wp_walk
  exact⟨_,rfl,by simpa [Builtin.Tuple.tupleCompareSizes] using h⟩
 case h =>
  exact⟨rfl,rfl,us.toList,vs.toList,rfl,hc,by simp[Nat.add_comm]⟩
end L2
namespace Lw
open PySem PySem.Spec PyProof.Rows PySem.SeqAt L2
theorem J9 (m j:M):eqD (mD m) (mD j)=decide (m=j):=by obtain⟨a,x,c⟩:=m;obtain⟨N,I,L⟩:=j;rw[Bool.eq_iff_iff];simp[mD,eqD,eqDs];exact⟨fun⟨G,q,B⟩=>⟨by omega,q,by omega⟩,fun⟨G,q,B⟩=>⟨by omega,q,by omega⟩⟩
theorem E9 (A:Around)(s:Shared)(x y:Str)(t u:Tok):NT A s (.str x t) (.str y u) (sL x y):=fun prog w E Q h=>(lt_str h:wpAny (model prog w) A (compareOp .Lt (.str x t) (.str y u)) Q E s)
theorem vX (A:Around)(s:Shared)(x y:Int)(t u:Tok):NT A s (.int x t) (.int y u) (decide (x<y)):=fun prog w E Q h=>HT.rcLt_int A s x t y u prog w E Q h
section
variable {P:Program}{w:World}{H:Hp}{s:Shared}
theorem vals3 {a b c:V}{us:bZ}(h:aR [a,b,c] us):∃u v x,us=[u,v,x]/\aT a u/\aT b v/\aT c x:=by
 cases h with
 | cons r1 h =>
  obtain⟨v,x,rfl,q,j⟩:=aR.two h;exact⟨_,v,x,rfl,r1,q,j⟩
theorem AG (ok:gR P w H s.heap){m:M}{v:V}{u:Value}(h:bD H (mD m) v)(r:aT v u):∃p t1 j t3,u = .ref p/\s.heap.IsTuple p #[.int m.1 t1,.str m.2.1 j,.int m.2.2 t3]:=by obtain⟨p,vs,rfl,I,x1,r1,rfl,U,x2,r2,rfl,S,Z,B,rfl,N,L⟩:=h;cases U;cases S;cases N;cases (show B=[]from L);cases r;obtain⟨its,q,G⟩:=jE ok I;obtain⟨u1,u2,u3,rfl,⟨t1,rfl⟩,⟨j,rfl⟩,⟨t3,rfl⟩⟩:=vals3 q;exact⟨p,t1,j,t3,rfl,G⟩
theorem MR (ok:gR P w H s.heap)(A:Around)(hu:A.units+8<cLine){m m':M}{v v':V}{u u':Value}(h:bD H (mD m) v)(h':bD H (mD m') v')(r:aT v u)(r':aT v' u')(ne:m≠m'):NT A s u u' (ltM m m'):=by
 obtain⟨p,t1,t2,t3,rfl,⟨⟨c,dd,dt,sl⟩,ho,hc,n,hd⟩⟩:=AG ok h r;obtain⟨p',N,L,I,rfl,⟨⟨c',dd',dt',sl'⟩,S,Z,n',U⟩⟩:=AG ok h' r';simp only at hc hd Z U;subst hc hd Z U;obtain⟨a,x,b⟩:=m;obtain⟨B,G,j⟩:=m';have q:uT A.in1 s [.int a t1,.str x t2,.int b t3] [.int B N,.str G L,.int j I] (ltM (a,x,b) (B,G,j)):=by
  have hi:A.in1.units+0<cLine:=by rw[eS];omega
  have e1:=eqAtD ok (.int a) (.int B) A.in1 (.int a) (.int B) (.int a t1) (.int B N) rfl rfl ⟨_,rfl⟩ ⟨_,rfl⟩ hi;have e2:=eqAtD ok (.str x) (.str G) A.in1 (.str x) (.str G) (.str x t2) (.str G L) rfl rfl ⟨_,rfl⟩ ⟨_,rfl⟩ hi;have e3:=eqAtD ok (.int b) (.int j) A.in1 (.int b) (.int j) (.int b t3) (.int j I) rfl rfl ⟨_,rfl⟩ ⟨_,rfl⟩ hi;unfold ltM;dsimp only;by_cases h1:a=B
  ·subst h1;rw[if_pos rfl];refine .eq (by rw[hX]at e1;exact e1) ?_;by_cases h2:x=G
   ·subst h2;rw[if_pos rfl];refine .eq (by rw[hX]at e2;exact e2) ?_;have h3:b≠j:=fun z=>ne (by rw[z]);have e:eqD (.int (b:Int)) (.int (j:Int))=false:=by show((b:Int) == (j:Int))=false;simp;omega
    rw[e]at e3;have:decide (b<j)=decide ((b:Int)<(j:Int)):=by rw[Bool.eq_iff_iff];simp
    rw[this];exact .ne e3 (vX _ _ _ _ _ _)
   ·rw[if_neg h2];have e:eqD (.str x) (.str G)=false:=by
     show(x == G)=false
     simpa using h2
    rw[e]at e2;exact .ne e2 (E9 _ _ _ _ _ _)
  ·rw[if_neg h1];have e:eqD (.int (a:Int)) (.int (B:Int))=false:=by show((a:Int) == (B:Int))=false;simp;omega
   rw[e]at e1;have:decide (a<B)=decide ((a:Int)<(B:Int)):=by rw[Bool.eq_iff_iff];simp
   rw[this];exact .ne e1 (vX _ _ _ _ _ _)
 intro prog w' E Q hq;exact richCompare_meets_room (op:=.Lt) ⟨_,ho,rfl⟩ ⟨_,S,rfl⟩ PySem.F.slot_tuple_lt PySem.F.entry_tuple_lt (PySem.F.args_tuple_lt_2 _ _) (uK p p' _ _ n n' dd dd' sl sl')
  ⟨ho,S,_,q,show Value.bool _≠Value.notImplemented/\Q _ s from⟨(fun x=>nomatch x),hq⟩⟩ (by omega)
theorem vT (ok:gR P w H s.heap)(A:Around)(hu:A.units+8<cLine):∀(ks G:List M) (vs j:List V) (us B:bZ),Reps H (ks.map mD) vs->Reps H (G.map mD) j->aR vs us->aR j B->uT A s us B (lexK ks G)
 | [],[],vs,j,us,B,h,h',r,I=>by
  cases (show vs=[]from h);cases (show j=[]from h');cases r.zero;cases I.zero;exact .nn
 | [],U::G,vs,j,us,B,h,⟨x',q',e',_,_⟩,r,I=>by
  cases (show vs=[]from h);subst e';cases r.zero;cases I;exact .nc
 | m::ks,[],vs,j,us,B,⟨x,q,e,_,_⟩,h',r,I=>by
  cases (show j=[]from h');subst e;cases I.zero;cases r;exact .cn
 | m::ks,U::G,vs,j,us,B,⟨x,q,e,h1,h2⟩,⟨x',q',e',N,Z⟩,r,I=>by
  subst e e';cases r with
  | cons r1 r2 =>
   cases I with
   | cons L S =>
    have e:=eqAtD ok (mD m) (mD U) A _ _ _ _ h1 N r1 L (by
     have:depD (mD m)=1:=rfl
     omega)
    rw[J9]at e;rw[lexK];by_cases ne:m=U
    ·rw[if_pos ne];rw[decide_eq_true ne]at e;exact .eq e (vT ok A hu ks G _ _ _ _ h2 Z r2 S)
    ·rw[if_neg ne];rw[decide_eq_false ne]at e;exact .ne e (MR ok A hu h1 N r1 L ne)
theorem sV (ok:gR P w H s.heap){ks:List M}{v:V}{u:Value}(h:bD H (.lst (ks.map mD)) v)(r:aT v u):∃l vs us,u = .ref l/\Reps H (ks.map mD) vs/\aR vs us/\s.heap.IsList l us.toArray:=by obtain⟨l,vs,rfl,G,B⟩:=h;cases r;obtain⟨us,q,j⟩:=hV ok G;exact⟨l,vs,us,rfl,B,q,j⟩
theorem AR (ok:gR P w H s.heap)(A:Around)(hu:A.units+16<cLine){ks j:List M}{v v':V}{u N:Value}(h:bD H (.lst (ks.map mD)) v)(h':bD H (.lst (j.map mD)) v')(r:aT v u)(r':aT v' N) :
  s.TypeIs u "list"/\s.TypeIs N "list"/\∀(prog:Program) (w:World) (E:cE) (Q:cE),Q (.bool (lexK ks j)) s->wpAny (model prog w) A (call (.builtin "list.__lt__") [u,N]) Q E s:=by
 obtain⟨l,vs,us,rfl,hv,rv,hl⟩:=sV ok h r;obtain⟨l',I,L,rfl,Z,U,hl'⟩:=sV ok h' r';obtain⟨⟨c,dd,dt,sl⟩,ho,hc,n,hd⟩:=id hl;obtain⟨⟨c',dd',dt',S⟩,q,G,n',B⟩:=id hl';simp only at hc hd G B;subst hc hd G B;refine⟨⟨_,ho,rfl⟩,⟨_,q,rfl⟩,fun prog w E Q hq=>?_⟩;exact call_meets PySem.F.slot_list_lt ⟨_,ho,rfl⟩ PySem.F.entry_list_lt (PySem.F.args_list_lt_2 _ _) (x6 l l' _ _ n n' dd dd' sl S) ⟨ho,q,_,vT ok A.in1 (by rw[eS];omega) ks j vs I us L hv Z rv U,hq⟩
end
end Lw
namespace L2
open PySem PySem.Spec PyProof.Rows
theorem aO.adopt {X:Cx}{j:cW}{σ:St}{H:Hp}{s:Shared}{a:Addr}{o:HO}(I:aO X j σ H s)(f:fK X j H a)(new:bY X.prog X.w (upd H a o) s.heap a o):aO X j σ (upd H a o) s:=by
 obtain⟨f0,f1,f2,f3,f4,Z⟩:=f;have keep:∀b u,H b=some u->upd H a o b=some u:=fun b u e=>by rw[aB (aE e f0)];exact e
 refine {ok:=I.ok,os:=I.os,bare:=I.bare,base:=?_,loc:=I.loc,cell:=I.cell,free:=?_,freeC:=?_,pin:=?_,hok:=?_,len:=I.len}
 ·have u:=I.base
  exact {
   keep:=u.keep,slot:=u.slot,there:=u.there,tups:=fun b xs e=>keep _ _ (u.tups b xs e),frzs:=fun b q r e=>keep _ _ (u.frzs b q r e),
   tbls:=fun b ps e=>by obtain⟨more,h⟩:=u.tbls b ps e;exact⟨more,keep _ _ h⟩,
   free:=fun b q e n B=>by
    have ne:b≠a:=fun z=>by
     rcases f3 with h|h
     ·exact B (z ▸ h)
     ·exact Nat.lt_irrefl _ (Nat.lt_of_lt_of_le (Heap.lt_size e) (z ▸ h))
    rw[aB ne]
    exact u.free b q e n B}
 ·rw[aB (Ne.symm f1)];exact I.free
 ·intro x c e;rw[aB (f4 x c e)];exact I.freeC x c e
 ·intro p G;obtain⟨U,S,N⟩:=I.pin p G;exact⟨U,by rw[aB (Z p G)];exact S,N⟩
 ·intro b u e;by_cases L:b=a
  ·subst L;rw[upd_same]at e;cases e;exact new
  ·rw[aB L]at e;exact(I.hok b u e).stay (fun _ _ _ q=>q) (fun c q=>keep _ _ q) (fun c xs q=>keep _ _ q)
theorem fK.at {X:Cx}{j:cW}{H H':Hp}{b:Addr}(f:fK X j H b)(h:H' b=none):fK X j H' b:=⟨h,f.2⟩
end L2
namespace Lw
open PySem PySem.Spec PyProof.Rows PySem.SeqAt PySem.W L2
noncomputable def kyD (d:D):D:=.lst ((key d).map mD)
theorem NI {P:Program}{w:World}{H:Hp}{s:Shared}(ok:gR P w H s.heap)(A:Around)(N:A.units+32<cLine){d e:D}{v B:V}{u G:Value}(h:bD H (kyD d) v)(h':bD H (kyD e) B)(r:aT v u)(I:aT B G){prog:Program}{j:World}{E:cE}{Q:Bool->Shared->Prop}
  (q:Q (lexK (key d) (key e)) s):wpAny (model prog j) A (keyLt' oneType' u G) Q E s:=by
 obtain⟨t1,L,t3⟩:=AR ok A (by omega) h h' r I;rw[keyLt'_oneType,oneLt'_eq,if_pos rfl];refine wpAny_bind (wpAny_cRoomFor (by omega) (wpAny_bind (wpAny_callSpecialIfBound?_slot t1 F.slot_list_lt (t3 prog j _ _ ?_))));exact wpAny_truthy_bool q
theorem CV {M:Model}{h:Heap}{l:Addr}{us:i4}(j:h.IsList l us):Looks M h (typeOf (.ref l)) (.type "list"):=fun A Q E s k q=>by obtain⟨o,ho,hc,_⟩:=j;exact wpAny_typeOf ⟨o,k _ _ ho,hc⟩ q
noncomputable def ltI (ds:List D)(i j:Nat):Bool:=lexK (key (ds.getD i .non)) (key (ds.getD j .non))
theorem IR (n:Nat)(ds:List D):RC n (ltI ds):=⟨fun i=>n8 _,fun i j h=>pM h,fun i j k B q=>sR q B⟩
theorem yH {ks is:bZ}{i:Nat}(h:ks.length=is.length)(j:i<is.length):kas_item (ks.toArray.zip is.toArray) i=(ks.getD i .none,is.getD i .none):=by
 unfold kas_item;have B:i<(ks.toArray.zip is.toArray).size:=by simp;omega
 rw[Array.getD_eq_getD_getElem?,Array.getElem?_eq_getElem B];have q:i<ks.length:=by omega
 simp[j,q]
theorem oB {H:Hp}{ds:List D}{vs:List V}(h:Reps H ds vs){i:Nat}(j:i<ds.length):bD H (ds.getD i .non) (vs.getD i .non):=by
 obtain⟨v,q,r⟩:=Reps.get' h (List.getElem?_eq_getElem j);have G:ds.getD i .non=ds[i]:=by simp[j]
 have B:vs.getD i .non=v:=by rw[List.getD_eq_getElem?_getD,q];rfl
 rw[G,B];exact r
theorem oA {vs:List V}{us:bZ}(h:aR vs us){i:Nat}(j:i<vs.length):aT (vs.getD i .non) (us.getD i .none):=by
 obtain⟨u,q,r⟩:=h.get (List.getElem?_eq_getElem j);have G:vs.getD i .non=vs[i]:=by simp[j]
 have B:us.getD i .none=u:=by rw[List.getD_eq_getElem?_getD,q];rfl
 rw[G,B];exact r
theorem zO {H:Hp}{ds:List D}{vs:List V}(h:Reps H ds vs):∀(l:List Nat),(∀i∈l,i<ds.length)->Reps H (l.map fun i=>ds.getD i .non) (l.map fun i=>vs.getD i .non)
 | [],_=>rfl
 | i::l,q=>⟨_,_,rfl,oB h (q i List.mem_cons_self),zO h l fun j B=>q j (List.mem_cons_of_mem _ B)⟩
theorem zD {vs:List V}{us:bZ}(h:aR vs us):∀(l:List Nat),(∀i∈l,i<vs.length)->aR (l.map fun i=>vs.getD i .non) (l.map fun i=>us.getD i .none)
 | [],_=>.nil
 | i::l,q=>.cons (oA h (q i List.mem_cons_self)) (zD h l fun j B=>q j (List.mem_cons_of_mem _ B))
theorem JM (ds:List D):(List.range ds.length).map (fun i=>ds.getD i .non)=ds:=by
 apply List.ext_getElem
 ·simp
 ·intro i q j;simp[j]
section
variable {X:Cx}{pins:cW}{σ:L2.St}{H Hj:Hp}{s:Shared}{a kS:Addr}{e1 e:Nat}{kvs xs:List V}{kus its:bZ}{ds:List D}{A:Around}{E:cE}
theorem HW (hu:A.units+64<cLine)(I:aO X pins σ Hj s)(sH:aH H Hj)(U:fK X pins Hj a)(fk:fK X pins Hj kS)(ne:kS≠a)(ha:s.heap.get? a=some (seqObj "list" #[] e1))(hk:s.heap.get? kS=some (seqObj "list" kus.toArray e))
  (rk:aR kvs kus) (rr:Reps Hj (ds.map kyD) kvs) (rx:aR xs its) (rd:Reps H ds xs) (h2:2<=ds.length) (h64:ds.length<64) {Pf:PySem.Fin->Shared->Prop}
  (h:∀q ys es,aO X pins σ (upd Hj a (.lst ys)) q->es.Perm ds->es.Pairwise leK->Reps H es ys->Pf (.done (.ret .none)) q) :
  wpAny (model X.prog X.w) A (ksk_end a false its.toArray e1 (.ref kS) kus.toArray) Pf E s:=by
 have l1:=Reps.len rr;rw[List.length_map]at l1;have l2:=rk.length;have l3:=Reps.len rd;have l4:=rx.length;have lk:kus.length=its.length:=by omega
 have n2:¬its.toArray.size<2:=by rw[List.size_toArray];omega
 unfold ksk_end;dsimp only;rw[if_neg n2,if_neg n2,if_neg Bool.false_ne_true];have look:∀v∈kus,Looks (model X.prog X.w) s.heap (typeOf v) (.type "list"):=fun v hv=>by
  obtain⟨i,B⟩:=List.getElem?_of_mem hv;have hi':=(List.getElem?_eq_some_iff.mp B).1;have r1:=oB rr (i:=i) (by rw[List.length_map];omega);have r2:=oA rk (i:=i) (by omega);have ek:kus.getD i .none=v:=by rw[List.getD_eq_getElem?_getD,B];rfl
  rw[ek]at r2;have ed:(ds.map kyD).getD i .non=kyD (ds.getD i .non):=by
   have:i<ds.length:=by omega
   simp[this]
  rw[ed]at r1;obtain⟨l,_,us,rfl,_,_,hl⟩:=sV I.hok r1 r2;exact CV hl
 refine wpAny_bind (kas_kind (vs:=kus) (by omega) look (by decide) (by decide) ?_);have est:SortSt.mk' oneType' (kus.toArray.zip its.toArray) #[] 7 none=kas_st oneType' (kus.toArray.zip its.toArray) (List.toArray (List.range ds.length)):=by
  have e:=kas_range (kus.toArray.zip its.toArray);have z:(kus.toArray.zip its.toArray).size=ds.length:=by simp;omega
  rw[z]at e;unfold kas_st;rw[e]
 have run:=kas_runs (prog:=X.prog) (w:=X.w) (A:=A) (E:=E) (κ:=oneType') (it:=kus.toArray.zip its.toArray) (n:=ds.length) (s:=s)
  (Q:=fun _ L q=>q=s/\∃p:Array Nat,Gd ds.length p/\Up (ltI ds) p ds.length/\arrOf L=p.map (kas_item (kus.toArray.zip its.toArray))/\failedOf L=none)
  (G:=fun p q=>q=s/\Gd ds.length p/\Up (ltI ds) p ds.length) h2 h64 (fun p' L q _ a2 a3 a4=>⟨a4.1,p',a4.2.1,a4.2.2,a2,a3⟩) ?ask
 case ask =>
  refine EY (n:=ds.length) (lt:=ltI ds) (fun q=>q=s) ?_ (fun p q e1 e2=>⟨e1,e2⟩) (G6 (IR ds.length ds) (by omega)) s rfl;intro i j C q B hj es hC;subst es;unfold kas_cmp;rw[yH lk (by omega),yH lk (by omega)];have g1:=oB rr (i:=i) (by rw[List.length_map];omega);have g2:=oB rr (i:=j) (by rw[List.length_map];omega);have ed:∀i,i<ds.length->(ds.map kyD).getD i .non=kyD (ds.getD i .non):=fun i B=>by simp[B]
  rw[ed i B]at g1;rw[ed j hj]at g2;exact NI I.hok A (by omega) g1 g2 (oA rk (by omega)) (oA rk (by omega)) (hC _ rfl)
 rw[←est]at run;refine wpAny_bind (wpAny_mono run ?_ fun _ _ z=>z);rintro⟨⟨⟩,L⟩ q ⟨rfl,p,S,up,har,hf⟩;have ho:(arrOf L).map (·.2)=(p.toList.map fun i=>its.getD i .none).toArray:=by
  rw[har];apply Array.toList_inj.mp;rw[Array.map_map,Array.toList_map];refine List.map_congr_left fun i B=>?_;have:i<ds.length:=by
   have:=(Array.perm_iff_toList_perm.mp S).mem_iff.mp B
   simpa using this
  show(kas_item (kus.toArray.zip its.toArray) i).2=_;rw[yH lk (by omega)]
 have inn:∀i∈p.toList,i<ds.length:=fun i B=>by
  have:=(Array.perm_iff_toList_perm.mp S).mem_iff.mp B
  simpa using this
 have pl:p.toList.length=ds.length:=by rw[Array.length_toList,S.size]
 unfold ksk_tail;dsimp only;rw[ho];refine wpAny_bind (listUpdate_at hk rfl ?_ (Nat.le_trans (m:=64) (by rw[List.size_toArray];omega) (by decide)) (Nat.zero_le _));refine wpAny_bind (wpAny_letGo ?_);have Z:=Heap.SameBut.update q.heap kS (Obj.mapSeq fun _=>(#[]:i4));have N:=(Z.2 a ne.symm).trans ha;have I1:=I.turned (t':=q.toks) (fun b o hb z=>(Z.2 b hb).trans z) fk.1 fk.2.1 fk.2.2.2.1 fk.2.2.2.2.1 fk.2.2.2.2.2;refine wpAny_bind (seqEpoch_at N rfl ?_);refine wpAny_bind (listUpdate_at N rfl ?_ (Nat.zero_le _) (Nat.le_trans (m:=64) (by simp only[Bool.false_eq_true,if_false];rw[List.size_toArray,List.length_map];omega) (by decide)));rw[hf];simp only[bne_self_eq_false,if_false,Bool.false_eq_true];have sb2:=Heap.SameBut.update (q.heap.update kS (Obj.mapSeq fun _=>(#[]:i4))) a (Obj.mapSeq fun _=>(p.toList.map fun i=>its.getD i .none).toArray);have I2:=I1.turned (t':=q.toks) (fun b o hb z=>(sb2.2 b hb).trans z) U.1 U.2.1 U.2.2.2.1 U.2.2.2.2.1 U.2.2.2.2.2;have ga:=get?_update_seq N fun _=>(p.toList.map fun i=>its.getD i .none).toArray;have I3:=I2.adopt (o:=.lst (p.toList.map fun i=>xs.getD i .non)) U ⟨Nat.le_trans (m:=64) (by rw[List.length_map];omega) (by decide),_,_,zD rx p.toList (fun i B=>by have:=inn i B;omega),ga⟩;refine wpAny_pure (h _ _ (p.toList.map fun i=>ds.getD i .non) I3 ?_ ?_ (zO rd p.toList inn))
 ·have:=(Array.perm_iff_toList_perm.mp S).map (fun i=>ds.getD i .non);rw[List.toList_toArray,JM]at this;exact this
 ·rw[List.pairwise_map,List.pairwise_iff_getElem];intro i j B hj hij;have u:=up i j (by omega) (by omega);have ei:pa p i=p.toList[i]:=by
   have:i<p.size:=by rw[S.size];omega
   simp[pa,Array.getD,this]
  have ej:pa p j=p.toList[j]:=by
   have:j<p.size:=by rw[S.size];omega
   simp[pa,Array.getD,this]
  rw[ei,ej]at u;exact u
theorem JQ {k:Nat}{f:Addr}{fd:FuncData}{ps:aW}(F:cA X.prog X.w X.K X.mg X.base a0 k f fd ps spKey)(hb:fN X.K fd ps [])(hr:eK k A)(he:A.frames=some X.stack)(I:aO X pins σ Hj s)(Z:fK X pins Hj a)(U:fK X pins Hj kS){L ok:Obj}(ha:s.heap.get? a=some L)(hk:s.heap.get? kS=some ok){d:D}{v:V}{u:Value}(rp:bD Hj d v)(fl:Fl d)(nd:nds d<=1000)(r:aT v u)
  {Q:cE} {E:cE} (h:∀B N H' j,aO X pins σ H' j->aH Hj H'->H' a=none->H' kS=none->j.heap.get? a=some L->j.heap.get? kS=some ok->bD H' (kyD d) B->aT B N->Q N j) :
  wpAny (model X.prog X.w) A (call (.ref f) [u]) Q E s:=by
 have q:=I.env0;have sp:spKey [v] Hj (fun B H'=>aH Hj H'/\bD H' (kyD d) B) E0:=⟨d,v,rfl,rp,fl,nd,fun l H' j hl rep=>⟨j,bD.same (fun b o z=>(fU.mp z).2) rep⟩⟩
 have hl:[u].length=ps.length:=F.len _ _ _ _ sp;have nf:∀b,fK X pins Hj b->b∉frs X.stack:=fun b fb z=>(List.mem_cons.mp (I.stkSub b z)).elim fb.2.1 fb.2.2.1;refine wpAny_call (codeAny_mono (F.run A X.stack s Hj ⟨[u],[]⟩ [u] [v] _ E0 hr ⟨he,q.mod,q.bs,q.bsz,q.funs,q.frf,q.hok,q.bare⟩ (by have:=hb s [u] I.kIn (by simpa using hl);simpa using this) (.cons r .nil) sp) fun res j G=>?_);cases res with
 | error x=>exact G.elim
 | ok S =>
  cases S with
  | ret N =>
   obtain⟨B,H',os,bare,un,hok,rk,sm,rep⟩:=G;have I':=I.call' (ch:=[]) os un hok bare (fun b z=>absurd z (by simp));exact h B N H' j I' sm (un.free a L ha Z.1 (by simp)) (un.free kS ok hk U.1 (by simp)) (un.keep a L ha Z.1 (nf a Z) (by simp)) (un.keep kS ok hk U.1 (nf kS U) (by simp)) rep rk
  | next=>exact G.elim
  | brk=>exact G.elim
  | cont=>exact G.elim
theorem FC {k:Nat}{f:Addr}{fd:FuncData}{ps:aW}(F:cA X.prog X.w X.K X.mg X.base a0 k f fd ps spKey)(hb:fN X.K fd ps [])(hr:eK k A)(he:A.frames=some X.stack)(I:aO X pins σ H s)(fa:fK X pins H a)(fk:fK X pins H kS)(ne:kS≠a)
  (ha:s.heap.get? a=some (seqObj "list" #[] e1)) (hk:s.heap.get? kS=some (seqObj "list" #[] 0)) (rx:aR xs its) (rd:Reps H ds xs) (fl:∀d∈ds,Fl d/\nds d<=1000) (h2:2<=ds.length) (h64:ds.length<64) {Pf:PySem.Fin->Shared->Prop}
  (h:∀N H' ys es,aO X pins σ (upd H' a (.lst ys)) N->aH H H'->H' a=none->es.Perm ds->es.Pairwise leK->Reps H es ys->Pf (.done (.ret .none)) N) :
  wpAny (model X.prog X.w) A (ksk_rest a (.ref f) false its.toArray e1 (.ref kS)) Pf E s:=by
 have hu:=hr.units;have l3:=Reps.len rd;have l4:=rx.length;unfold ksk_rest;refine wpAny_bind (wpAny_rule ?_);rw[List.forIn_toArray]
 refine wpAny_bind (ksk_fold (fun j N=>∃(Hj:Hp) (q:List V) (B:bZ) (e:Nat),aO X pins σ Hj N/\aH H Hj/\Hj a=none/\Hj kS=none/\N.heap.get? a=some (seqObj "list" #[] e1)/\N.heap.get? kS=some (seqObj "list" B.toArray e)/\aR q B/\Reps Hj ((ds.take j).map kyD) q) its 0 s
  ⟨H,[],[],0,I,aH.refl _,fa.1,fk.1,ha,hk,.nil,rfl⟩ ?step ?done)
 case step =>
  rintro j x N hx ⟨Hj,q,B,e,I',sm,na,nk,S,L,rk,U⟩;rw[Nat.zero_add]at U⊢;have hj:j<its.length:=(List.getElem?_eq_some_iff.mp hx).1;have hd:ds[j]?=some ds[j]:=List.getElem?_eq_getElem (by omega);obtain⟨v,hv,rv⟩:=Reps.get' rd hd;obtain⟨u,hu',ru⟩:=rx.get hv;rw[hx]at hu';cases hu';have lr:=Reps.len U;rw[List.length_map,List.length_take]at lr;have lk:=rk.length;have hf:=fl ds[j] (List.mem_of_getElem? hd);refine wpAny_bind (wpAny_attempt (JQ F hb hr he I' (fa.at na) (fk.at nk) S L (bD.same sm rv) hf.1 hf.2 ru fun kv ku H' s2 I2 Z na2 nk2 ha2 hk2 rep rku=>?_));have sb:=Heap.SameBut.update s2.heap kS (Obj.mapSeq (·.push ku));have gk:=get?_update_seq hk2 (·.push ku);refine wpAny_bind (listUpdate_at hk2 rfl ?_ (Nat.le_trans (m:=64) (by rw[List.size_toArray];omega) (by decide)) (Nat.le_trans (m:=65) (by rw[Array.size_push,List.size_toArray];omega) (by decide)));have G:=fk.at nk2;refine wpAny_pure ⟨rfl,H',q++[kv],B++[ku],_,I2.turned (t':=s2.toks) (fun b o hb z=>(sb.2 b hb).trans z) G.1 G.2.1 G.2.2.2.1 G.2.2.2.2.1 G.2.2.2.2.2,sm.trans Z,na2,nk2,(sb.2 a ne.symm).trans ha2,by rw[gk,List.push_toArray],rk.append (.cons rku .nil),?_⟩;rw[aZ hd,List.map_append];exact Reps.snoc rep (Reps.same Z U)
 case done =>
  rintro N ⟨Hj,q,B,e,I',sm,na,nk,S,L,rk,U⟩;rw[Nat.zero_add,←l4,l3,List.take_length]at U;exact wpAny_bind (listItems_at L rfl (HW (by omega) I' sm (fa.at na) (fk.at nk) ne S L rk U rx rd h2 h64 fun s2 ys es I2 a1 a2 a3=>h s2 Hj ys es I2 sm na a1 a2 a3))
theorem DF {k:Nat}{f l:Addr}{fd:FuncData}{ps:aW}(F:cA X.prog X.w X.K X.mg X.base a0 k f fd ps spKey)(N:fN X.K fd ps [])(hr:eK (k+2) X.A)(I:aO X pins σ H s)(hl:H l=some (.lst xs))(rd:Reps H ds xs)(fl:∀d∈ds,Fl d/\nds d<=1000)(h2:2<=ds.length)(S:ds.length<64){Q:VK}
  (h:∀L ys q H',aH H H'->H L=none->H' L=some (.lst ys)->q.Perm ds->q.Pairwise leK->Reps H q ys->Q (.ref L) H') :
  wpAny (model X.prog X.w) X.A (call (.builtin "sorted") [.ref l] [(Str.ofString "key",.ref f)]) (EP X pins σ Q) E s:=by
 obtain⟨its,rx,pl,hz⟩:=I.list (fA.of hl);have l3:=Reps.len rd;have l4:=rx.length;refine call_function_entry_kw kind_sorted plain_sorted entry_sorted (ksk_s1 _ _) ?_;unfold Builtin.«sorted»;refine wpAny_bind (m:=checkCount "sorted" 1 1 _) (wpAny_pure (wpAny_bind (collect_list pl.isList ?_ (by omega))));refine wpAny_bind (wpAny_newList ?_ (by omega));have k1:∀b o,s.heap.get? b=some o->((s.heap.push (seqObj "list" #[] 0)).update s.heap.objs.size (Obj.mapSeq fun x=>x++its.toArray)).get? b=some o:=fun b o e=>by have lt:=Heap.lt_size e;rw[Heap.get?_update_ne _ _ _ _ (Nat.ne_of_lt lt)];exact Heap.get?_push_of_some _ e
 have G:s.heap.objs.size<=((s.heap.push (seqObj "list" #[] 0)).update s.heap.objs.size (Obj.mapSeq fun x=>x++its.toArray)).objs.size:=by rw[Heap.size_update,Heap.size_push];omega
 dsimp only;generalize (s.heap.push (seqObj "list" #[] 0)).update s.heap.objs.size (Obj.mapSeq fun x=>x++its.toArray)=h1 at k1 G⊢;have I2:aO X pins σ H {s with heap:=h1.push (seqObj "list" its.toArray 0)}:=I.kept (t':=s.toks) fun b o e=>Heap.get?_push_of_some _ (k1 b o e);have nD:=I.hok.fresh G;have j:=I.fpOk G nD;have B:(h1.push (seqObj "list" its.toArray 0)).get? h1.objs.size=some (seqObj "list" its.toArray 0):=Heap.get?_push_size _ rfl;refine wpAny_bind (wpAny_holding (wpAny_call_entry_kw slot_list_sort ⟨_,B,rfl⟩ entry_list_sort ?body (ksk_l1 _ _)));show wpAny (model X.prog X.w) X.A.in1.in1 (ksk_tree h1.objs.size (.ref f) false) _ _ _;unfold ksk_tree;refine wpAny_bind (listItems_at B rfl ?_);refine wpAny_bind (listUpdate_at B rfl ?_ (by rw[List.size_toArray];omega) (Nat.zero_le _));have sb:=Heap.SameBut.update (h1.push (seqObj "list" its.toArray 0)) h1.objs.size (Obj.mapSeq fun _=>(#[]:i4));have U:=get?_update_seq B fun _=>(#[]:i4)
 have I3:=I2.turned (t':=s.toks) (fun b o N z=>(sb.2 b N).trans z) j.1 j.2.1 j.2.2.2.1 j.2.2.2.2.1 j.2.2.2.2.2;refine wpAny_bind (seqEpoch_at U rfl ?_);refine wpAny_bind (wpAny_newTuple ?_ (by show its.length<=_;omega));refine wpAny_bind (wpAny_newList (wpAny_holding ?_) (Nat.zero_le _));have Z:=I3.kept (t':=s.toks) fun b o e=>Heap.get?_push_of_some {cls:=.type "tuple",data:=.seq its.toArray} e;have I5:=Z.kept (t':=s.toks) fun b o e=>Heap.get?_push_of_some {cls:=.type "list",data:=.seq #[]} e;have fk:=Z.fpOk (Nat.le_refl _) (Z.hok.fresh (Nat.le_refl _));have gk:=Heap.get?_push_of_some {cls:=.type "list",data:=.seq #[]} (Heap.get?_push_of_some {cls:=.type "tuple",data:=.seq its.toArray} U);refine FC F N hr.in1.in1 (I.ok.frames) I5 j fk (fun z=>?_) gk (Heap.get?_push_size _ rfl) rx rd fl h2 S fun s' H' ys q I' sm na a1 a2 a3=>⟨_,rfl,wpAny_pure ⟨_,rfl,.ref h1.objs.size,_,I',rfl,h _ ys q _ (sm.trans (aH.upd na)) nD upd_same a1 a2 a3⟩⟩
 have lt:=Heap.lt_size (Heap.get?_push_of_some {cls:=.type "tuple",data:=.seq its.toArray} U);exact Nat.ne_of_gt lt z
end
noncomputable def OP (G:TA):TE:=fun σ H Q=>G σ H fun vs j=>∃l xs ds,vs=[.ref l]/\j l=some (.lst xs)/\Reps j ds xs/\(∀d∈ds,Fl d/\nds d<=1000)/\2<=ds.length/\ds.length<64 /\
 ∀q ys B H',aH j H'->j q=none->H' q=some (.lst ys)->B.Perm ds->B.Pairwise leK->Reps j B ys->Q (.ref q) H'
theorem B9 {X:Cx}{k:Nat}{e:Expr}{Z:TA}{p p3 G j:Pos}(O:cK X.prog X.w X.K X.mg X.base a0 k "order_key" spKey)(hr:eK (k+2) X.A)(hg:Gl X "sorted")(hm:X.mg "sorted" = none)(S:Gl X "order_key")(ha:PA X [e] Z)
  (he:backTo j (starEach [e] X.env)=(false,eval e X.env)::backTo j (starEach [] X.env):=by rfl) (N:(backTo j (starEach [e] X.env)).any (·.1)=false:=by rfl):PE X (.Call (.Name "sorted" p) [e] [⟨some "key",.Name "order_key" p3,G⟩] j) (OP Z):=by
 obtain⟨f,fd,ps,F,hf,hk,hb⟩:=O;intro B s σ H Q I h;refine wpAny_Call_Name_kw (mX I hg hm (u:=.builtin "sorted") rfl ?_);refine callWith_kw (thn (ha j B s σ H _ I h) fun us s1 ⟨vs,H1,I1,r1,q1⟩=>?_) he N;have pk:PK X [⟨some "key",.Name "order_key" p3,G⟩] (tCons (tC (.ref f)) tNil):=LN (gO ⟨_,hf,rfl⟩ S) O3;refine thn (pk j B s1 σ H1 (fun vs H2=>vs=[.ref f]/\H2=H1) I1 ⟨rfl,rfl⟩) fun kus s2 ⟨kvs,H2,I2,r2,e1,e2⟩=>?_;subst e1 e2;obtain⟨ku,rfl,L⟩:=aR.one r2;cases L;obtain⟨l,xs,ds,rfl,hl,rd,fl,h2,U,q⟩:=q1;obtain⟨u,rfl,ru⟩:=aR.one r1;cases ru;exact DF F hb hr I2 hl rd fl h2 U q
end Lw
namespace Lw
open PySem L2
section
variable {P:Program}{w:World}{K:PySem.W.Frag}{mg:fM}{base:Heap}
theorem O9 (n z:Str)(d:D)(j:Fl d):opn1 n z d=if eqD d (.str z)=true then []else opP n d:=by
 rcases jL j with⟨x,rfl,_⟩|⟨m,q,rfl,_⟩
 ·rfl
 ·have e:eqD (.tup (.str m::q)) (.str z)=false:=rfl;rw[e,if_neg (by decide)];rfl
theorem qI:∀(ds l:List D),(∀d∈ds,Fl d)->(∀d∈l,Fl d)->l.Pairwise leK->(ds.foldl (fun l d=>insA d l) l).Pairwise leK
 | [],l,_,_,h=>h
 | d::ds,l,hd,q,h=>by
  refine qI ds (insA d l) (fun e j=>hd e (List.mem_cons_of_mem _ j)) (fun e j=>?_) (qK (hd d List.mem_cons_self) q h);rcases List.mem_cons.mp ((lZ d l).mem_iff.mp j)with rfl|j
  ·exact hd _ List.mem_cons_self
  ·exact q e j
theorem jJ {ds:List D}(h:∀d∈ds,Fl d):(cM ds).Pairwise leK:=qI ds [] h (fun _ h=>by cases h) .nil
theorem FB {ds j:List D}(h:∀d∈ds,Fl d)(p:j.Perm ds)(s:j.Pairwise leK):j=cM ds :=
 mS (fun d hd=>h d (p.mem_iff.mp hd)) (p.trans (bR ds).symm) s (jJ h)
theorem D7:∀{ds:List D} {d:D},d∈ds->nds d<=ndss ds
 | e::ds,d,h=>by
  rw[ndss];obtain rfl|h:=List.mem_cons.mp h
  ·omega
  ·have:=D7 h;omega
theorem IT (n z:Str)(d:D):ndss (opn1 n z d)<=nds d:=by
 unfold opn1;split
 ·split
  ·rw[nds];omega
  ·rw[ndss,ndss];omega
 ·split
  ·rw[ndss];omega
  ·rw[ndss,ndss];omega
theorem xU (n z:Str):∀ds:List D,ndss (opn n z ds)<=ndss ds
 | []=>Nat.le_refl _
 | d::ds=>by rw[lD,gQ,ndss];have:=IT n z d;have:=xU n z ds;omega
noncomputable def oY:Sp:=fun vs H Q _=>∃(n z:Str) (a:Addr) (ds:List D) (ws:List V),vs=[.str n,.str z,.ref a]/\H a=some (.lst ws)/\Reps H ds ws/\Fls ds/\szs ds<=60/\ndss ds<=1000/\depDs ds<=50 /\
 ∀(j:V) (H':Hp),aH H H'->bD H' (one n z (cM (opn n z ds))) j->Q j H'
noncomputable def SO (a l:Addr)(n z:Str)(ds:List D)(H:Hp)(i:Nat)(σ:St)(j:Hp):Prop:=∃(us:List V) (o:Option V),σ=[some (.str n),some (.str z),some (.ref a),some (.ref l),o]/\j l=some (.lst us)/\aH H j/\Reps j (opn n z (ds.take i)) us
theorem CH {f:Addr}{fd:FuncData}(F:gU K "flat_sum" "flat_sum" fS f fd)(T:Txt mg)(O_opened:cK P w K mg base a0 1 "opened" oW)(O_order_key:cK P w K mg base a0 2 "order_key" spKey):cA P w K mg base a0 5 f fd nC oY:=by
 refine F.ok kY (fun vs H Q E h=>?_) (fun cdv A outer s H vs Q E hr h=>?_)
 ·obtain⟨n,z,a,ds,ws,rfl,_⟩:=h;rfl
 ·obtain⟨n,z,a,ds,ws,rfl,S,Z,G,I,j,L,q⟩:=h;have hu:=hr.units
  refine⟨_,(aF (aY (i:=3) kY.nd rfl (Or.inl rfl) (cI aC))
   (aF (eI PassesOwn.never rfl (dM K rfl (pv 2)) (bQ (i:=4) kY.nd rfl (Or.inl rfl)) (aG (bK (aV (fJ hu) (pv 4) (pv 1) (nomark _)) (aG (cJ (jC PySem.F.plainAttrs_list PySem.F.slot_list_extend PySem.F.type_list_extend x0 (pv 3) (aA (aM O_opened (hr.mono (by decide)) pass0 rfl (aA (pv 0) (aA (pv 4) aC))) aC)))) aU)))
   (aF (bK (dC (aX K rfl (pv 3) (fun _=>rfl))) (aG (aQ (pv 1))) aU)
   (aF (bK (aV (eJ hu) (aK bH rfl T.n_len rfl (aA (pv 3) aC)) aJ (nomark _)) (aG (aQ (bP dN (pv 3) aJ (fun _ _=>rfl)))) aU)
   (aG (aQ (cC gB rfl T.n_tuple rfl (aA (bO bV (cI (aA (pv 0) aC)) (B9 O_order_key (hr.mono (by decide)) rfl T.n_sorted rfl (aA (pv 3) aC))) aC)))))))),?_⟩
  simp only[uB];clear hr F T hu O_opened O_order_key;have keep:=aI q (aI S (aI Z (aI G (aI I (aI j L)))));clear q S Z G I j L
  walk_at "rd"
  obtain⟨q,S,Z,G,I,j,L⟩:=keep;refine⟨by decide,fun l hl=>⟨ws,.inl (by rw[aB (aE S hl)];exact S),fun J hJ=>?_⟩⟩;have s1:aH H (upd H l (.lst [])):=aH.upd hl;have h1:upd H l (.lst []) l=some (.lst []):=upd_same;generalize upd H l (.lst [])=H1 at s1 h1 hJ⊢;have B:∀i,(opn n z (ds.take i)).length<=60:=fun i=>by have h1:=kB (opn n z (ds.take i));have U:=sE n z (ds.take i);have h3:=zH i ds;omega
  have lw:=Reps.len Z;refine jF hJ (SO a l n z ds H) ⟨[],none,rfl,h1,s1,rfl⟩ (by rintro i σ H' _ ⟨_,_,_,_,s2,_⟩;rw[s2 _ _ S,s1 _ _ S]) ?_ ?_
  ·rintro i x σ H2 hx ⟨us,o,rfl,U,s2,N⟩;obtain⟨d,hd,rx⟩:=Reps.get Z hx;have fd:=G.get hd;have dd:=iV hd;have keep:=aI q (aI S (aI Z (aI G (aI I (aI j (aI L (aI hl (aI U (aI s2 (aI N (aI hd (aI rx (aI fd (aI dd B))))))))))))));clear q S Z G I j L hl U s2 N hd rx fd dd B s1 h1 hJ hx
   walk_at "rd"
   obtain⟨q,S,Z,G,I,j,L,hl,U,s2,N,hd,rx,fd,dd,B⟩:=keep;refine⟨d,.str z,bD.same s2 rx,rfl,by omega,_,rfl,?_⟩;have lu:=Reps.len N;have e1:=O9 n z d fd;cases he:eqD d (.str z)with
   | true =>
    rw[if_neg (by decide)];rw[he,if_pos rfl]at e1;exact⟨us,_,rfl,U,s2,by rw[aZ hd,hU,e1,List.append_nil];exact N⟩
   | false =>
    rw[if_pos (by decide)];rw[he,if_neg (by decide)]at e1;refine⟨tyL U,n,d,x,rfl,bD.same s2 rx,fd,fun l2 vs2 H3 s3 hl2 h3 r3=>?_⟩;have l3:=s3 _ _ U;have lv:=Reps.len r3;have sm:=B (i+1);rw[aZ hd,hU,List.length_append,e1]at sm;have f2:Fls (opn n z (ds.take i)++opP n d):=by rw[←e1,←hU,←aZ hd];exact sF (jK fun e he=>fG G e (List.mem_of_mem_take he))
    refine⟨l,l2,us,vs2,rfl,rfl,l3,.inl h3,Nat.le_trans (m:=100) (by omega) (by decide),us++vs2,_,rfl,upd_same,fun b o hb=>by rw[aB (aE hb hl)];exact s3 _ _ (s2 _ _ hb),?_⟩;rw[aZ hd,hU,e1];exact Reps.tups (bC.lst l3) f2 (Reps.append (Reps.same s3 N) (Reps.same s3 r3))
  ·rintro σ H2 ⟨us,o,rfl,U,s2,N⟩;rw[lw,List.take_length]at N;have keep:=aI q (aI S (aI Z (aI G (aI I (aI j (aI L (aI hl (aI U (aI s2 (aI N B))))))))));clear q S Z G I j L hl U s2 N B s1 h1 hJ
   walk_at "rd"
   obtain⟨q,S,Z,G,I,j,L,hl,U,s2,N,B⟩:=keep;have fo:=sF (n:=n) (z:=z) G;have lu:=Reps.len N;have sm:=B ds.length;rw[List.take_length]at sm;have nn:=xU n z ds;refine⟨!us.isEmpty,.inl ⟨us,fA.of U,rfl⟩,?_⟩;generalize hos:opn n z ds=os at fo lu sm nn N q;clear hos
   match os,fo,lu,sm,nn,N,q with
   | [],fo,lu,sm,nn,N,q =>
    cases (show us=[]from N);rw[if_pos (by decide)];exact q _ _ s2 rfl
   | [d],fo,lu,sm,nn,⟨u,_,e,h,e'⟩,q =>
    subst e;cases (show _=[]from e');rw[if_neg (by simp),if_pos (by simp)];exact⟨u,atI_zero,q _ _ s2 h⟩
   | d::d2::os',fo,lu,sm,nn,N,q =>
    have l2:us.length=os'.length+2:=by rw[lu];rfl
    have ne:us≠[]:=fun z=>by rw[z]at l2;simp at l2
    rw[if_neg (by cases us with|nil=>exact absurd rfl ne|cons a b=>simp),if_neg (by omega)];refine⟨by decide,fun p hp=>?_⟩;have sp:aH H2 (upd H2 p (.lst [.str n])):=aH.upd hp;have hpp:upd H2 p (.lst [.str n]) p=some (.lst [.str n]):=upd_same;generalize upd H2 p (.lst [.str n])=H3 at sp hpp⊢;have all:∀e∈d::d2::os',Fl e:=fG fo;refine⟨_,rfl,l,us,d::d2::os',rfl,sp _ _ U,Reps.same sp N,fun e he=>⟨all e he,by have:=D7 he;omega⟩,by simp,by simp only[List.length_cons]at sm⊢;omega,fun l' ys es H4 s4 hl' h4 pm so re=>?_⟩;have ees:=FB all pm so;have ly:=Reps.len re;have le:=pm.length_eq;refine⟨.lst (.str n::ys),rG (s4 _ _ hpp) h4 (Nat.le_trans (m:=100) (by simp only[List.length_cons,List.length_nil]at sm le⊢;omega) (by decide)),fun p5 hp5=>⟨.str n::ys,.inl upd_same,fun l6 H6 hc=>?_⟩⟩;rcases hc with⟨hc,_⟩|⟨_,hl6,rfl⟩
    ·cases hc
    ·have s6:aH H4 (upd (upd H4 p5 (.lst (.str n::ys))) l6 (.tup (.str n::ys))):=(aH.upd hp5).trans (aH.upd hl6);refine q _ _ ((s2.trans (sp.trans s4)).trans s6) ?_;rw[zW (by rw[(bR _).length_eq];simp),←ees];exact⟨l6,_,rfl,upd_same,.str n,ys,rfl,rfl,Reps.same (s4.trans s6) re⟩
noncomputable def gW (K:PySem.W.Frag)(C:Addr):Sp:=fun vs H Q _=>∃(g:Addr) (fx:cL) (sm:bM) (n:Str) (a:Addr) (ds:List D) (ws:List V),vs=[.ref g,.str n,.ref a]/\iK K C fx sm H g/\H a=some (.lst ws)/\Reps H ds ws/\Fls ds/\szs ds<=60/\ndss ds<=1000/\depDs ds<=50 /\
 ∀(j:V) (H':Hp),aH H H'->bD H' (knot sm n ds) j->Q j H'
theorem CG {f C:Addr}{fd:FuncData}(F:gU K "flat_of_parts" "flat_of_parts" cU f fd)(T:Txt mg)(M_nought:G8 P w K mg base a0 1 C "nought" (nM K C))(O_flat_sum:cK P w K mg base a0 5 "flat_sum" oY):cA P w K mg base a0 6 f fd iA (gW K C):=by
 refine F.ok j5 (fun vs H Q E h=>?_) (fun cdv A outer s H vs Q E U h=>?_)
 ·obtain⟨g,fx,sm,n,a,ds,L,rfl,_⟩:=h;rfl
 ·obtain⟨g,fx,sm,n,a,ds,L,rfl,sg,S,N,G,B,j,I,q⟩:=h;have hu:=U.units
  refine⟨_,(aF (aY (i:=3) j5.nd rfl (Or.inl rfl) (xT M_nought (U.mono (by decide)) pass0 (pv 0) (aA (pv 1) aC)))
   (aF (bK (aV PD (pv 3) xS (nomark _)) (aG (aQ (cC gB rfl T.n_tuple rfl (aA (bO bV (cI (aA (pv 1) aC)) (pv 2)) aC)))) aU)
   (aG (aQ (aM O_flat_sum (U.mono (by decide)) pass0 rfl (aA (pv 1) (aA (pv 3) (aA (pv 2) aC)))))))),?_⟩
  simp only[kT];clear U F T hu M_nought O_flat_sum;have keep:=aI q (aI S (aI N (aI G (aI B (aI j (aI I sg))))));clear q S N G B j I sg
  walk_at "rd"
  obtain⟨q,S,N,G,B,j,I,sg⟩:=keep;obtain⟨dx,fs,_,_,h1,_,h3,_⟩:=sg.ex;refine⟨_,rfl,g,dx,fs,rfl,h1,h3,_,rfl,g,n,fx,sm,rfl,sg,?_⟩;unfold knot at q;cases hz:zr sm n with
  | none =>
   have e0:nulV sm n = .non:=by unfold nulV;rw[hz];rfl
   rw[hz]at q;rw[e0,if_pos rfl];have lw:=Reps.len N;have:=kB ds;refine⟨by decide,fun p hp=>⟨.lst (.str n::L),rG upd_same (by rw[aB (aE S hp)];exact S) (Nat.le_trans (m:=100) (by simp;omega) (by decide)),fun p5 Z=>⟨.str n::L,.inl upd_same,fun l6 H6 hc=>?_⟩⟩⟩;rcases hc with⟨hc,_⟩|⟨_,hl6,rfl⟩
   ·cases hc
   ·have s6:aH H (upd (upd (upd H p (.lst [.str n])) p5 (.lst (.str n::L))) l6 (.tup (.str n::L))):=((aH.upd hp).trans (aH.upd Z)).trans (aH.upd hl6);exact q _ _ s6 ⟨l6,_,rfl,upd_same,.str n,L,rfl,rfl,Reps.same s6 N⟩
  | some z =>
   have e0:nulV sm n = .str z:=by unfold nulV;rw[hz];rfl
   rw[hz]at q;rw[e0,if_neg (by simp)];exact⟨n,z,a,ds,L,rfl,S,N,G,B,j,I,q⟩
end
end Lw
namespace L2
open PySem PySem.Spec PyProof.Rows
theorem LX {X:Cx}(K:PySem.W.Frag)(S:X.K=K){o:Expr}{L:TE}{name:Str}{q j:Pos}{T id:String}{r:V->List V->Hp->VK->Prop}(pa:PlainAttrs T)(slot:Slot T name id)(I:typeOf (.builtin id)=pure (.type "method_descriptor"))(N:RS X id r)(ho:PE X o L)
  (G:attributeBase o name X.env (eval o X.env)=eval o X.env:=by rfl) (B:(q.endLine == j.line)=true:=by rfl):PE X (.Call (.Attribute o name q) [] [] j) (tBM0 K T r L):=by
 subst S;exact pF pa slot I N ho G B
noncomputable abbrev pinO (a:Addr)(o:Obj):HO:=.ext fun h=>h.get? a=some o
theorem xQ {P:Program}{w:World}{H:Hp}{h:Heap}{a:Addr}{o:Obj}(e:h.get? a=some o):bY P w H h a (pinO a o):=⟨e,⟨o,e⟩,fun B j q k=>k o q⟩
theorem nW {P:Program}{w:World}{H:Hp}{h:Heap}{a:Addr}{o:Obj}(ok:gR P w H h)(e:H a=some (pinO a o)):h.get? a=some o:=(ok a _ e).1
noncomputable def del1 (H:Hp)(p:Addr):Hp:=fun b=>if b=p then none else H b
theorem KG {H:Hp}{p b:Addr}{o:HO}(h:del1 H p b=some o):H b=some o/\b≠p:=by
 unfold del1 at h;by_cases e:b=p
 ·rw[if_pos e]at h;cases h
 ·rw[if_neg e]at h;exact⟨h,e⟩
theorem iQ {H:Hp}{p b:Addr}(h:H b=none):del1 H p b=none:=by
 unfold del1;split
 ·rfl
 ·exact h
theorem d5 {H:Hp}{p b:Addr}(h:b≠p):del1 H p b=H b:=by unfold del1;rw[if_neg h]
theorem mB {H:Hp}{p:Addr}:del1 H p p=none:=by unfold del1;rw[if_pos rfl]
theorem gR.del {P:Program}{w:World}{H:Hp}{h:Heap}{c:Addr}{φ:Heap->Prop}(ok:gR P w H h)(e:H c=some (.ext φ)):gR P w (del1 H c) h:=fun a o q=>by obtain⟨j,B⟩:=KG q;exact(ok a o j).stay (fun _ _ _ z=>z) (fun b z=>by rw[d5 (fun w=>by rw[w,e]at z;cases z)];exact z) (fun b xs z=>by rw[d5 (fun w=>by rw[w,e]at z;cases z)];exact z)
theorem gR.back {P:Program}{w:World}{H:Hp}{h:Heap}{c:Addr}{o:Obj}(ok:gR P w H h)(n:H c=none)(e:h.get? c=some o):gR P w (upd H c (pinO c o)) h:=fun a u q=>by
 by_cases z:a=c
 ·subst z;rw[upd_same]at q;cases q;exact xQ e
 ·rw[aB z]at q;exact(ok a u q).stay (fun _ _ _ z=>z) (fun b z=>by rw[aB (aE z n)];exact z) (fun b xs z=>by rw[aB (aE z n)];exact z)
end L2
namespace Lw
open PySem PySem.Spec PyProof.Rows L2
noncomputable def lamOf (s:Stmt):Expr:=match aN s with
 | [.Return (some (.Call _ [_,_,e] _ _)) _]=>e
 | _=>.Name "" ⟨0,0,0,0⟩
noncomputable def PY (e:Expr):Arguments:=match e with
 | .Lambda a _ _ _=>a
 | _=>default
noncomputable def PZ (e:Expr):Expr:=match e with
 | .Lambda _ b _ _=>b
 | e=>e
noncomputable def lamSc (e:Expr):Scope:=match e with
 | .Lambda _ _ s _=>s
 | _=>default
noncomputable abbrev pL:Arguments:=PY (lamOf cX)
noncomputable abbrev bL:Expr:=PZ (lamOf cX)
noncomputable abbrev scL:Scope:=lamSc (lamOf cX)
noncomputable def qL:Str:="put_in.<locals>.<lambda>"
noncomputable abbrev oL (c0 c':Addr)(pm ctv:Value):Obj:=PySem.W.kla_obj "<lambda>" qL pL bL scL [("signs",c0)] pm c' ctv
noncomputable abbrev envL (L fl c0 c':Addr):Env:=newEnv scL L mainGlobals [("signs",c0)] (qL++".<locals>.") (some fl) (.ref c') none builtinsNs
noncomputable def cxL (P:Program)(w:World)(K:PySem.W.Frag)(mg:fM)(base:Heap)(A:Around)(outer:List Env)(s:Shared)(H:Hp)(j q B:Addr):Cx where
 prog:=P
 w:=w
 K:=K
 mg:=mg
 base:=base
 A:=A.deeper (envL s.heap.objs.size j q B)
 N:=["name","parts","signs"]
 s₀:=s
 H₀:=H
 env:=envL s.heap.objs.size j q B
 outer:=outer
 stack:=envL s.heap.objs.size j q B::outer
 ex:=[]
 fn:=fun _=>false
 calm:=true
 pn:=[]
 xe:=fun _ _=>False
theorem C8 {x:Str}(h:scL.names.lookup x=some .cell∨scL.names.lookup x=some .free):x="signs":=by
 have all:∀y∈scL.names,(y.2 = .cell∨y.2 = .free)->y.1=("signs" : Str):=by decide +kernel
 rcases h with h|h
 ·exact all _ (PySem.mem_of_lookup h) (.inl rfl)
 ·exact all _ (PySem.mem_of_lookup h) (.inr rfl)
section
variable {P:Program}{w:World}{K:PySem.W.Frag}{mg:fM}{base:Heap}
theorem MV {A:Around}{outer:List Env}{s:Shared}{H:Hp}{g fl j Z a C:Addr}{pm ctv u1 u2:Value}{B oc':Obj}{vsc:i4}{tq:Tok}{n:Str}{k:Nat}{Q:VK}(hr:eK (k+1) A)(G:uS P w K mg base A outer s H)
  (hfl:H fl=some (pinO fl (oL j Z pm ctv))) (N:H j=some (pinO j B)) (hd0:B.data = .cell (some (.ref g))) (hc':H Z=some (pinO Z oc')) (hcd:oc'.data = .fields vsc) (hq:vsc[1]?=some (.str qL tq))
  (O:cK P w K mg base a0 k "flat_of_parts" (gW K C)) (r1:aT (.str n) u1) (r2:aT (.ref a) u2) (sp:gW K C [.ref g,.str n,.ref a] (del1 H j) (fun v H'=>H' j=none->Q v (upd H' j (pinO j B))) E0) :
  codeAny (model P w) A (.call (.ref fl) ⟨[u1,u2],[]⟩) (CR a0 outer P w H s Q E0) s:=by
 have gfl:=nW G.hok hfl;have g0:=nW G.hok N;have g':=nW G.hok hc';have lim:s.heap.NoLimit:=G.mod.nolimit.keeps fun b o e=>(G.bs b o e).1;refine PySem.W.kla_callFunE hr.depth gfl rfl rfl rfl rfl ⟨Z,oc',vsc,tq,rfl,g',hcd,hq⟩ ?_;rw[show bindArgs (PySem.W.kla_fn "<lambda>" qL pL bL scL [("signs",j)] pm (.ref Z) ctv) ⟨[u1,u2],[]⟩=pure [(("name" : Str),u1),(("parts" : Str),u2)]from rfl];have nc:∀x∈scL.names,x.2≠.cell:=by decide +kernel
 have nl:∀x∈[(("name" : Str),u1),(("parts" : Str),u2)],scL.names.lookup x.1=some .local:=by
  intro x L;obtain rfl|L:=List.mem_cons.mp L
  ·rfl
  ·rw[List.mem_singleton.mp L];rfl
 refine wpAny_pure (wpAny_newFunctionEnv nc nl (fun h' hns hsb=>⟨lim.fresh _ hsb,?_⟩) rfl);have hk:∀b o,s.heap.get? b=some o->h'.get? b=some o:=fun b o e=>hsb.extBut b o (Nat.ne_of_lt (Heap.lt_size e)) (Heap.get?_push_of_some _ e);have ok1:=G.hok.del N;have nfr:j∉frs outer:=fun z=>by have:=G.frf j z;rw[N]at this;cases this
 have I:aO (cxL P w K mg base A outer s (del1 H j) fl j Z) [] [some (.str n),some (.ref a),some (.ref g)] (del1 H j) {s with heap:=h',toks:=s.toks+2}:=by
  have noA:∀b:Addr,b∉(cxL P w K mg base A outer s (del1 H j) fl j Z).ex:=fun b z=>absurd (show b∈([]:List Addr)from z) (by simp);have one:∀x c,(cxL P w K mg base A outer s (del1 H j) fl j Z).env.cells.lookup x=some c->x=("signs" : Str)/\c=j:=fun x c e=>by have e':[(("signs" : Str),j)].lookup x=some c:=e;have:=PySem.mem_of_lookup e';rw[List.mem_singleton]at this;cases this;exact⟨rfl,rfl⟩
  refine⟨⟨G.mod,rfl,rfl,rfl,Nat.le_refl _,fun x y c S U=>?_,fun x L=>?_,fun x c h=>absurd h (by simp[cxL]),fun _=>hr.hd,Around.frames_deeper G.frames,.inr ⟨rfl,rfl⟩,fun b z=>absurd z (noA b),fun b o e=>⟨(G.bs b o e).1,iQ (G.bs b o e).2⟩,G.bsz,fun b _ _=>noA b,fun b z=>absurd z (noA b),G.funs,fun b z=>iQ (G.frf b z)⟩,
   rfl,G.bare,Un.kept hk,⟨_,hns,fun i x v S U h3=>?_⟩,fun x c h=>?_,ok1.fresh (Nat.le_refl _),fun x c h=>?_,fun p hp=>absurd (show p∈([]:cW)from hp) (by simp),ok1.kept hk,rfl⟩
  ·rw[(one x c S).1,(one y c U).1]
  ·rw[C8 L];exact⟨j,rfl⟩
  ·match i,S,U with
   | 0,S,U=>cases S;cases U;exact⟨u1,r1,.inl ⟨rfl,rfl⟩⟩
   | 1,S,U=>cases S;cases U;exact⟨u2,r2,.inl ⟨rfl,rfl⟩⟩
   | 2,S,U=>cases S;cases U;exact⟨.ref g,rfl,.inr ⟨.inr rfl,j,rfl,B,hk _ _ g0,hd0⟩⟩
   | i+3,S,U=>cases S
  ·rw[(one x c h).2];exact⟨_,B,hk _ _ g0,hd0⟩
  ·rw[(one x c h).2];exact mB
 have pb:PE (cxL P w K mg base A outer s (del1 H j) fl j Z) bL (tCall (gW K C) [] E0 (tCons (tVar 2) (tCons (tVar 0) (tCons (tVar 1) tNil)))):=aM O (hr.deeper _) pass0 rfl (aA (pv 2) (aA (pv 0) (aA (pv 1) aC)));refine PySem.W.kla_codeExpr (wpAny_mono (pb [] _ _ _ (fun v H'=>H' j=none->Q v (upd H' j (pinO j B))) I ⟨_,rfl,_,rfl,_,rfl,sp⟩) (fun u s' ⟨v,H',J,rv,q⟩=>?_) fun _ _ z=>z.elim);have un:Un (frs outer) [] (del1 H j) H' s.heap s'.heap:=J.base;have gs:=un.keep j B g0 mB nfr (by simp);have nn:=un.free j B g0 mB (by simp);refine⟨v,upd H' j (pinO j B),J.os,J.bare,?_,J.hok.back nn gs,rv,q nn⟩;have ne:∀b u,H b=some u->(∀φ,u≠.ext φ)->b≠j:=fun b u e z w=>by rw[w,N]at e;cases e;exact z _ rfl
 refine⟨fun b o e z hb L=>un.keep b o e (iQ z) hb L,fun b o e z hb L=>un.slot b o e (iQ z) hb L,fun b o e z L=>?_,fun b o e L=>un.there b o e L,fun b xs e=>?_,fun b o u' e=>?_,fun b ps e=>?_⟩
 ·rw[aB (fun w=>by rw[w,N]at z;cases z)];exact un.free b o e (iQ z) L
 ·have nb:=ne b _ e (fun φ=>by simp);rw[aB nb];exact un.tups b xs (by rw[d5 nb];exact e)
 ·have nb:=ne b _ e (fun φ=>by simp);rw[aB nb];exact un.frzs b o u' (by rw[d5 nb];exact e)
 ·have nb:=ne b _ e (fun φ=>by simp);rw[aB nb];exact un.tbls b ps (by rw[d5 nb];exact e)
end
noncomputable def BH (H:Hp)(B j g:Addr):Prop:=∃(q:Addr) (pm ctv:Value) (oc0 oc':Obj) (vsc:i4) (tq:Tok),H B=some (pinO B (oL j q pm ctv))/\H j=some (pinO j oc0)/\oc0.data = .cell (some (.ref g))/\H q=some (pinO q oc')/\oc'.data = .fields vsc/\vsc[1]?=some (.str qL tq)
theorem BH.same {H H':Hp}{I L g:Addr}(h:BH H I L g)(s:aH H H'):BH H' I L g:=by obtain⟨c',S,G,q,B,j,N,h1,h2,h3,Z,U⟩:=h;exact⟨c',S,G,q,B,j,N,s _ _ h1,s _ _ h2,h3,s _ _ Z,U⟩
mutual
theorem bD.del1 {H:Hp}{c:Addr}{φ:Heap->Prop}(e:H c=some (.ext φ)):∀{d:D} {v:V},bD H d v->bD (L2.del1 H c) d v
 | .non,v,h | .bl _,v,h | .int _,v,h | .str _,v,h=>h
 | .tup ds,v,⟨a,vs,B,j,q⟩=>⟨a,vs,B,by rw[d5 (fun z=>by rw[z,e]at j;cases j)];exact j,Reps.del1 e q⟩
 | .lst ds,v,⟨a,vs,B,j,q⟩=>⟨a,vs,B,by rw[d5 (fun z=>by rw[z,e]at j;cases j)];exact j,Reps.del1 e q⟩
theorem Reps.del1 {H:Hp}{c:Addr}{φ:Heap->Prop}(e:H c=some (.ext φ)):∀{ds:List D} {vs:List V},Reps H ds vs->Reps (L2.del1 H c) ds vs
 | [],vs,h=>h
 | d::ds,vs,⟨v,r,B,q,j⟩=>⟨v,r,B,bD.del1 e q,Reps.del1 e j⟩
end
theorem iK.del1 {K:PySem.W.Frag}{C:Addr}{G:cL}{sm:bM}{H:Hp}{g c:Addr}{φ:Heap->Prop}(e:H c=some (.ext φ))(h:iK K C G sm H g):iK K C G sm (L2.del1 H c) g:=by obtain⟨a,b,n,U,fs,dm,Z,B,S,N,L,I,q,j⟩:=h;exact⟨a,b,n,U,fs,dm,Z,by rw[d5 (fun z=>by rw[z,e]at B;cases B)];exact B,S,N,L,I,by rw[d5 (fun z=>by rw[z,e]at q;cases q)];exact q,by rw[d5 (fun z=>by rw[z,e]at j;cases j)];exact j⟩
noncomputable def tLam (K:PySem.W.Frag)(C:Addr)(i:Nat)(t:TA):TE:=fun σ H Q=>∃B,σ[i]?=some (some (.ref B))/\t σ H fun vs j=>∃(G g:Addr) (fx:cL) (sm:bM) (n:Str) (a:Addr) (ds:List D) (ws:List V),vs=[.str n,.ref a]/\BH j B G g /\
 iK K C fx sm j g/\j a=some (.lst ws)/\Reps j ds ws/\Fls ds/\szs ds<=60/\ndss ds<=1000/\depDs ds<=50/\∀(q:V) (H':Hp),aH j H'->bD H' (knot sm n ds) q->Q q H'
theorem CB {X:Cx}{C:Addr}{k i:Nat}{e1 S:Expr}{t:TA}{p B:Pos}(hN:X.N[i]?=some ("whole" : Str))(hv:RI X.env.scope "whole")(O:cK X.prog X.w X.K X.mg X.base a0 k "flat_of_parts" (gW X.K C))(hr:eK (k+1) X.A)(ha:PA X [e1,S] t)
  (he:starEach [e1,S] X.env=(false,eval e1 X.env)::starEach [S] X.env:=by rfl) (hpl:(backTo B (starEach [S] X.env)).any (·.1)=false:=by rfl):PE X (.Call (.Name "whole" p) [e1,S] [] B) (tLam X.K C i t):=by
 intro G s σ H Q I h;obtain⟨fl,hfl,h⟩:=h;have pw:PE X (.Name "whole" p) (tVar i):=IJ hN hv;refine wpAny_Call_Name_kw (thn (pw G s σ H (fun x H'=>x = .ref fl/\H'=H) I ⟨_,hfl,rfl,rfl⟩) fun f s0 ⟨x,H0,I0,rx,e3,e4⟩=>?_);subst e3 e4;cases rx;have j:=ha B G s0 σ H0 _ I0 h;rw[he]at j⊢;refine PySem.W.callWith_of (P:=fun h=>∃o fd,h.get? fl=some o/\o.data = .func fd) (by show((false || (backTo B (starEach [S] X.env)).any (·.1)) || false)=false;rw[hpl];rfl) (fun h ⟨o,fd,z1,z2⟩=>⟨.frame,.inl rfl,?_⟩) (Calls.evalArgs_plain (thn j fun us s1 ⟨vs,H1,I1,rv,q⟩=>?_))
 ·intro A' Q' E' s' kp q;unfold keeperOf;refine wpAny_bind (wpAny_load (kp _ _ z1) ?_);rw[z2];exact wpAny_pure q
 ·obtain⟨c0,g,fx,sm,n,a,ds,ws,rfl,la,sg,h1,rd,fls,s60,L,d50,q⟩:=q;obtain⟨c',pm,ctv,oc0,oc',vsc,tq,l1,U,l3,l4,l5,l6⟩:=la;obtain⟨u1,u2,rfl,r1,r2⟩:=aR.two rv;refine⟨⟨_,_,nW I1.hok l1,rfl⟩,?_⟩;refine wpAny_call (codeAny_mono (MV (Q:=Q) hr I1.env0 l1 U l3 l4 l5 l6 O r1 r2 ⟨g,fx,sm,n,a,ds,ws,rfl,sg.del1 U,by rw[d5 (fun z=>by rw[z,U]at h1;cases h1)];exact h1,Reps.del1 U rd,fls,s60,L,d50,fun v' H' sm' rp nn=>q v' _ (fun b o e=>?_) (bD.same (aH.upd nn) rp)⟩) fun r s' Z=>?_)
  ·by_cases z:b=c0
   ·subst z;rw[U]at e;cases e;exact upd_same
   ·rw[aB z];exact sm' b o (by rw[d5 z];exact e)
  ·cases r with
   | error e=>exact Z.elim
   | ok fl' =>
    cases fl' with
    | ret u=>exact I1.after Z
    | next=>exact Z.elim
    | brk=>exact Z.elim
    | cont=>exact Z.elim
end Lw
namespace Lw
open PySem L2
section
variable {P:Program}{w:World}{K:PySem.W.Frag}{mg:fM}{base:Heap}
noncomputable def pts:D->List D
 | .tup (.str _::ds)=>ds
 | .lst (.str _::ds)=>ds
 | _=>[]
noncomputable def stk:List D->List D
 | []=>[]
 | x::S=>x::(stk S).drop (pts x).length
mutual
theorem DW:∀{d:D},Wk d->∀S:List D,stk (wlk d++S)=d::stk S
 | .str x,_,S=>by unfold wlk;show stk (.str x::S)=_;rw[stk];rfl
 | .tup (.str n::ds),h,S=>by
  unfold Wk at h;rw[wlk,List.cons_append,stk,nJ h S];show _::(ds++stk S).drop ds.length=_;rw[List.drop_left]
 | .lst (.str n::ds),h,S=>by
  unfold Wk at h;rw[wlk,List.cons_append,stk,nJ h S];show _::(ds++stk S).drop ds.length=_;rw[List.drop_left]
 | .non,h,_ | .bl _,h,_ | .int _,h,_ | .tup [],h,_ | .lst [],h,_ | .tup (.non::_),h,_ | .tup (.bl _::_),h,_ | .tup (.int _::_),h,_ | .tup (.tup _::_),h,_ | .tup (.lst _::_),h,_ | .lst (.non::_),h,_ | .lst (.bl _::_),h,_ | .lst (.int _::_),h,_ | .lst (.tup _::_),h,_ | .lst (.lst _::_),h,_=>by unfold Wk at h;exact absurd h id
theorem nJ:∀{ds:List D},Wks ds->∀S:List D,stk (wlks ds++S)=ds++stk S
 | [],_,S=>rfl
 | d::ds,⟨a,b⟩,S=>by rw[wlks,List.append_assoc,DW a,nJ b];rfl
end
mutual
theorem uX:∀{d:D},Wk d->∀{pre S:List D} {x:D},wlk d=pre++x::S->∃rest,S=wlks (pts x)++rest
 | .str y,_,pre,S,x,e=>by
  unfold wlk at e;cases pre with
  | nil=>cases e;exact⟨[],rfl⟩
  | cons p pre=>have:=congrArg List.length e;simp at this
 | .tup (.str n::ds),h,pre,S,x,e=>by
  unfold Wk at h;rw[wlk]at e;cases pre with
  | nil=>cases e;exact⟨[],by simp[pts]⟩
  | cons p pre=>injection e with _ e;exact kA h e
 | .lst (.str n::ds),h,pre,S,x,e=>by
  unfold Wk at h;rw[wlk]at e;cases pre with
  | nil=>cases e;exact⟨[],by simp[pts]⟩
  | cons p pre=>injection e with _ e;exact kA h e
 | .non,h,_,_,_,_ | .bl _,h,_,_,_,_ | .int _,h,_,_,_,_ | .tup [],h,_,_,_,_ | .lst [],h,_,_,_,_ | .tup (.non::_),h,_,_,_,_ | .tup (.bl _::_),h,_,_,_,_ | .tup (.int _::_),h,_,_,_,_ | .tup (.tup _::_),h,_,_,_,_ | .tup (.lst _::_),h,_,_,_,_ | .lst (.non::_),h,_,_,_,_ | .lst (.bl _::_),h,_,_,_,_ | .lst (.int _::_),h,_,_,_,_ | .lst (.tup _::_),h,_,_,_,_ | .lst (.lst _::_),h,_,_,_,_=>by unfold Wk at h;exact absurd h id
theorem kA:∀{ds:List D},Wks ds->∀{pre S:List D} {x:D},wlks ds=pre++x::S->∃rest,S=wlks (pts x)++rest
 | [],_,pre,S,x,e=>by have:=congrArg List.length e;simp[wlks]at this
 | d::ds,⟨a,b⟩,pre,S,x,e=>by
  rw[wlks]at e;rcases List.append_eq_append_iff.mp e with⟨m,q,j⟩|⟨m,q,j⟩
  ·exact kA b j
  ·cases m with
   | nil=>exact kA b (pre:=[]) (by simpa using j.symm)
   | cons y m =>
    injection j with I G;subst I;obtain⟨rest,B⟩:=uX a q;exact⟨rest++wlks ds,by rw[G,B];show(wlks (pts x)++rest)++wlks ds=_;rw[List.append_assoc]⟩
end
theorem DX:∀{S:List D} {y:D},y∈stk S->y∈S
 | x::S,y,h=>by
  rw[stk]at h;obtain rfl|h:=List.mem_cons.mp h
  ·exact List.mem_cons_self
  ·exact List.mem_cons_of_mem _ (DX (List.mem_of_mem_drop h))
theorem DY:∀S:List D,(stk S).length<=S.length
 | []=>Nat.le_refl _
 | x::S=>by rw[stk,List.length_cons,List.length_cons,List.length_drop];have:=DY S;omega
theorem yP {l:List D}(h:Fls l):Fls l.reverse:=jK fun d hd=>fG h d (List.mem_reverse.mp hd)
theorem AY {l:List D}(h:Fls l)(k:Nat):Fls (l.drop k):=jK fun d hd=>fG h d (List.mem_of_mem_drop hd)
theorem J5 {l:List D}(h:Fls l)(k:Nat):Fls (l.take k):=jK fun d hd=>fG h d (List.mem_of_mem_take hd)
theorem GR (sm:bM)(l:List D)(k:Nat):flts sm (l.drop k)=(flts sm l).drop k:=by rw[cS,cS,List.map_drop]
structure Sub (d x:D):Prop where
 tm:Tm x
 sz:sz x<=sz d
 nd:nds x<=nds d
 dp:depD x<=depD d
mutual
theorem wZ:∀{d:D},Tm d->∀x∈wlk d,Sub d x
 | .str y,h,x,j=>by unfold wlk at j;rw[List.mem_singleton.mp j];exact⟨h,Nat.le_refl _,Nat.le_refl _,Nat.le_refl _⟩
 | .tup (.str n::ds),h,x,j=>by
  rw[wlk]at j;obtain rfl|j:=List.mem_cons.mp j
  ·exact⟨h,Nat.le_refl _,Nat.le_refl _,Nat.le_refl _⟩
  ·unfold Tm at h;obtain⟨a,b,c,e⟩:=rR h.2 x j;exact⟨a,by rw[sz];omega,by rw[nds];omega,by rw[depD,depDs];omega⟩
 | .lst (.str n::ds),h,x,j=>by
  rw[wlk]at j;obtain rfl|j:=List.mem_cons.mp j
  ·exact⟨h,Nat.le_refl _,Nat.le_refl _,Nat.le_refl _⟩
  ·unfold Tm at h;obtain⟨a,b,c,e⟩:=rR h.2 x j;exact⟨a,by rw[sz];omega,by rw[nds];omega,by rw[depD,depDs];omega⟩
 | .non,h,_,_ | .bl _,h,_,_ | .int _,h,_,_ | .tup [],h,_,_ | .lst [],h,_,_ | .tup (.non::_),h,_,_ | .tup (.bl _::_),h,_,_ | .tup (.int _::_),h,_,_ | .tup (.tup _::_),h,_,_ | .tup (.lst _::_),h,_,_ | .lst (.non::_),h,_,_ | .lst (.bl _::_),h,_,_ | .lst (.int _::_),h,_,_ | .lst (.tup _::_),h,_,_ | .lst (.lst _::_),h,_,_=>by unfold Tm at h;exact absurd h id
theorem rR:∀{ds:List D},Tms ds->∀x∈wlks ds,Tm x/\sz x<=szs ds/\nds x<=ndss ds/\depD x<=depDs ds
 | d::ds,⟨a,b⟩,x,j=>by
  rw[wlks]at j;obtain j|j:=List.mem_append.mp j
  ·obtain⟨q,I,G,B⟩:=wZ a x j;exact⟨q,by rw[szs];omega,by rw[ndss];omega,by rw[depDs];omega⟩
  ·obtain⟨q,I,G,B⟩:=rR b x j;exact⟨q,by rw[szs];omega,by rw[ndss];omega,by rw[depDs];omega⟩
end
mutual
theorem wV:∀{d:D},Tm d->Wk d
 | .str x,h=>trivial
 | .tup (.str n::ds),h=>by unfold Wk;unfold Tm at h;exact nH h.2
 | .lst (.str n::ds),h=>by unfold Wk;unfold Tm at h;exact nH h.2
 | .non,h | .bl _,h | .int _,h | .tup [],h | .lst [],h | .tup (.non::_),h | .tup (.bl _::_),h | .tup (.int _::_),h | .tup (.tup _::_),h | .tup (.lst _::_),h | .lst (.non::_),h | .lst (.bl _::_),h | .lst (.int _::_),h | .lst (.tup _::_),h | .lst (.lst _::_),h=>by unfold Tm at h;exact absurd h id
theorem nH:∀{ds:List D},Tms ds->Wks ds
 | [],_=>trivial
 | _::_,⟨a,b⟩=>⟨wV a,nH b⟩
end
theorem L8 (n z:Str)(l:List D):nds (one n z l)<=1+ndss l:=by
 unfold one;split
 ·show nds (.str z)<=_;unfold nds;omega
 ·rw[ndss,ndss];omega
 ·rw[nds];omega
theorem FX {l m:List D}(p:l.Perm m):ndss l=ndss m:=by
 induction p with
 | nil=>rfl
 | cons x _ j=>rw[ndss,ndss,j]
 | swap x y l=>rw[ndss,ndss,ndss,ndss];omega
 | trans _ _ a b=>exact a.trans b
theorem AM (sm:bM)(n:Str)(ps:List D):nds (knot sm n ps)<=1+ndss ps:=by
 unfold knot;split
 ·rw[nds];omega
 ·rename_i z _;have j:=L8 n z (cM (opn n z ps));rw[FX (bR _)]at j;have q:=xU n z ps;omega
mutual
theorem M8 (sm:bM):∀d:D,nds (flt sm d)<=nds d
 | .tup (.str n::ds)=>by rw[flt,nds];have:=AM sm n (flts sm ds);have:=oE sm ds;omega
 | .lst (.str n::ds)=>by rw[flt,nds];have:=AM sm n (flts sm ds);have:=oE sm ds;omega
 | .non | .bl _ | .int _ | .str _ | .tup [] | .lst [] | .tup (.non::_) | .tup (.bl _::_) | .tup (.int _::_) | .tup (.tup _::_) | .tup (.lst _::_) | .lst (.non::_) | .lst (.bl _::_) | .lst (.int _::_) | .lst (.tup _::_) | .lst (.lst _::_)=>by unfold flt;exact Nat.le_refl _
theorem oE (sm:bM):∀ds:List D,ndss (flts sm ds)<=ndss ds
 | []=>Nat.le_refl _
 | d::ds=>by rw[flts,ndss,ndss];have:=M8 sm d;have:=oE sm ds;omega
end
theorem M7 (sm:bM){n:Str}{ds:List D}{x:D}(h:x = .tup (.str n::ds)∨x = .lst (.str n::ds)):flt sm x=knot sm n (flts sm ds)/\pts x=ds:=by rcases h with rfl|rfl <;> exact⟨by rw[flt],rfl⟩
noncomputable def spFW (K:PySem.W.Frag)(C:Addr):Sp:=fun vs H Q _=>∃(B q G g:Addr) (fx:cL) (sm:bM) (d:D) (v:V),vs=[v,.ref B,.ref q]/\H B=some (.dK [])/\BH H q G g/\iK K C fx sm H g/\bD H d v/\Tm d/\(∀r∈sm,r.2=("" : Str)∨Fl (.str r.2))/\sz d<=60/\nds d<=1000/\depD d<=50 /\
 ∀(j:V) (H':Hp),aH H H'->bD H' (flt sm d) j->Q j H'
noncomputable def SM (v:V)(G B m l:Addr)(sm:bM)(W:List D)(q:List V)(H:Hp)(i:Nat)(σ:St)(j:Hp):Prop:=∃(us:List V) (o4 o5:Option V),σ=[some v,some (.ref G),some (.ref B),some (.ref m),o4,o5]/\j m=some (.lst us)/\aH H j/\j l=some (.lst q)/\Reps j (flts sm (stk (W.drop (W.length - i)))).reverse us
noncomputable def SN (m l p:Addr)(G:List V)(o:HO)(fs:List D)(H:Hp)(j:Nat)(B:List V)(σ:St)(q:Hp):Prop:=∃(us:List V) (o0:Option V),σ=[o0,some (.ref m)]/\q m=some (.lst us)/\aH H q/\q l=some (.lst G)/\q p=some o/\Reps q (fs.drop j).reverse us/\Reps q (fs.take j) B
theorem Q1 {f C:Addr}{fd:FuncData}(F:gU K "from_within" "from_within" dE f fd)(T:Txt mg)(O_walked:cK P w K mg base a0 1 "walked" nL)(O_flat_of_parts:cK P w K mg base a0 6 "flat_of_parts" (gW K C)):cA P w K mg base a0 8 f fd jQ (spFW K C):=by
 refine F.ok gF (fun vs H Q E h=>?_) (fun cdv A outer s H vs Q E hr h=>?_)
 ·obtain⟨fi,fl,c0,g,fx,sm,d,v,rfl,_⟩:=h;rfl
 ·obtain⟨fi,fl,c0,g,fx,sm,d,v,rfl,hfi,la,sg,rep,tm,hz,s60,B,d50,q⟩:=h;have hu:=hr.units
  refine⟨_,(aF (aY (i:=3) gF.nd rfl (Or.inr rfl) (cI aC))
   (aF (eI PassesOwn.never rfl (xR K rfl rfl T.n_reversed (aA (aM O_walked (hr.mono (by decide)) pass0 rfl (aA (pv 0) aC)) aC)) (bQ (i:=4) gF.nd rfl (Or.inl rfl)) (aG (bK (aX K rfl (aK aL rfl T.n_isinstance rfl (aA (pv 4) (aA (bU (v:=V.ty "str") rfl T.n_str rfl rfl) aC))) (fun _=>rfl)) (aG (cJ (jC PySem.F.plainAttrs_list PySem.F.slot_list_append PySem.F.type_list_append fF (pv 3) (aA (IN (Nat.lt_of_le_of_lt (Nat.add_le_add_left (by decide) _) hu) (pv 1) (pv 4) (pv 4) ⟨rfl,rfl,rfl,rfl⟩) aC)))) (aF (iH (i:=5) gF.nd rfl rfl rfl rfl (bJ.by (N:=jW) (names:=(aD dE).names) (N':=["part","made"]) (src:=[none,some 3]) (by decide +kernel) rfl rfl) (dM K rfl (gN kX (pv 4) (fC aJ) gK)) (fun _ _ _ _=>(bQ (i:=0) (show List.Nodup (["part","made"]:aW)by decide +kernel) rfl (Or.inl rfl))) (fun _ _ _ _=>fB) (fun _ _ _ _=>(LX K rfl PySem.F.plainAttrs_list PySem.F.slot_list_pop PySem.F.type_list_pop CN (pv 1))))
   (aG (cJ (jC PySem.F.plainAttrs_list PySem.F.slot_list_append PySem.F.type_list_append fF (pv 3) (aA (CB (i:=2) rfl (Or.inl rfl) O_flat_of_parts (hr.mono (by decide)) (aA (bP dN (pv 4) aJ (fun _ _=>rfl)) (aA (pv 5) aC))) aC))))))))
   (aG (aQ (bP dN (pv 3) aJ (fun _ _=>rfl)))))),?_⟩
  simp only[jW];clear hr F T hu O_walked O_flat_of_parts;have keep:=aI q (aI hfi (aI la (aI sg (aI rep (aI tm (aI hz (aI s60 (aI B d50))))))));clear q hfi la sg rep tm hz s60 B d50
  walk_at "rd"
  obtain⟨q,hfi,la,sg,rep,tm,hz,s60,B,d50⟩:=keep;refine⟨Nat.zero_le _,fun m hm=>?_⟩;have s1:aH H (upd H m (.lst [])):=aH.upd hm;have hm1:upd H m (.lst []) m=some (.lst []):=upd_same;generalize upd H m (.lst [])=H1 at s1 hm1⊢;refine⟨_,rfl,d,v,H,rfl,s1,rep,wV tm,B,fun l ws H2 s2 hl h2 rws=>⟨l,ws,rfl,h2,?_⟩⟩;have lw:=Reps.len rws;have lk:=q9 d;have hml:m≠l:=fun z=>by rw[z,hl]at hm1;cases hm1
  refine JZ ws (SM v fi fl m l sm (wlk d) ws H) ⟨[],none,none,rfl,s2 _ _ hm1,s1.trans s2,h2,by rw[Nat.sub_zero,List.drop_length];rfl⟩ (fun i σ H3 _ ⟨_,_,_,_,_,_,h,_⟩=>h) ?_ ?_
  ·rintro i x σ H3 hi hx ⟨us,o4,o5,rfl,h3,s3,hl3,ru⟩;obtain⟨e,he,rx⟩:=Reps.get rws hx;rw[lw]at hi he;have hlt:(wlk d).length - 1 - i<(wlk d).length:=by omega
   have G:(wlk d).drop ((wlk d).length - (i+1))=e::(wlk d).drop ((wlk d).length - i):=by have e1:(wlk d)[(wlk d).length - 1 - i]=e:=(List.getElem?_eq_some_iff.mp he).2;rw[show(wlk d).length - (i+1)=(wlk d).length - 1 - i by omega,List.drop_eq_getElem_cons hlt,e1,show(wlk d).length - 1 - i+1=(wlk d).length - i by omega]
   have U:wlk d=(wlk d).take ((wlk d).length - (i+1))++e::(wlk d).drop ((wlk d).length - i):=by rw[←G,List.take_append_drop]
   obtain⟨rest,I⟩:=uX (wV tm) U;have Z:=wZ tm e (List.mem_of_getElem? he);have inS:∀y∈(wlk d).drop ((wlk d).length - i),y∈wlk d:=fun y hy=>List.mem_of_mem_drop hy;have lS:((wlk d).drop ((wlk d).length - i)).length<=1000:=by rw[List.length_drop];omega
   generalize (wlk d).drop ((wlk d).length - i)=S at G U I inS lS ru;have flS:Fls (flts sm (stk S)):=jK fun y hy=>by rw[cS]at hy;obtain⟨z,hz1,rfl⟩:=List.mem_map.mp hy;exact(pV hz (wZ tm z (inS z (DX hz1))).tm).1
   have lu:=Reps.len ru;rw[List.length_reverse,cS,List.length_map]at lu;have ls:(stk S).length<=1000:=Nat.le_trans (DY S) lS;have keep:=aI q (aI hfi (aI la (aI sg (aI tm (aI hz (aI s60 (aI B (aI d50 (aI hm (aI hl3 (aI h3 (aI s3 (aI ru (aI rx (aI Z (aI G (aI I (aI flS (aI lu (aI ls (aI hml he)))))))))))))))))))));clear q hfi la sg rep tm hz s60 B d50 hm hl3 h3 s3 ru rx Z G I flS lu ls hml he s1 hm1 s2 hl h2 rws lw lk hx hi hlt U inS lS
   walk_at "rd"
   obtain⟨q,hfi,la,sg,tm,hz,s60,B,d50,hm,hl3,h3,s3,ru,rx,Z,G,I,flS,lu,ls,hml,he⟩:=keep;rcases DT Z.tm with⟨y,rfl,_⟩|⟨n,ds,hd,dne,tms⟩
   ·cases (show x = .str y from rx);refine⟨true,rfl,?_⟩;rw[if_pos rfl];refine⟨tyL h3,_,rfl,fi,rfl,.inl ⟨_,.inl (s3 _ _ hfi)⟩,_,rfl,_,rfl,_,jY.k (k:=.inr y) (s3 _ _ hfi),us,h3,Nat.lt_of_le_of_lt (m:=1000) (by omega) (by decide),us++[.str y],_,_,rfl,upd_same,fun b o hb=>by rw[aB (aE hb hm)];exact s3 _ _ hb,by rw[aB hml.symm];exact hl3,?_⟩;rw[G,stk];show Reps _ (flts sm (.str y::(stk S).drop 0)).reverse _;rw[List.drop_zero,flts,List.reverse_cons];exact Reps.snoc (by unfold flt;rfl) (Reps.tups (bC.lst h3) (yP flS) ru)
   ·obtain⟨va,L,rfl,hbb,hseq,lv⟩:∃va L,x = .ref va/\isV H3 (.ref va) (.ty "str")=some false/\fL H va (.str n::L)/\L.length=ds.length:=by
     rcases hd with rfl|rfl
     ·obtain⟨a,vs,rfl,ha,_,L,rfl,e1,r⟩:=rx;cases e1;exact⟨a,L,rfl,mY (s3 _ _ ha),.inr ha,Reps.len r⟩
     ·obtain⟨a,vs,rfl,ha,_,L,rfl,e1,r⟩:=rx;cases e1;exact⟨a,L,rfl,sY (s3 _ _ ha),.inl ha,Reps.len r⟩
    obtain⟨hfe,hpe⟩:=M7 sm hd;rw[hpe]at I;have wds:Wks ds:=nH tms;have hst:stk S=ds++stk rest:=by rw[I,nJ wds]
    have hfs:flts sm (stk S)=flts sm ds++flts sm (stk rest):=by rw[hst,cS,List.map_append,←cS,←cS]
    have lds:(flts sm ds).length=ds.length:=by rw[cS,List.length_map]
    have lfs:(flts sm (stk S)).length<=1000:=by rw[cS,List.length_map];exact ls
    refine⟨false,hbb,?_⟩;rw[if_neg (by decide)];refine⟨va,rfl,_,hseq.same s3,fun _ h=>by have:=h.1;simp[HT.sIx]at this,fun p o hp ho=>?_⟩;rw[yT]at ho;refine⟨L,by rcases ho with⟨rfl,_⟩|⟨rfl,_⟩;exact .inl upd_same;exact .inr upd_same,fun J hJ=>?_⟩;have sp:aH H3 (upd H3 p o):=aH.upd hp;have hpo:upd H3 p o p=some o:=upd_same;have hmp:m≠p:=aE h3 hp;have hlp:l≠p:=aE hl3 hp;generalize upd H3 p o=H4 at sp hpo hJ⊢;refine dP hJ (SN m l p ws o (flts sm (stk S)) H) ⟨us,none,rfl,sp _ _ h3,s3.trans sp,sp _ _ hl3,hpo,by rw[List.drop_zero];exact Reps.same sp ru,rfl⟩ (fun j acc σ H' _ ⟨_,_,_,_,_,_,h,_⟩=>by rw[h,hpo]) ?_ ?_
    ·rintro j y acc σ H5 hy ⟨us5,o0,rfl,h5,s5,hl5,hp5,r5,racc⟩;have hj:j<ds.length:=by have:=(List.getElem?_eq_some_iff.mp hy).1;omega
     have hj2:j<(flts sm (stk S)).length:=by rw[hfs,List.length_append];omega
     rw[List.drop_eq_getElem_cons hj2,List.reverse_cons]at r5;obtain⟨us6,u,rfl,r6,ru6⟩:=jB r5;have la':=Reps.len racc;rw[List.length_take]at la';have fu:Fl (flts sm (stk S))[j]:=fG flS _ (List.getElem_mem hj2);refine⟨_,rfl,tyL h5,m,_,u,rfl,rfl,h5,by simp,Nat.lt_of_le_of_lt (m:=1000) (by omega) (by decide),?_⟩;rw[List.dropLast_concat];have tt:bC H5 (upd H5 m (.lst us6)):=bC.lst h5;refine⟨us6,_,rfl,upd_same,fun b o hb=>by rw[aB (aE hb hm)];exact s5 _ _ hb,by rw[aB hml.symm];exact hl5,by rw[aB hmp.symm];exact hp5,Reps.tups tt (yP (AY flS (j+1))) r6,?_⟩;rw[aZ (List.getElem?_eq_getElem hj2)];exact Reps.snoc (bD.tups tt fu ru6) (Reps.tups tt (J5 flS j) racc)
    ·rintro acc σ H5 ⟨us5,o0,rfl,h5,s5,hl5,hp5,r5,racc⟩ p6 hp6;have e1:(flts sm (stk S)).take L.length=flts sm ds:=by rw[hfs,lv,←lds,List.take_left]
     rw[e1]at racc;have s6:aH H5 (upd H5 p6 (.lst acc)):=aH.upd hp6;have h66:upd H5 p6 (.lst acc) p6=some (.lst acc):=upd_same;have hmp6:m≠p6:=aE h5 hp6;generalize upd H5 p6 (.lst acc)=H6 at s6 h66⊢;have sH6:=s5.trans s6;have ix0:ixV H6 (.ref va) (.int 0)=some (.str n):=by
      rcases hseq.same sH6 with e|e
      ·rw[ixV_l e,atI_zero]
      ·rw[ixV_t e,atI_zero]
     have hsz:sz e=max 1 (szs ds):=by rcases hd with rfl|rfl <;> rw[sz]
     have hnd:nds e=1+ndss ds:=by rcases hd with rfl|rfl <;> rw[nds]
     have hdp:depD e=depDs ds+1:=by
      rcases hd with rfl|rfl
      ·rw[depD,depDs,show depD (.str n)=0 from rfl];omega
      ·rw[depD,depDs,show depD (.str n)=0 from rfl];omega
     have b1:=oC sm ds;have b2:=oE sm ds;have b3:=lG sm ds;have c1:=Z.sz;have c2:=Z.nd;have c3:=Z.dp;refine⟨tyL (s6 _ _ h5),fl,rfl,_,rfl,.str n,ix0,_,rfl,c0,g,fx,sm,n,p6,flts sm ds,acc,rfl,la.same sH6,sg.same sH6,h66,Reps.same s6 racc,EO hz tms,by omega,by omega,by omega,fun v' H7 s7 r7=>?_⟩;have h7:=s7 _ _ (s6 _ _ h5);have l5:=Reps.len r5;rw[List.length_reverse,List.length_drop]at l5;refine⟨us5,h7,Nat.lt_of_le_of_lt (m:=1000) (by omega) (by decide),us5++[v'],_,_,rfl,upd_same,fun b o hb=>by rw[aB (aE hb hm)];exact s7 _ _ (sH6 _ _ hb),by rw[aB hml.symm];exact s7 _ _ (s6 _ _ hl5),?_⟩;have tt:bC H7 (upd H7 m (.lst (us5++[v']))):=bC.lst h7;rw[G,stk,flts,List.reverse_cons,hpe,GR,hfe];rw[lv]at r5;have fe:=(pV hz Z.tm).1;rw[hfe]at fe;exact Reps.snoc (bD.tups tt fe r7) (Reps.tups tt (yP (AY flS ds.length)) (Reps.same (s6.trans s7) r5))
  ·rintro σ H3 ⟨us,o4,o5,rfl,h3,s3,hl3,ru⟩;rw[lw,Nat.sub_self,List.drop_zero]at ru;have e:=DW (wV tm) [];rw[List.append_nil]at e;rw[e]at ru;obtain⟨u,r,rfl,r1,r2⟩:=ru;cases (show r=[]from r2);exact⟨_,rfl,u,by rw[ixV_l h3,atI_zero],q u H3 s3 r1⟩
end
end Lw
namespace L2
open PySem PySem.Spec PyProof.Rows PySem.W
theorem aO.grow {X:Cx}{j:cW}{σ:L2.St}{H:Hp}{s:Shared}{P:Addr}{ps more:i4}{h':Heap}{t':Nat}(I:aO X j σ H s)(N:H P=some (.tbl ps))(G:Heap.ExtBut P s.heap h')(U:h'.get? P=some (tabObj (ps++more))):aO X j σ (upd H P (.tbl (ps++more))) {s with heap:=h',toks:=t'}:=by
 have L:∀b,H b=none->b≠P:=fun b e z=>by rw[z,N]at e;cases e
 have B:∀b u,H b=some u->(∀S,u≠.tbl S)->b≠P:=fun b u e z w=>by rw[w,N]at e;cases e;exact z _ rfl
 refine I.un ⟨fun b o e n _ _=>G b o (L b n) e,fun b o e n _ _=>⟨o.slots,G b o (L b n) e⟩,fun b o e n _=>by rw[aB (L b n)];exact n,fun b o e _=>?_,fun b xs e=>?_,fun b o u e=>?_,fun b S e=>?_⟩ (fun b u e=>?_)
 ·by_cases z:b=P
  ·subst z;exact⟨_,U⟩
  ·exact⟨o,G b o z e⟩
 ·rw[aB (B b _ e fun _=>by simp)];exact e
 ·rw[aB (B b _ e fun _=>by simp)];exact e
 ·by_cases z:b=P
  ·subst z;rw[N]at e;cases e;exact⟨more,upd_same⟩
  ·exact⟨#[],by rw[aB z,e];simp⟩
 ·by_cases z:b=P
  ·subst z;rw[upd_same]at e;cases e;exact U
  ·rw[aB z]at e;refine(I.hok b u e).stay (fun c o hc q=>G c o ?_ q) (fun c q=>by rw[aB (B c _ q fun _=>by simp)];exact q) (fun c xs q=>by rw[aB (B c _ q fun _=>by simp)];exact q);rcases hc with rfl|hc
   ·exact z
   ·exact B c _ hc fun _=>by simp
end L2
namespace Lw
open PySem PySem.Spec PyProof.Rows PySem.W L2
noncomputable def PX (e:Expr):Pos:=match e with
 | .Lambda _ _ _ p=>p
 | _=>⟨0,0,0,0⟩
noncomputable abbrev xL:Pos:=PX (lamOf cX)
noncomputable def LT (P:Addr)(H:Hp):Prop:=H P=some (.tbl #[])∨∃(j:Addr) (oc':Obj) (vsc:i4) (tq:Tok),H P=some (.tbl #[rawInt xL.line,rawInt xL.col,.ref j])/\H j=some (pinO j oc')/\oc'.data = .fields vsc/\vsc[1]?=some (.str qL tq)
theorem LT.same {P:Addr}{H H':Hp}(h:LT P H)(s:aH H H'):LT P H':=by
 rcases h with h|⟨N,q,j,B,L,I,G⟩
 ·exact .inl (s _ _ h)
 ·exact .inr ⟨N,q,j,B,s _ _ L,s _ _ I,G⟩
noncomputable def Bm (mg:fM)(base:Heap):Prop:=∃j o,mg "__builtins__" = some (.ref j)/\j≠builtinsNs/\j≠mainGlobals/\base.get? j=some o/\o.cls = .type "module"/\o.dict=some builtinsNs/\o.data = .plain
noncomputable def OQ (P q:Addr):TE:=fun σ H Q=>LT P H/\∀(j B:Addr) (pm ctv:Value) (oc':Obj) (vsc:i4) (tq:Tok) (H':Hp),bT P H H'->LT P H'->H' j=some (pinO j (oL q B pm ctv))->H' B=some (pinO B oc')->oc'.data = .fields vsc->vsc[1]?=some (.str qL tq)->H q=none->H' q=none->Q (.ref j) H'
theorem IK {X:Cx}{c P N:Addr}(hcl:closureFor scL X.env=pure [(("signs" : Str),N)])(L:X.env.cells.lookup ("signs" : Str)=some N)(U:X.env.code = .ref c)(hq:X.env.qual++"<lambda>" = qL)(hC:∀h,X.K.In h->CodeHd h c P)(hB:Bm X.mg X.base):PE X (.Lambda pL bL scL xL) (OQ P N):=by
 intro pins s σ H Q I h;obtain⟨lt,q⟩:=h;have hg:s.heap.Ns mainGlobals X.mg:=I.mod.glob.keeps I.bk;have hPs:∃ps,H P=some (.tbl ps):=by
  rcases lt with h|⟨_,_,_,_,h,_⟩
  ·exact⟨_,h⟩
  ·exact⟨_,h⟩
 obtain⟨ps,hP⟩:=hPs;have gP:s.heap.get? P=some (tabObj ps):=I.hok P _ hP;have nb:∀b o,X.base.get? b=some o->b≠P:=fun b o e z=>by have:=(I.bs b o e).2;rw[z,hP]at this;cases this
 have hgP:mainGlobals≠P:=by obtain⟨o,es,ep,e,_⟩:=I.mod.glob;exact nb _ _ e
 have hb:s.heap.BuiltinsAt X.mg P:=by obtain⟨bm,o,b1,b2,b3,b4,b5,b6,b7⟩:=hB;exact⟨bm,o,b1,b2,b3,nb _ _ b4,I.bk _ _ b4,b5,b6,b7⟩
 have n0:=I.freeC _ _ L;refine kla_eval rfl ?_;rw[hq];rcases lt with lt|⟨j,G,S,tq,lt,l2,l3,l4⟩
 ·rw[hP]at lt;cases lt;refine kla_makeFunction hcl I.ok.glob hg U (hC _ I.kIn) gP trivial rfl hgP hb fun j B h' tk hx Z hlt hrec htb=>?_;obtain⟨c2,G,S,tq,e2,hoc,hd,hv⟩:=hrec;cases e2;have I1:aO X pins σ (upd H P (.tbl (#[] ++ #[rawInt xL.line,rawInt xL.col,.ref j]))) {s with heap:=h',toks:=tk}:=I.grow hP hx htb;have nP:P≠j:=fun z=>by have:=Heap.lt_size gP;rw[z]at this;exact Nat.lt_irrefl _ (Nat.lt_of_lt_of_le this Z)
  have nc':H j=none:=I.hok.fresh Z;have fc:=I.fpOk (H':=upd H P (.tbl (#[] ++ #[rawInt xL.line,rawInt xL.col,.ref j]))) Z (by rw[aB nP.symm];exact nc');have I2:=I1.adopt (o:=pinO j G) fc (xQ hoc);have zf:s.heap.objs.size<=h'.objs.size:=Nat.le_trans Z (Nat.le_of_lt hlt);have I3:=I2.kept (t':=tk) fun b o e=>Heap.get?_push_of_some (oL N j ((X.mg "__name__").getD .none) B) e;have ff:=I2.fpOk (Nat.le_refl h'.objs.size) (I2.hok.fresh (Nat.le_refl _));have gf:(h'.push (oL N j ((X.mg "__name__").getD .none) B)).get? h'.objs.size=some (oL N j ((X.mg "__name__").getD .none) B):=Heap.get?_push_size _ rfl;have I4:=I3.adopt (o:=pinO h'.objs.size (oL N j ((X.mg "__name__").getD .none) B)) ff (xQ gf);have nfc:j≠h'.objs.size:=Nat.ne_of_lt hlt;have nPf:P≠h'.objs.size:=fun z=>by have:=Heap.lt_size gP;rw[z]at this;exact Nat.lt_irrefl _ (Nat.lt_of_lt_of_le this zf)
  have hc'4:upd (upd (upd H P (.tbl (#[] ++ #[rawInt xL.line,rawInt xL.col,.ref j]))) j (pinO j G)) h'.objs.size (pinO h'.objs.size (oL N j ((X.mg "__name__").getD .none) B)) j=some (pinO j G):=by rw[aB nfc];exact upd_same
  have hP4:upd (upd (upd H P (.tbl (#[] ++ #[rawInt xL.line,rawInt xL.col,.ref j]))) j (pinO j G)) h'.objs.size (pinO h'.objs.size (oL N j ((X.mg "__name__").getD .none) B)) P=some (.tbl #[rawInt xL.line,rawInt xL.col,.ref j]):=by rw[aB nPf,aB nP,upd_same];rfl
  refine⟨.ref h'.objs.size,_,I4,rfl,q _ j _ B G S tq _ (fun b o nb e=>?_) (.inr ⟨j,G,S,tq,hP4,hc'4,hd,hv⟩) upd_same hc'4 hd hv n0 (I4.freeC _ _ L)⟩;have lb:=I.hok.lt e;rw[aB (fun z=>by rw[z]at lb;exact Nat.lt_irrefl _ (Nat.lt_of_lt_of_le lb zf)),aB (aE e nc'),aB nb];exact e
 ·rw[hP]at lt;cases lt;have am:codeAmong xL [rawInt xL.line,rawInt xL.col,.ref j]=some (.ref j):=by simp[codeAmong,rawInt]
  refine kla_makeFunctionHit (cv:=.ref j) hcl I.ok.glob hg U (hC _ I.kIn) gP trivial am hb fun B h' tk hk hsz=>?_;have I3:aO X pins σ H {s with heap:=h'.push (oL N j ((X.mg "__name__").getD .none) B),toks:=tk}:=I.kept fun b o e=>Heap.get?_push_of_some _ (hk b o e);have nf:=I.hok.fresh hsz;have ff:=I.fpOk hsz nf;have gf:(h'.push (oL N j ((X.mg "__name__").getD .none) B)).get? h'.objs.size=some (oL N j ((X.mg "__name__").getD .none) B):=Heap.get?_push_size _ rfl;have I4:=I3.adopt (o:=pinO h'.objs.size (oL N j ((X.mg "__name__").getD .none) B)) ff (xQ gf);have sm:aH H (upd H h'.objs.size (pinO h'.objs.size (oL N j ((X.mg "__name__").getD .none) B))):=aH.upd nf;exact⟨.ref h'.objs.size,_,I4,rfl,q _ j _ B G S tq _ (fun b o _ e=>sm b o e) (.inr ⟨j,G,S,tq,sm _ _ hP,sm _ _ l2,l3,l4⟩) upd_same (sm _ _ l2) l3 l4 n0 (I4.freeC _ _ L)⟩
noncomputable def tFWc (K:PySem.W.Frag)(C q:Addr)(t:TA):TE:=fun σ H Q=>t σ H fun vs B=>∃g,σ[0]?=some (some (.ref g))/\∀j:Obj,j.data = .cell (some (.ref g))->B q=none->spFW K C vs (upd B q (pinO q j)) (fun v H'=>H' q=some (pinO q j)/\Q v (del1 H' q)) E0
theorem QZ {X:Cx}{C G:Addr}{k:Nat}{e:Expr}{es:kU}{t:TA}{p pos:Pos}(O:cK X.prog X.w X.K X.mg X.base a0 k "from_within" (spFW X.K C))(hr:eK k X.A)(hg:Gl X "from_within")(hN:X.N[0]?=some ("signs" : Str))(S:X.env.scope.names.lookup ("signs" : Str)=some .cell)(B:X.env.cells.lookup ("signs" : Str)=some G)(hfn:X.fn "signs" = true)(ha:PA X (e::es) t)
  (he:starEach (e::es) X.env=(false,eval e X.env)::starEach es X.env:=by rfl) (hpl:(backTo pos (starEach es X.env)).any (·.1)=false:=by rfl):PE X (.Call (.Name "from_within" p) (e::es) [] pos) (tFWc X.K C G t):=by
 obtain⟨f,fd,ps,F,hm,hk,hb⟩:=O;intro pins s σ H Q I h;refine wpAny_Call_Name_kw (n9 I hg hm ?_ (by decide));refine PySem.W.callWith_K (h₀:=X.base) I.ok.mod.kin hk (thn (ha pos pins s σ H _ I h) fun us s1 ⟨vs,H1,U,r,q⟩=>⟨U.kIn,?_⟩) he hpl;obtain⟨g,hσ,q⟩:=q;have n0:=U.freeC _ _ B;have L:=U.ok.cab _ _ hfn B;obtain⟨j,ho,hd⟩:∃j,s1.heap.get? G=some j/\j.data = .cell (some (.ref g)):=by
  obtain⟨m,hns,hl⟩:=U.loc;obtain⟨u,ru,look⟩:=hl 0 _ _ hN hσ (.inr (.inl S));cases ru;rcases look with⟨z,_⟩|⟨_,c,hc,j,ho,hd⟩
  ·have z':X.env.scope.names.lookup ("signs" : Str)=some .local:=z;rw[S]at z';cases z'
  ·rw[B]at hc;cases hc;exact⟨j,ho,hd⟩
 have sp:=q j hd n0;have Z:=U.env0;have nl:G≠X.env.locals:=fun z=>by obtain⟨m,⟨o,es',ep,e1,e2,_⟩,_⟩:=U.loc;rw[←z,ho]at e1;cases e1;rw[hd]at e2;cases e2
 have nfs:∀b∈frs X.stack,b≠G:=fun b hb z=>by
  rcases List.mem_cons.mp (U.stkSub b hb)with w|w
  ·exact nl (z ▸ w)
  ·obtain⟨_,o,e1,_⟩:=U.ok.funs.mem w;exact Nat.lt_irrefl _ (Nat.lt_of_lt_of_le (Heap.lt_size e1) (z ▸ L))
 have hl:(us++[]).length=ps.length:=by have:=F.len _ _ _ _ sp;rw[List.append_nil,←r.length];exact this
 have ne:∀b o,X.base.get? b=some o->b≠G:=fun b o e z=>Nat.lt_irrefl _ (Nat.lt_of_lt_of_le (Heap.lt_size (U.ok.bs b o e).1) (z ▸ L));have env:uS X.prog X.w X.K X.mg X.base X.A X.stack s1 (upd H1 G (pinO G j)):=⟨Z.frames,Z.mod,fun b o e=>⟨(Z.bs b o e).1,by rw[aB (ne b o e)];exact(Z.bs b o e).2⟩,Z.bsz,Z.funs,fun b z=>by rw[aB (nfs b z)];exact Z.frf b z,Z.hok.back n0 ho,Z.bare⟩
 refine wpAny_call (codeAny_mono (F.run X.A X.stack s1 _ ⟨us,[]⟩ us vs _ E0 hr env (by have:=hb s1 us U.kIn hl;rw[List.append_nil]at this;exact this) r sp) fun res s' hq=>?_);cases res with
 | error x=>exact hq.elim
 | ok fl' =>
  cases fl' with
  | ret u =>
   obtain⟨v,H',os,bare,un,hok,rv,hc0,qq⟩:=hq;have g0:=nW hok hc0;have nb:∀b u,H1 b=some u->b≠G:=fun b u e=>aE e n0;have un2:Un (frs X.stack) [] H1 (del1 H' G) s1.heap s'.heap:=by
    refine⟨fun b o e n hf hx=>?_,fun b o e n hf hx=>?_,fun b o e n hx=>?_,fun b o e hx=>un.there b o e hx,fun b xs e=>?_,fun b o u' e=>?_,fun b qs e=>?_⟩
    ·by_cases z:b=G
     ·subst z;rw[ho]at e;cases e;exact g0
     ·exact un.keep b o e (by rw[aB z];exact n) hf hx
    ·exact un.slot b o e (by rw[aB (nfs b hf)];exact n) hf hx
    ·by_cases z:b=G
     ·subst z;exact mB
     ·exact iQ (un.free b o e (by rw[aB z];exact n) hx)
    ·rw[d5 (nb b _ e)];exact un.tups b xs (by rw[aB (nb b _ e)];exact e)
    ·rw[d5 (nb b _ e)];exact un.frzs b o u' (by rw[aB (nb b _ e)];exact e)
    ·rw[d5 (nb b _ e)];exact un.tbls b qs (by rw[aB (nb b _ e)];exact e)
   exact⟨v,_,U.call' (ch:=[]) os un2 (hok.del hc0) bare (fun b z=>absurd z (by simp)),rv,qq⟩
  | next=>exact hq.elim
  | brk=>exact hq.elim
  | cont=>exact hq.elim
end Lw
namespace Lw
open PySem L2
section
variable {P:Program}{w:World}{K:PySem.W.Frag}{mg:fM}{base:Heap}
theorem M3 {x j:Str}{st:Stmt}{f:Addr}{oc:Value}{od an:Option Addr}{osl:Array (Option Value)}{kV I Z B ct:Value}{N ps:aW}{k:Nat}{sp:Sp}(lk:K.lookup f=some ⟨oc,od,.func (PySem.W.fnOf x j (aP st) (aN st) (aD st) .none kV I Z an B ct),osl⟩)(U:PySem.W.codeIn K B j=true)(S:aS N ps (aD st))(len:∀vs H Q E,sp vs H Q E->vs.length=ps.length)
  (G:∀(A:Around) (outer:List Env) (s:Shared) (H:Hp) (vs:List V) (Q:VK) (E:XK),eK k (A.deeper (PyProof.Rows.envOfC j (aD st) s.heap.objs.size f B))->sp vs H Q E ->
   ∃t,BJ (cxOf a0 P w K mg base N j (aD st) f B A outer s H E).nox (aN st) t/\t {nx:=fun _ H'=>Q .non H',rt:=Q} (start N vs) H):cA P w K mg base a0 (k+1) f (PySem.W.fnOf x j (aP st) (aN st) (aD st) .none kV I Z an B ct) ps sp:=by
 refine N4 lk U S len fun A outer s H vs Q E hr L=>?_;obtain⟨t,h,q⟩:=G A outer s H vs Q E hr L;exact⟨t,h.nox,q⟩
mutual
theorem bD.but {H H':Hp}{p:Addr}(b:bT p H H')(n1:∀xs,H p≠some (.tup xs))(n2:∀xs,H p≠some (.lst xs)):∀{d:D} {v:V},bD H d v->bD H' d v
 | .non,v,h | .bl _,v,h | .int _,v,h | .str _,v,h=>h
 | .tup ds,v,⟨a,vs,B,j,q⟩=>⟨a,vs,B,b a _ (fun z=>n1 vs (z ▸ j)) j,Reps.but b n1 n2 q⟩
 | .lst ds,v,⟨a,vs,B,j,q⟩=>⟨a,vs,B,b a _ (fun z=>n2 vs (z ▸ j)) j,Reps.but b n1 n2 q⟩
theorem Reps.but {H H':Hp}{p:Addr}(b:bT p H H')(n1:∀xs,H p≠some (.tup xs))(n2:∀xs,H p≠some (.lst xs)):∀{ds:List D} {vs:List V},Reps H ds vs->Reps H' ds vs
 | [],vs,h=>h
 | d::ds,vs,⟨v,r,B,q,j⟩=>⟨v,r,B,bD.but b n1 n2 q,Reps.but b n1 n2 j⟩
end
theorem LT.tbl {Pt:Addr}{H:Hp}(h:LT Pt H):∃ps,H Pt=some (.tbl ps):=by
 rcases h with h|⟨_,_,_,_,h,_⟩
 ·exact⟨_,h⟩
 ·exact⟨_,h⟩
theorem LT.rep {Pt:Addr}{H H':Hp}(h:LT Pt H)(b:bT Pt H H'){d:D}{v:V}(r:bD H d v):bD H' d v:=by obtain⟨ps,e⟩:=h.tbl;exact bD.but b (fun xs z=>by rw[e]at z;cases z) (fun xs z=>by rw[e]at z;cases z) r
theorem LT.ne {Pt:Addr}{H:Hp}(h:LT Pt H){a:Addr}{o:HO}(e:H a=some o)(n:∀ps,o≠.tbl ps):a≠Pt:=fun z=>by obtain⟨ps,j⟩:=h.tbl;rw[z,j]at e;cases e;exact n _ rfl
theorem LT.sg {Pt C g:Addr}{G:cL}{sm:bM}{H H':Hp}(h:LT Pt H)(b:bT Pt H H')(s:iK K C G sm H g):iK K C G sm H' g:=by obtain⟨a1,a2,a3,U,fs,dm,Z,B,S,N,L,I,q,j⟩:=s;exact⟨a1,a2,a3,U,fs,dm,Z,b _ _ (h.ne B fun _=>by simp) B,S,N,L,I,b _ _ (h.ne q fun _=>by simp) q,b _ _ (h.ne j fun _=>by simp) j⟩
noncomputable def xA (K:PySem.W.Frag)(C Pt:Addr):Sp:=fun vs H Q _=>∃(q g:Addr) (fx:cL) (sm:bM) (d:D) (v:V),vs=[.ref g,.ref q,v]/\H q=some (.dK [])/\iK K C fx sm H g/\bD H d v/\Tm d/\(∀r∈sm,r.2=("" : Str)∨Fl (.str r.2))/\sz d<=60/\nds d<=1000/\depD d<=50/\LT Pt H /\
 ∀(j:V) (H':Hp),bT Pt H H'->LT Pt H'->bD H' (flt sm d) j->Q j H'
theorem IY {f C c Pt:Addr}{oc:Value}{od an:Option Addr}{osl:Array (Option Value)}{kV S U ct:Value}(lk:K.lookup f=some ⟨oc,od,.func (PySem.W.fnOf "put_in" "put_in" (aP cX) (aN cX) (aD cX) .none kV S U an (.ref c) ct),osl⟩)(B:PySem.W.codeIn K (.ref c) "put_in" = true)
  (hC:∀h,K.In h->PySem.W.CodeHd h c Pt) (hB:Bm mg base) (O_from_within:cK P w K mg base a0 8 "from_within" (spFW K C)):cA P w K mg base a0 9 f (PySem.W.fnOf "put_in" "put_in" (aP cX) (aN cX) (aD cX) .none kV S U an (.ref c) ct) tY (xA K C Pt):=by
 refine M3 lk B FF (fun vs H Q E h=>?_) (fun A outer s H vs Q E hr h=>?_)
 ·obtain⟨fi,g,fx,sm,d,v,rfl,_⟩:=h;rfl
 ·obtain⟨fi,g,fx,sm,d,v,rfl,N,sg,rep,tm,hz,s60,j,d50,lt,q⟩:=h;refine⟨_,(aG (aQ (QZ O_from_within (hr.mono (by decide)) rfl rfl rfl rfl rfl (aA (pv 2) (aA (pv 1) (aA (IK rfl rfl rfl rfl hC hB) aC)))))),?_⟩;refine⟨_,rfl,_,rfl,lt,fun fl c' U ctv oc' Z tq H' bt lt' hfl hc' B hv n0 L=>⟨g,rfl,fun I hd0 _=>?_⟩⟩;have G:aH H' (upd H' (s.heap.objs.size+1) (pinO (s.heap.objs.size+1) I)):=aH.upd L;refine⟨fi,fl,s.heap.objs.size+1,g,fx,sm,d,v,rfl,G _ _ (bt _ _ (lt.ne N fun _=>by simp) N),⟨c',U,ctv,I,oc',Z,tq,G _ _ hfl,upd_same,hd0,G _ _ hc',B,hv⟩,(lt.sg bt sg).same G,bD.same G (lt.rep bt rep),tm,hz,s60,j,d50,fun v' H2 s2 r2=>⟨s2 _ _ upd_same,?_⟩⟩;have sd:aH H' (del1 H2 (s.heap.objs.size+1)):=fun b o e=>by rw[d5 (aE e L)];exact s2 _ _ (G _ _ e)
  exact q v' _ (fun b o nb e=>sd _ _ (bt b o nb e)) (lt'.same sd) (bD.del1 (s2 _ _ upd_same) r2)
end
section
variable {P:Program}{w:World}{K:PySem.W.Frag}{mg:fM}{base:Heap}
structure Q8 (fx:cL)(sm:bM)(os:aW)(d:D):Prop where
 so:bW fx sm
 ho:∀x∈os,cF x
 tm:bN fx sm os d
 lv:lvs d<=50
 nd:nds d<=1000
 dp:depD d<=50
theorem ON {j:cL}{sm:bM}{os:aW}{d:D}(t:Q8 j sm os d):Fl (flt sm d):=(pV (fV t.so) (rQ t.so t.ho t.tm).1).1
end
end Lw
namespace L2
open PySem PySem.Spec PyProof.Rows
noncomputable def y8 (vs:bZ)(ks:List bG):Prop:=ks.length=vs.length/\∀(i:Nat) (k:bG) (v:Value),ks[i]?=some k->vs[i]?=some v->keyIs k v=true/\v.scannable=true
noncomputable def KR (P:Program)(w:World)(h:Heap)(S:Addr)(ks:List bG)(i:Nat):Prop:=h.SetOf (bF P w) S (fun k=>(ks.take i).any fun x=>decide (x=k)) i
theorem KR.at {P:Program}{w:World}{h h':Heap}{S:Addr}{ks:List bG}{i:Nat}(x:KR P w h S ks i)(k:∀o,h.get? S=some o->h'.get? S=some o):KR P w h' S ks i:=by obtain⟨o,j,q,t,e,r⟩:=x;exact⟨o,j,q,t,k _ e,r⟩
local macro_rules | `(tactic| walk_at "sd_on")=>`(tactic| (repeat (any_goals (first | assumption | wp_step))))
section
variable {P:Program}{w:World}{A:Around}
theorem EC {I S:Addr}{R:Result->Shared->Prop}{s:Shared}(h:wpAny (model P w) A.in1 (Builtin.«set.update.loop» ⟨[.ref S,.ref I],[]⟩) (fun y j=>match y with | .done f=>R (.ok f) j | .again c=>c.quiet=true/\codeAny (model P w) A c R j) (fun e j=>R (.error e) j) s):codeAny (model P w) A (.builtin "set.update.loop" ⟨[.ref S,.ref I],[]⟩) R s :=
 codeAny_builtin F.entry_set_update_loop (by rw[Around.under_plainId F.plain_set_update_loop _];exact h)
theorem HY {l I S:Addr}{items:bZ}{ks:List bG}(hh:A.handled=none)(kk:y8 items ks)(nd:ks.Nodup)(hb:items.length+1<scanBound)(n1:S≠I)(n2:l≠I)(n3:l≠S){R:Result->Shared->Prop} :
  ∀(j i:Nat) (s:Shared),i+j=items.length->s.heap.IsListIter I l i->s.heap.IsList l items.toArray->KR P w s.heap S ks i ->
   (∀h' tk,KR P w h' S ks items.length->(∀b o,b≠S->b≠I->s.heap.get? b=some o->h'.get? b=some o)->R (.ok (.ret .none)) {s with heap:=h',toks:=tk}) ->
   codeAny (model P w) A (.builtin "set.update.loop" ⟨[.ref S,.ref I],[]⟩) R s:=by
 intro j
 induction j with
 | zero =>
  intro i s e it L hS hR;rw[Nat.add_zero]at e;subst e;refine EC ?_;refine wpAny_bind (wpAny_pyNext_list_end (A:=A.in1) hh it L (by simp) fun h' eb=>?_);exact wpAny_pure (hR h' s.toks (hS.at fun o z=>eb _ _ n1 z) fun b o _ hI z=>eb b o hI z)
 | succ j ih =>
  intro i s e it L hS hR;have hi:i<items.length:=by omega
  have hk:i<ks.length:=by rw[kk.1];exact hi
  obtain⟨is,sc⟩:=kk.2 i ks[i] items[i] (List.getElem?_eq_getElem hk) (List.getElem?_eq_getElem hi);refine EC ?_;refine wpAny_bind (wpAny_pyNext_list_item (A:=A.in1) (x:=items[i]) it L (by simp[hi]) fun h1 Z B=>?_);have hS1:KR P w h1 S ks i:=hS.at fun o z=>(B.2 S n1).trans z;show wpAny _ A.in1 (holding [items[i]] (setAdd S items[i]) >>= _) _ _ {s with heap:=h1};refine wpAny_bind (wpAny_holding (show wpAny _ _ (setAdd S items[i]) _ _ _ from ?_));unfold setAdd;refine wpAny_holding (wpAny_bind ((bF P w).pyHash (k:=ks[i]) is ?_));refine wpAny_setAddHashed_of (knd:=bF P w) (s:={s with heap:=h1,toks:=s.toks+1}) is sc hS1 (by omega) fun h2 q G=>?_;have new:((ks.take i).any fun x=>decide (x=ks[i]))=false:=by rw[List.any_eq_false];intro x hx z;have z:=of_decide_eq_true z;obtain⟨m,hm,em⟩:=List.mem_iff_getElem.mp hx;rw[z]at em;rw[List.length_take]at hm;rw[List.getElem_take]at em;have:=(List.getElem_inj nd).mp em;omega
  rw[new]at G;have fe:(fun k'=>((ks.take i).any fun x=>decide (x=k')) || decide (k'=ks[i]))=fun k=>(ks.take (i+1)).any fun x=>decide (x=k):=by funext k;rw[List.take_succ_eq_append_getElem hk,List.any_append,List.any_cons,List.any_nil,Bool.or_false];congr 1;exact decide_eq_decide.mpr eq_comm
  rw[fe]at G;have hS3:KR P w h2 S ks (i+1):=G;refine wpAny_pure ⟨plainId_quiet F.plain_set_update_loop _,ih (i+1) {s with heap:=h2,toks:=s.toks+1} (by omega) ?_ ?_ hS3 fun h' tk hS' kp=>?_⟩
  ·obtain⟨o,U,N⟩:=Z;exact⟨o,(q.2 I n1.symm).trans U,N⟩
  ·obtain⟨o,U,N⟩:=L;exact⟨o,(q.2 l n3).trans ((B.2 l n2).trans U),N⟩
  ·exact hR h' tk hS' fun b o bS bI z=>kp b o bS bI ((q.2 b bS).trans ((B.2 b bI).trans z))
theorem GY {E:cE}{s:Shared}{l:Addr}{items:bZ}{ks:List bG}{Q:cE}(hh:A.handled=none)(hl:s.heap.IsList l items.toArray)(kk:y8 items ks)(nd:ks.Nodup)(hb:items.length+1<scanBound)
  (h:∀(h':Heap) (tk:Nat),KR P w h' s.heap.objs.size ks items.length->(∀b o,s.heap.get? b=some o->h'.get? b=some o)->Q (.ref s.heap.objs.size) {s with heap:=h',toks:=tk}) :
  wpAny (model P w) A (call (.type "set") [.ref l]) Q E s:=by
 obtain⟨c,tl,m0⟩:=F.called_set.mro;have m1:=F.called_set.made;have m2:=F.called_set.sub;refine wpAny_call (codeAny_of_tree (wpAny_pure ⟨Code.quiet_builtin _ (by decide +kernel),codeAny_builtin F.entry_type_call ?_⟩));have wt:=weight_type_call_type "set" [.ref l] [];rw[Around.under_plain wt rfl];have m3:=F.called_set.notType;have m4:=F.called_set.canCreate;have m5:=F.typeCall_set_1 (.ref l)
 walk_at "sd_on"
 refine codeAny_mono (code_set_new_1 (.ref l) (E:=E) (Q₁:=fun obj Z=>∃j:Bool,obj = .ref s.heap.objs.size/\Z={s with heap:=s.heap.push {cls:=.type "set",dict:=none,data:=.set #[] 0 (.fresh 0 0 j)} }) fun j=>⟨j,rfl,rfl⟩) fun r Z G=>?_;cases r with
 | error e=>exact G
 | ok fl =>
  cases fl with
  | next=>exact G.elim
  | brk=>exact G.elim
  | cont=>exact G.elim
  | ret obj =>
   obtain⟨j,rfl,rfl⟩:=G;have gS:(s.heap.push {cls:=.type "set",dict:=none,data:=.set #[] 0 (.fresh 0 0 j)}).get? s.heap.objs.size=some {cls:=.type "set",dict:=none,data:=.set #[] 0 (.fresh 0 0 j)}:=Heap.get?_push_size _ rfl;have tS:Shared.TypeIs {s with heap:=s.heap.push {cls:=.type "set",dict:=none,data:=.set #[] 0 (.fresh 0 0 j)} } (.ref s.heap.objs.size) "set":=⟨_,gS,rfl⟩
   have i1:=F.called_set.init.lookup;have i2:=F.called_set.init.bind (.ref s.heap.objs.size)
   walk_at "sd_on"
   refine codeAny_mono (codeAny_call_builtin (R:=wants (fun r s2=>r = .none/\∃h' tk,s2={s with heap:=h',toks:=tk}/\KR P w h' s.heap.objs.size ks items.length/\∀b o,s.heap.get? b=some o->h'.get? b=some o) E) F.called_set.init.plain F.entry_set_init (check_set_init_1 tS ?_)) fun r2 s2 q=>?_
   ·obtain⟨⟨c1,d1,t1,sl1⟩,ho,L,n1,I⟩:=id hl;simp only at L I;subst L I;have ho':=Heap.get?_push_of_some {cls:=.type "set",dict:=none,data:=.set #[] 0 (.fresh 0 0 j)} ho;have j1:=F.sub_list_set;have j2:=F.sub_list_frozenset;have j3:(Value.type "list" == Value.type "dict")=false:=by decide
    have hl':(s.heap.push {cls:=.type "set",dict:=none,data:=.set #[] 0 (.fresh 0 0 j)}).IsList l items.toArray:=⟨_,ho',rfl,n1,rfl⟩
    unfold Builtin.«set.__init__» Builtin.Frozenset.updateFrom noKeywords;generalize U:pyIter=PI
    wp_walk
    subst U;refine wpAny_pyIter_list hl' (wpAny_bind (wpAny_runValue ?_));have lt:=Heap.lt_size ho;have N:(s.heap.push {cls:=.type "set",dict:=none,data:=.set #[] 0 (.fresh 0 0 j)}).objs.size=s.heap.objs.size+1:=Heap.size_push _ _;refine HY (P:=P) (w:=w) (items:=items) (ks:=ks) (l:=l) (by simp[hh]) kk nd hb (by rw[N];exact Nat.ne_of_lt (Nat.lt_succ_self _)) (by rw[N];exact Nat.ne_of_lt (Nat.lt_succ_of_lt lt)) (Nat.ne_of_lt lt) items.length 0 _ (Nat.zero_add _) ⟨_,Heap.get?_push_size _ rfl,rfl,rfl⟩ (hl'.push _) ?_ fun h' tk B kp=>?_
    ·have g2:=Heap.get?_push_of_some {cls:=.type "list_iterator",data:=.fields #[.ref l,.int 0 0]} gS;refine⟨_,#[],0,.fresh 0 0 j,g2,⟨rfl,rfl,rfl⟩,rfl,(fun e he=>absurd he (by simp)),fun k=>?_,(by show 0<scanBound;omega),(by cases j <;> decide),rfl⟩;simp
    ·refine wpAny_pure (wpAny_pure ⟨rfl,h',tk,rfl,B,fun b o e=>kp b o (Nat.ne_of_lt (Heap.lt_size e)) (by rw[N];exact Nat.ne_of_lt (Nat.lt_succ_of_lt (Heap.lt_size e))) (Heap.get?_push_of_some _ (Heap.get?_push_of_some _ e))⟩)
   ·cases r2 with
    | error e=>exact q
    | ok f2 =>
     cases f2 with
     | next=>exact q.elim
     | brk=>exact q.elim
     | cont=>exact q.elim
     | ret r =>
      obtain⟨rfl,h',tk,rfl,B,S⟩:=q
      walk_at "sd_on"
      exact h _ _ B S
end
noncomputable abbrev BB (P:Program)(w:World)(a:Addr)(n:Nat):HO:=.ext fun h=>∃ks,KR P w h a ks n
theorem LA {P:Program}{w:World}{H:Hp}{h:Heap}{a:Addr}{n:Nat}{ks:List bG}(x:KR P w h a ks n):bY P w H h a (BB P w a n):=by refine⟨⟨ks,x⟩,?_,fun B q ⟨j,y⟩ k=>⟨j,y.at fun o e=>k o e⟩⟩;obtain⟨o,_,_,_,e,_⟩:=x;exact⟨o,e⟩
theorem CZ:∀{q:aW} {us:bZ},aR (q.map V.str) us->y8 us (q.map Sum.inr):=by
 intro q us h;refine⟨by rw[List.length_map,←h.length,List.length_map],fun i k v j I=>?_⟩;rw[List.getElem?_map]at j;cases hs:q[i]? with
 | none=>rw[hs]at j;cases j
 | some x =>
  rw[hs]at j;cases j;obtain⟨u,B,G⟩:=h.get (i:=i) (x:=.str x) (by rw[List.getElem?_map,hs];rfl);rw[I]at B;cases B;obtain⟨t,rfl⟩:=G;exact⟨vU x t,rfl⟩
section
variable {X:Cx}
noncomputable def rSetT (P:Program)(w:World):List V->Hp->VK->Prop:=fun xs H Q=>∃(l:Addr) (ss:aW),xs=[.ref l]/\H l=some (.lst (ss.map V.str))/\ss.Nodup/\ss.length<=100/\∀p,H p=none->Q (.ref p) (upd H p (BB P w p ss.length))
theorem wJ (hc:X.calm=true):cT X (.type "set") (rSetT X.prog X.w):=by
 intro B s σ H xs us Q I L h;obtain⟨l,j,rfl,U,nd,le,q⟩:=h;obtain⟨u,rfl,N⟩:=aR.one L;cases N;obtain⟨its,r,pl,hz⟩:=I.list (fA.of U);have len:its.length=j.length:=by rw[←r.length,List.length_map]
 refine GY (P:=X.prog) (w:=X.w) (I.ok.hd hc) pl.isList (CZ r) ((List.pairwise_map.mpr (nd.imp fun h e=>h (Sum.inr.inj e)))) (by rw[len];exact Nat.lt_of_le_of_lt (Nat.succ_le_succ le) (by decide)) fun h' tk G kp=>?_;have S:H s.heap.objs.size=none:=I.hok.fresh (Nat.le_refl _);rw[len]at G;exact⟨.ref s.heap.objs.size,_,I.laid (t':=tk) (o:=BB X.prog X.w s.heap.objs.size j.length) kp (Nat.le_refl _) (LA G),rfl,q _ S⟩
noncomputable def rLenS (P:Program)(w:World):List V->Hp->VK->Prop:=fun xs H Q=>∃(a:Addr) (n:Nat),xs=[.ref a]/\H a=some (BB P w a n)/\Q (.int n) H
theorem wL:cT X (.builtin "len") (rLenS X.prog X.w):=by intro B s σ H xs us Q I G h;obtain⟨a,n,rfl,Z,q⟩:=h;obtain⟨u,rfl,L⟩:=aR.one G;cases L;obtain⟨⟨ks,o,es,ep,t,ho,j,hd,_,_,U,S,N⟩,_⟩:=I.hok a _ Z;have b1:es.size<4096:=U;refine call_len_set ho j hd S (by omega) ?_;rw[N];exact⟨.int n,H,I.tok _,⟨_,rfl⟩,q⟩
end
end L2
namespace Lw
open PySem L2
section
variable {P:Program}{w:World}{K:PySem.W.Frag}{mg:fM}{base:Heap}
theorem GD {c:Nat}(h:97<=c/\c<=122):inTx "abcdefghijklmnopqrstuvwxyz" c=true:=by
 have a:∀j:Fin 26,inTx "abcdefghijklmnopqrstuvwxyz" (97+j.1)=true:=by decide +kernel
 have:=a ⟨c - 97,by omega⟩;rw[show 97+(c - 97)=c by omega]at this;exact this
noncomputable def BV:Sp:=fun vs H Q _=>∃x:Str,vs=[.str x]/\i0 x/\∀H',aH H H'->Q (.bl true) H'
theorem MG {f:Addr}{S:FuncData}(F:gU K "is_name" "is_name" fY f S)(T:Txt mg):cA P w K mg base a0 1 f S qB BV:=by
 refine F.ok B7 (fun vs H Q E h=>?_) (fun cdv A outer s H vs Q E I h=>?_)
 ·obtain⟨x,rfl,_⟩:=h;rfl
 ·obtain⟨x,rfl,G,q⟩:=h;have U:=I.units
  refine⟨_,(aF (bK (PW.pt (iU (dC (aX K rfl (aK aL rfl T.n_isinstance rfl (aA (pv 0) (aA (bU (v:=V.ty "str") rfl T.n_str rfl rfl) aC))) (fun _=>rfl))) (h8 (dC (lC n6 n6 aJ (aK bH rfl T.n_len rfl (aA (pv 0) aC)) (gO T.c_LONGEST_NAME rfl)))))) (aG (aQ qH)) aU)
   (aG (aQ (aK (pZ rfl) rfl T.n_all rfl (aA (iI rfl (bJ.by (N:=qD) (names:=(aD fY).names) (N':=["sign"]) (src:=[none]) (by decide +kernel) rfl rfl) (IG (pv 0)) (fun _ _ _ _=>(bQ (i:=0) (show List.Nodup (["sign"]:aW)by decide +kernel) rfl (Or.inl rfl))) (fun _ _ _ _=>fB) (fun _ _ _ _=>(dY pJ (pv 0) (gO T.c_LETTERS rfl) (by with_unfolding_all rfl)))) aC))))),?_⟩
  simp only[qD];clear I F T U;have keep:=aI q G;clear q G
  walk_at "rd"
  obtain⟨q,h1,B,L⟩:=keep;have hz:x.length<=sizeLine:=Nat.le_trans (m:=6) (by rw[Array.length_toList]at B;exact B) (by decide);have el:x.cps.toList.length=x.length:=by rw[Array.length_toList];rfl
  refine⟨true,rfl,?_⟩;rw[if_neg (by decide)];refine⟨.int x.length,by rw[AJ hz];rfl,_,rfl,?_⟩;rw[if_pos (by omega)];refine⟨_,rfl,?_⟩;rw[if_neg (by omega)];refine⟨_,rfl,x,rfl,?_,?_⟩
  ·rw[Array.all_eq_true_iff_forall_mem];intro c hc;have:=L c (by simpa using hc);simp only[decide_eq_true_eq];omega
  ·refine wG (fun i j σ H'=>H'=H/\j=(List.replicate i true).map V.bl/\i<=6/\∃o:Option V,σ=[o]) ⟨rfl,rfl,by decide,none,rfl⟩ ?_ ?_
   ·rintro i c j σ H' hc ⟨rfl,rfl,hi,o,rfl⟩;have hm:c∈x.cps.toList:=by
     have:x.cps.toList[i]?=some c:=by rw[Array.getElem?_toList];exact hc
     exact List.mem_of_getElem? this
    have hi':i<x.cps.size:=(Array.getElem?_eq_some_iff.mp hc).1;refine⟨_,rfl,_,rfl,_,rfl,?_⟩;have e:=GD (L c hm);unfold inTx at e;dsimp only;refine⟨Nat.lt_of_le_of_lt (m:=100) (by simp;omega) (by decide),rfl,?_,by rw[Array.length_toList]at B;omega,_,rfl⟩;rw[e,List.replicate_succ',List.map_append];rfl
   ·rintro j σ H' ⟨rfl,rfl,hi,o,rfl⟩ p Z;refine⟨p,rfl,List.replicate _ true,upd_same,?_⟩;have:(List.replicate x.cps.size true).all id=true:=by simp
    rw[this];exact q _ (aH.upd Z)
noncomputable def w5:Sp:=fun vs H Q _=>∃i:Int,vs=[.int i]/\Q (.bl true) H
theorem IV {f:Addr}{j:FuncData}(F:gU K "is_whole" "is_whole" fQ f j)(T:Txt mg):cA P w K mg base a0 1 f j nA w5:=by
 refine F.ok zK (fun vs H Q E h=>?_) (fun G A outer s H vs Q E B h=>?_)
 ·obtain⟨x,rfl,_⟩:=h;rfl
 ·obtain⟨i,rfl,q⟩:=h;refine⟨_,(aG (aQ (IO (aK aL rfl T.n_isinstance rfl (aA (pv 0) (aA (bU (v:=V.ty "int") rfl T.n_int rfl rfl) aC))) (CA (O5 (aK aL rfl T.n_isinstance rfl (aA (pv 0) (aA (bU (v:=V.ty "bool") rfl T.n_bool rfl rfl) aC)))))))),?_⟩;simp only[t8];clear B F T
  walk_at "rd"
noncomputable def mE (H:Hp)(j:List V):Prop:=∀v∈j,∃t x y,v = .ref t/\H t=some (.tup [x,y])
theorem mE.same {H H':Hp}{j:List V}(h:mE H j)(s:aH H H'):mE H' j:=fun v q=>by obtain⟨t,x,y,e,h⟩:=h v q;exact⟨t,x,y,e,s _ _ h⟩
noncomputable def xC:Sp:=fun vs H Q _=>∃(a:Addr) (lo hi:Int) (ws:List V),vs=[.ref a,.int lo,.int hi]/\H a=some (.lst ws)/\mE H ws/\lo<=ws.length/\(ws.length:Int)<=hi/\ws.length<=100/\∀l H',aH H H'->H l=none->H' l=some (.lst ws)->Q (.ref l) H'
noncomputable def SQ (a:Addr)(j q:Int)(H:Hp)(i:Nat)(σ:St)(B:Hp):Prop:=∃o:Option V,σ=[some (.ref a),some (.int j),some (.int q),o]/\aH H B
noncomputable def SR (q:List V)(H:Hp)(i:Nat)(j:List V)(σ:St)(B:Hp):Prop:=∃o:Option V,σ=[o]/\aH H B/\j=q.take i
theorem I8 {f:Addr}{fd:FuncData}(F:gU K "checked_pairs" "checked_pairs" cG f fd)(T:Txt mg):cA P w K mg base a0 1 f fd iB xC:=by
 refine F.ok j6 (fun vs H Q E h=>?_) (fun cdv A outer s H vs Q E hr h=>?_)
 ·obtain⟨a,lo,hi,ws,rfl,_⟩:=h;rfl
 ·obtain⟨a,lo,hi,ws,rfl,ha,S,h1,h2,h3,q⟩:=h;have hu:=hr.units
  refine⟨_,(aF (bK (PW.pt (iU (dC (aX K rfl (aK aL rfl T.n_isinstance rfl (aA (pv 0) (aA (fI (aA (bU (v:=V.ty "list") rfl T.n_list rfl rfl) (aA (bU (v:=V.ty "tuple") rfl T.n_tuple rfl rfl) aC))) aC))) (fun _=>rfl))) (h8 (dC (lC n6 n6 (pv 1) (aK bH rfl T.n_len rfl (aA (pv 0) aC)) (pv 2)))))) (aG eN) aU)
   (aF (eI PassesOwn.never rfl (dM K rfl (pv 0)) (bQ (i:=3) j6.nd rfl (Or.inl rfl)) (aG (bK (PW.pt (iU (dC (aX K rfl (aK aL rfl T.n_isinstance rfl (aA (pv 3) (aA (fI (aA (bU (v:=V.ty "list") rfl T.n_list rfl rfl) (aA (bU (v:=V.ty "tuple") rfl T.n_tuple rfl rfl) aC))) aC))) (fun _=>rfl))) (h8 (aV (fJ hu) (aK bH rfl T.n_len rfl (aA (pv 3) aC)) aJ (nomark _))))) (aG eN) aU)))
   (aG (aQ (iI rfl (bJ.by (N:=iF) (names:=(aD cG).names) (N':=["pair"]) (src:=[none]) (by decide +kernel) rfl rfl) (dM K rfl (pv 0)) (fun _ _ _ _=>(bQ (i:=0) (show List.Nodup (["pair"]:aW)by decide +kernel) rfl (Or.inl rfl))) (fun _ _ _ _=>fB) (fun _ _ _ _=>(cC gB rfl T.n_tuple rfl (aA (pv 0) aC)))))))),?_⟩
  simp only[iF];clear hr F T hu;have keep:=aI q (aI ha (aI S (aI h1 (aI h2 h3))));clear q ha S h1 h2 h3
  walk_at "rd"
  obtain⟨q,ha,S,h1,h2,h3⟩:=keep;refine⟨by decide,fun p hp=>?_⟩;have L:aH H (upd H p (.tup [.ty "list",.ty "tuple"])):=aH.upd hp;have Z:upd H p (.tup [.ty "list",.ty "tuple"]) p=some (.tup [.ty "list",.ty "tuple"]):=upd_same;generalize upd H p (.tup [.ty "list",.ty "tuple"])=H1 at L Z⊢;have j:=L _ _ ha;refine⟨true,JU j Z,?_⟩;rw[if_neg (by decide)];refine⟨.int ws.length,by rw[lenV_l j];rfl,_,rfl,?_⟩;rw[if_pos h1];refine⟨_,rfl,?_⟩;rw[if_neg (by omega)];refine⟨ws,.inl j,fun J hJ=>?_⟩;refine jF hJ (SQ a lo hi H1) ⟨none,rfl,aH.refl _⟩ (by rintro i σ H' _ ⟨_,_,s2⟩;rw[j,s2 _ _ j]) ?_ ?_
  ·rintro i x σ H2 hx ⟨o,rfl,s2⟩;obtain⟨t,y,z,rfl,ht⟩:=S x (List.mem_of_getElem? hx);have I:=s2 _ _ (L _ _ ht);have keep:=aI q (aI ha (aI S (aI s2 (aI I L))));clear q ha S s2 I ht j Z h1 h2 h3 hJ hx L hp
   walk_at "rd"
   obtain⟨q,ha,S,s2,I,L⟩:=keep;refine⟨by decide,fun p3 hp3=>?_⟩;have G:aH H2 (upd H2 p3 (.tup [.ty "list",.ty "tuple"])):=aH.upd hp3;have U:upd H2 p3 (.tup [.ty "list",.ty "tuple"]) p3=some (.tup [.ty "list",.ty "tuple"]):=upd_same;generalize upd H2 p3 (.tup [.ty "list",.ty "tuple"])=H3 at G U⊢;have B:=G _ _ I;refine⟨true,JT B U,?_⟩;rw[if_neg (by decide)];refine⟨.int 2,by rw[lenV_t B];rfl,?_⟩;rw[rNeD_ii];refine⟨_,rfl,?_⟩;rw[if_neg (by decide)];exact⟨_,rfl,s2.trans G⟩
  ·rintro σ H2 ⟨o,rfl,s2⟩;have ha2:=s2 _ _ j;refine⟨_,rfl,a,ws,rfl,.inl ha2,fun J2 hJ2=>?_⟩;refine dP hJ2 (SR ws H2) ⟨none,rfl,aH.refl _,rfl⟩ (by rintro i acc σ H' _ ⟨_,_,G,_⟩;rw[ha2,G _ _ ha2]) ?_ ?_
   ·rintro i x acc σ H3 hx ⟨o',rfl,G,rfl⟩;obtain⟨t,y,z,rfl,ht⟩:=S x (List.mem_of_getElem? hx);have B:=G _ _ (s2 _ _ (L _ _ ht));have hi':=(List.getElem?_eq_some_iff.mp hx).1;refine⟨_,rfl,t,[y,z],rfl,.inr B,fun l H4 hc=>?_⟩;rcases hc with⟨hc,rfl,rfl⟩|⟨hc,_⟩
    ·exact⟨Nat.lt_of_le_of_lt (m:=100) (by rw[List.length_take];omega) (by decide),_,rfl,G,by rw[aZ hx]⟩
    ·rw[B]at hc;cases hc
   ·rintro acc σ H3 ⟨o',rfl,G,rfl⟩ l hl;rw[List.take_length];have s4:=(L.trans s2).trans G;exact q l _ (s4.trans (aH.upd hl)) (s4.free hl) upd_same
noncomputable def i8 (H:Hp):aW->List V->Prop
 | [],vs=>vs=[]
 | n::ns,vs=>∃t y us,vs = .ref t::us/\H t=some (.tup [.str n,y])/\i8 H ns us
theorem i8.same {H H':Hp}(s:aH H H'):∀{ns:aW} {vs:List V},i8 H ns vs->i8 H' ns vs
 | [],_,h=>h
 | _::_,_,⟨t,y,us,e,h,q⟩=>⟨t,y,us,e,s _ _ h,i8.same s q⟩
theorem i8.len {H:Hp}:∀{ns:aW} {vs:List V},i8 H ns vs->vs.length=ns.length
 | [],_,h=>by cases h;rfl
 | _::_,_,⟨t,y,us,e,h,q⟩=>by subst e;simp[i8.len q]
theorem i8.get {H:Hp}:∀{ns:aW} {vs:List V} {i:Nat} {v:V},i8 H ns vs->vs[i]?=some v->∃n t y,ns[i]?=some n/\v = .ref t/\H t=some (.tup [.str n,y])
 | [],_,_,_,h,k=>by cases h;simp at k
 | _::_,_,0,_,⟨t,y,us,e,h,q⟩,k=>by subst e;simp at k;exact⟨_,t,y,rfl,k.symm,h⟩
 | _::_,_,i+1,_,⟨t,y,us,e,h,q⟩,k=>by subst e;simp at k;obtain⟨r,t,y,G,B,j⟩:=i8.get q k;exact⟨r,t,y,by simpa using G,B,j⟩
theorem i8.app {H:Hp}:∀{ns j:aW} {vs us:List V},i8 H ns vs->i8 H j us->i8 H (ns++j) (vs++us)
 | [],_,_,_,h,k=>by cases h;exact k
 | _::_,_,_,_,⟨t,y,us,e,h,q⟩,k=>by subst e;exact⟨t,y,_,rfl,h,i8.app q k⟩
theorem dX.n {H:Hp}:∀{l:cL} {vs:List V},dX H l vs->i8 H (l.map (·.1)) vs
 | [],_,h=>h
 | _::_,_,⟨t,us,e,h,q⟩=>⟨t,_,us,e,h,dX.n q⟩
theorem d9.n {H:Hp}:∀{l:bM} {vs:List V},d9 H l vs->i8 H (l.map (·.1)) vs
 | [],_,h=>h
 | _::_,_,⟨t,us,e,h,q⟩=>⟨t,_,us,e,h,d9.n q⟩
noncomputable def rT:Sp:=fun vs H Q _=>∃(a:Addr) (ns:aW) (ws:List V),vs=[.ref a]/\H a=some (.lst ws)/\i8 H ns ws/\(∀x∈ns,i0 x)/\ns.Nodup/\ns.length<=50/\∀H',aH H H'->Q .non H'
noncomputable def ST (ns:aW)(H:Hp)(i:Nat)(j:List V)(σ:St)(B:Hp):Prop:=∃o q:Option V,σ=[o,q]/\aH H B/\j=(ns.take i).map V.str
noncomputable def SS (H:Hp)(i:Nat)(j:List V)(σ:St)(q:Hp):Prop:=∃o:Option V,σ=[o]/\aH H q/\j=(List.replicate i true).map V.bl
theorem FT {f:Addr}{fd:FuncData}(F:gU K "check_names" "check_names" cN f fd)(T:Txt mg)(O_is_name:cK P w K mg base a0 1 "is_name" BV):cA P w K mg base a0 2 f fd jS rT:=by
 refine F.ok lA (fun vs H Q E h=>?_) (fun cdv A outer s H vs Q E hr h=>?_)
 ·obtain⟨a,ns,ws,rfl,_⟩:=h;rfl
 ·obtain⟨a,ns,ws,rfl,S,Z,ok,nd,I,q⟩:=h;have hu:=hr.units
  refine⟨_,(aF (iH (i:=1) lA.nd rfl rfl rfl rfl (bJ.by (N:=hO) (names:=(aD cN).names) (N':=["name","told"]) (src:=[none,none]) (by decide +kernel) rfl rfl) (dM K rfl (pv 0)) (fun _ _ _ _=>(cR K rfl (i:=0) (j:=1) rfl (show List.Nodup (["name","told"]:aW)by decide +kernel) rfl rfl rfl rfl)) (fun _ _ _ _=>fB) (fun _ _ _ _=>(pv 0)))
   (aF (bK (dC (aX K rfl (aK (pZ rfl) rfl T.n_all rfl (aA (iI rfl (bJ.by (N:=hO) (names:=(aD cN).names) (N':=["name"]) (src:=[none]) (by decide +kernel) rfl rfl) (dM K rfl (pv 1)) (fun _ _ _ _=>(bQ (i:=0) (show List.Nodup (["name"]:aW)by decide +kernel) rfl (Or.inl rfl))) (fun _ _ _ _=>fB) (fun _ _ _ _=>(aM O_is_name (hr.mono (by decide)) pass0 rfl (aA (pv 0) aC)))) aC)) (fun _=>rfl))) (aG eN) aU)
   (aG (bK (aV (jH hu) (aK wL rfl T.n_len rfl (aA (cC (wJ rfl) rfl T.n_set rfl (aA (pv 1) aC)) aC)) (aK bH rfl T.n_len rfl (aA (pv 1) aC)) (nomark _)) (aG eN) aU)))),?_⟩
  simp only[hO];clear hr F T hu O_is_name;have keep:=aI q (aI S (aI Z (aI ok (aI nd I))));clear q S Z ok nd I
  walk_at "rd"
  obtain⟨q,S,Z,ok,nd,I⟩:=keep;have lw:=Z.len;refine⟨ws,.inl S,fun J hJ=>?_⟩;refine dP hJ (ST ns H) ⟨none,none,rfl,aH.refl _,rfl⟩ (by rintro i G σ H' _ ⟨_,_,_,s2,_⟩;rw[S,s2 _ _ S]) ?_ ?_
  ·rintro i x G σ H2 hx ⟨o,o',rfl,s2,rfl⟩;obtain⟨n,t,y,hn,rfl,ht⟩:=Z.get hx;have hi:=(List.getElem?_eq_some_iff.mp hn).1;refine⟨t,_,rfl,hZ.of (s2 _ _ ht),rfl,_,_,rfl,_,_,rfl,rfl,_,rfl,Nat.lt_of_le_of_lt (m:=100) (by simp;omega) (by decide),_,_,rfl,s2,?_⟩;rw[aZ hn,List.map_append];rfl
  ·rintro G σ H2 ⟨o,o',rfl,s2,rfl⟩ l hl;rw[lw,List.take_length];have B:upd H2 l (.lst (ns.map V.str)) l=some (.lst (ns.map V.str)):=upd_same;have s3:=s2.trans (aH.upd (o:=.lst (ns.map V.str)) hl);generalize upd H2 l (.lst (ns.map V.str))=H3 at B s3⊢;refine⟨l,rfl,_,.inl B,fun J2 hJ2=>?_⟩;refine dP hJ2 (SS H3) ⟨none,rfl,aH.refl _,rfl⟩ (by rintro i G σ H' _ ⟨_,_,U,_⟩;rw[B,U _ _ B]) ?_ ?_
   ·rintro i x G σ H4 hx ⟨o,rfl,U,rfl⟩;rw[List.getElem?_map]at hx;obtain⟨n,hn,rfl⟩:=Option.map_eq_some_iff.mp hx;have hi:=(List.getElem?_eq_some_iff.mp hn).1;refine⟨_,rfl,n,rfl,ok n (List.mem_of_getElem? hn),fun H5 L=>⟨Nat.lt_of_le_of_lt (m:=100) (by simp;omega) (by decide),_,rfl,U.trans L,?_⟩⟩;rw[List.replicate_succ',List.map_append];rfl
   ·rintro G σ H4 ⟨o,rfl,U,rfl⟩ l2 hl5;refine⟨l2,rfl,_,upd_same,?_⟩;rw[if_neg (by simp)];have L:=U.trans (aH.upd (o:=.lst ((List.replicate (ns.map V.str).length true).map V.bl)) hl5);generalize upd H4 l2 (.lst ((List.replicate (ns.map V.str).length true).map V.bl))=H5 at L⊢;refine⟨l,ns,rfl,L _ _ B,nd,by omega,fun p hp=>⟨p,ns.length,rfl,upd_same,.int ns.length,?_,.inl (.inl ⟨_,rfl,_,rfl,?_⟩)⟩⟩
    ·have:=(aH.upd (o:=BB P w p ns.length) hp) _ _ (L _ _ B);show Option.map _ ((lenV (upd H5 p (BB P w p ns.length)) (.ref l)).bind _)=_;rw[lenV_l this,List.length_map];rfl
    ·rw[if_neg (by omega)];exact q _ ((s3.trans L).trans (aH.upd hp))
noncomputable def xB:Sp:=fun vs H Q _=>∃(a:Addr) (fx:cL) (fv:List V),vs=[.ref a]/\H a=some (.lst fv)/\dX H fx fv/\(∀r∈fx,0<=r.2/\r.2<=3)/\(∃r∈fx,r.2=0)/\fx.length<=50/\∀H',aH H H'->Q .non H'
noncomputable def R9 (a:Addr)(H:Hp)(i:Nat)(σ:St)(q:Hp):Prop:=∃o j:Option V,σ=[some (.ref a),o,j]/\q=H
noncomputable def SA (B:cL)(H:Hp)(i:Nat)(j:List V)(σ:St)(G:Hp):Prop:=∃o q:Option V,σ=[o,q]/\G=H/\j=((B.take i).map fun r=>decide (r.2=0)).map V.bl
theorem IZ {f:Addr}{fd:FuncData}(F:gU K "check_parts" "check_parts" dF f fd)(T:Txt mg)(O_is_whole:cK P w K mg base a0 1 "is_whole" w5):cA P w K mg base a0 2 f fd jR xB:=by
 refine F.ok kZ (fun vs H Q E h=>?_) (fun cdv A outer s H vs Q E S h=>?_)
 ·obtain⟨a,fx,fv,rfl,_⟩:=h;rfl
 ·obtain⟨a,fx,fv,rfl,I,G,ok,bare,B,q⟩:=h;have hu:=S.units
  refine⟨_,(aF (eI PassesOwn.never rfl (dM K rfl (pv 0)) (cR K rfl (i:=1) (j:=2) rfl kZ.nd rfl rfl rfl rfl) (aG (bK (PW.pt (iU (dC (aX K rfl (aM O_is_whole (S.mono (by decide)) pass0 rfl (aA (pv 2) aC)) (fun _=>rfl))) (h8 (dC (lC n6 n6 aJ (pv 2) (gO T.c_MOST_PARTS rfl)))))) (aG eN) aU)))
   (aG (bK (dC (aX K rfl (aK (G4 rfl) rfl T.n_any rfl (aA (iI rfl (bJ.by (N:=jX) (names:=(aD dF).names) (N':=["name","many"]) (src:=[none,none]) (by decide +kernel) rfl rfl) (dM K rfl (pv 0)) (fun _ _ _ _=>(cR K rfl (i:=0) (j:=1) rfl (show List.Nodup (["name","many"]:aW)by decide +kernel) rfl rfl rfl rfl)) (fun _ _ _ _=>fB) (fun _ _ _ _=>(dY (eJ hu) (pv 1) aJ (nomark _)))) aC)) (fun _=>rfl))) (aG eN) aU))),?_⟩
  simp only[jX];clear S F T hu O_is_whole;have keep:=aI q (aI I (aI G (aI ok (aI bare B))));clear q I G ok bare B
  walk_at "rd"
  obtain⟨q,I,G,ok,bare,B⟩:=keep;have L:=G.len;refine⟨fv,.inl I,fun J hJ=>?_⟩;refine jF hJ (R9 a H) ⟨none,none,rfl,rfl⟩ (by rintro i σ H' _ ⟨_,_,_,rfl⟩;rfl) ?_ ?_
  ·rintro i x σ H2 hx ⟨o,o',rfl,rfl⟩;obtain⟨r,t,U,rfl,ht⟩:=G.get hx;obtain⟨k0,k3⟩:=ok r (List.mem_of_getElem? U);refine⟨t,_,rfl,hZ.of ht,rfl,_,_,rfl,_,_,rfl,rfl,?_⟩;have keep:=aI q (aI k0 k3);clear q I G ok bare B L hJ hx U ht
   walk_at "rd"
   obtain⟨q,k0,k3⟩:=keep;refine⟨r.2,rfl,true,rfl,?_⟩;rw[if_neg (by decide)];exact⟨_,_,rfl,rfl⟩
  ·rintro σ H2 ⟨o,o',rfl,rfl⟩;have keep:=aI q (aI I (aI G (aI ok (aI bare (aI B L)))));clear q I G ok bare B L hJ
   walk_at "rd"
   obtain⟨q,I,G,ok,bare,B,L⟩:=keep;refine⟨fv,.inl I,fun J2 hJ2=>?_⟩;refine dP hJ2 (SA fx H2) ⟨none,none,rfl,rfl,rfl⟩ (by rintro i acc σ H' _ ⟨_,_,_,rfl,_⟩;rfl) ?_ ?_
   ·rintro i x acc σ H3 hx ⟨o,o',rfl,rfl,rfl⟩;obtain⟨r,t,U,rfl,ht⟩:=G.get hx;have hi:=(List.getElem?_eq_some_iff.mp U).1;refine⟨t,_,rfl,hZ.of ht,rfl,_,_,rfl,_,_,rfl,rfl,_,rfl,?_⟩;dsimp only[tC];rw[rEqD_ii];refine⟨Nat.lt_of_le_of_lt (m:=100) (by simp;omega) (by decide),_,_,rfl,rfl,?_⟩;rw[aZ U,List.map_append,List.map_append];rfl
   ·rintro acc σ H3 ⟨o,o',rfl,rfl,rfl⟩ l2 hl5;rw[L,List.take_length];refine⟨l2,rfl,_,upd_same,?_⟩;have Z:((fx.map fun r=>decide (r.2=0)).any id)=true:=by obtain⟨r,S,e⟩:=bare;rw[List.any_eq_true];exact⟨true,List.mem_map.mpr ⟨r,S,decide_eq_true e⟩,rfl⟩
    rw[Z,if_neg (by decide)];exact q _ (aH.upd hl5)
noncomputable def nots (sm:bM):aW:=(sm.map (·.2)).filter fun(x:Str)=>decide (x≠("" : Str))
noncomputable def mR:Sp:=fun vs H Q _=>∃(a b:Addr) (sm:bM) (sv:List V) (zs:aW),vs=[.ref a,.ref b]/\H a=some (.lst sv)/\d9 H sm sv/\H b=some (.lst (zs.map V.str))/\(∀r∈sm,r.2≠("" : Str)->r.2∈zs)/\(nots sm).Nodup/\sm.length<=50/\∀H',aH H H'->Q .non H'
noncomputable def SC (a b:Addr)(H:Hp)(i:Nat)(σ:St)(B:Hp):Prop:=∃o q j:Option V,σ=[some (.ref a),some (.ref b),o,q,j]/\B=H
noncomputable def SD (sm:bM)(H:Hp)(i:Nat)(j:List V)(σ:St)(B:Hp):Prop:=∃o q:Option V,σ=[o,q]/\B=H/\j=(nots (sm.take i)).map V.str
theorem FW (sm:bM)(r:Str×Str):nots (sm++[r])=nots sm++(if r.2=("" : Str)then []else [r.2]):=by unfold nots;rw[List.map_append,List.filter_append];congr 1;by_cases z:r.2=("" : Str) <;> simp[z]
theorem zZ (sm:bM):(nots sm).length<=sm.length:=by unfold nots;exact Nat.le_trans (List.length_filter_le _ _) (by rw[List.length_map];exact Nat.le_refl _)
theorem zY {f:Addr}{fd:FuncData}(F:gU K "check_noughts" "check_noughts" cH f fd)(T:Txt mg):cA P w K mg base a0 1 f fd iC mR:=by
 refine F.ok gX (fun vs H Q E h=>?_) (fun cdv A outer s H vs Q E hr h=>?_)
 ·obtain⟨a,b,sm,sv,zs,rfl,_⟩:=h;rfl
 ·obtain⟨a,b,sm,sv,zs,rfl,L,G,S,ok,nd,B,q⟩:=h;have hu:=hr.units
  refine⟨_,(aF (eI PassesOwn.never rfl (dM K rfl (pv 0)) (cR K rfl (i:=2) (j:=3) rfl gX.nd rfl rfl rfl rfl) (aG (bK (PW.pt (iU (dC (aX K rfl (aK aL rfl T.n_isinstance rfl (aA (pv 3) (aA (bU (v:=V.ty "str") rfl T.n_str rfl rfl) aC))) (fun _=>rfl))) (h8 (PW.pt (rZ (aV (fJ hu) (pv 3) gM (nomark _)) (nU (aV (FP hu) (pv 3) (pv 1) (by with_unfolding_all rfl)))))))) (aG eN) aU)))
   (aF (iH (i:=4) gX.nd rfl rfl rfl rfl (bJ.by (N:=iG) (names:=(aD cH).names) (N':=["name","nought"]) (src:=[none,none]) (by decide +kernel) rfl rfl) (dM K rfl (pv 0)) (fun _ _ _ _=>(cR K rfl (i:=0) (j:=1) rfl (show List.Nodup (["name","nought"]:aW)by decide +kernel) rfl rfl rfl rfl)) (fun _ _ _ _=>(kE (aV (fJ hu) (pv 1) gM (nomark _)))) (fun _ _ _ _=>(pv 1)))
   (aG (bK (aV (jH hu) (aK wL rfl T.n_len rfl (aA (cC (wJ rfl) rfl T.n_set rfl (aA (pv 4) aC)) aC)) (aK bH rfl T.n_len rfl (aA (pv 4) aC)) (nomark _)) (aG eN) aU)))),?_⟩
  simp only[iG];clear hr F T hu;have keep:=aI q (aI L (aI G (aI S (aI ok (aI nd B)))));clear q L G S ok nd B
  walk_at "rd"
  obtain⟨q,L,G,S,ok,nd,B⟩:=keep;have Z:=G.len;refine⟨sv,.inl L,fun J hJ=>?_⟩;refine jF hJ (SC a b H) ⟨none,none,none,rfl,rfl⟩ (by rintro i σ H' _ ⟨_,_,_,_,rfl⟩;rfl) ?_ ?_
  ·rintro i x σ H2 hx ⟨o,o',o'',rfl,rfl⟩;obtain⟨r,t,hn,rfl,ht⟩:=G.get hx;have I:=ok r (List.mem_of_getElem? hn);refine⟨t,_,rfl,hZ.of ht,rfl,_,_,rfl,_,_,rfl,rfl,?_⟩;have keep:=aI q (aI I S);clear q L G S ok nd B Z hJ hx hn ht I
   walk_at "rd"
   obtain⟨q,I,S⟩:=keep;refine⟨true,rfl,?_⟩;rw[if_neg (by decide)];refine⟨!decide (r.2=("" : Str)),by simp,?_⟩;by_cases z:r.2=("" : Str)
   ·rw[if_neg (by simp[z])];exact⟨_,_,_,rfl,rfl⟩
   ·rw[if_pos (by simp[z])];refine⟨.str r.2,zs.map D.str,rfl,.inl ⟨b,_,rfl,S,pD zs⟩,by rw[tL];decide,_,rfl,?_⟩;rw[if_neg]
    ·exact⟨_,_,_,rfl,rfl⟩
    ·rw[tE,decide_eq_true (I z)];decide
  ·rintro σ H2 ⟨o,o',o'',rfl,rfl⟩;have keep:=aI q (aI L (aI G (aI nd (aI B Z))));clear q L G ok S nd B Z hJ
   walk_at "rd"
   obtain⟨q,L,G,nd,B,Z⟩:=keep;refine⟨sv,.inl L,fun J2 hJ2=>?_⟩;refine dP hJ2 (SD sm H2) ⟨none,none,rfl,rfl,rfl⟩ (by rintro i acc σ H' _ ⟨_,_,_,rfl,_⟩;rfl) ?_ ?_
   ·rintro i x acc σ H3 hx ⟨o,o',rfl,rfl,rfl⟩;obtain⟨r,t,hn,rfl,ht⟩:=G.get hx;have hi:=(List.getElem?_eq_some_iff.mp hn).1;have hk:=zZ (sm.take i);rw[List.length_take]at hk;have e1:=FW (sm.take i) r;rw[←aZ hn]at e1;refine⟨t,_,rfl,hZ.of ht,rfl,_,_,rfl,_,_,rfl,rfl,_,rfl,?_⟩;dsimp only[tC];rw[rNeD_ss];refine⟨_,rfl,?_⟩;by_cases z:r.2=("" : Str)
    ·rw[if_neg (by simp[z])];rw[if_pos z,List.append_nil]at e1;exact⟨_,_,rfl,rfl,by rw[e1]⟩
    ·rw[if_pos (by simp[z])];rw[if_neg z]at e1;exact⟨_,rfl,Nat.lt_of_le_of_lt (m:=100) (by rw[List.length_map];omega) (by decide),_,_,rfl,rfl,by rw[e1,List.map_append];rfl⟩
   ·rintro acc σ H3 ⟨o,o',rfl,rfl,rfl⟩ l hl;rw[Z,List.take_length];have U:upd H3 l (.lst ((nots sm).map V.str)) l=some (.lst ((nots sm).map V.str)):=upd_same;have s3:aH H3 (upd H3 l (.lst ((nots sm).map V.str))):=aH.upd hl;generalize upd H3 l (.lst ((nots sm).map V.str))=H4 at U s3⊢;have hk:=zZ sm;refine⟨l,nots sm,rfl,U,nd,by omega,fun p hp=>⟨p,(nots sm).length,rfl,upd_same,.int (nots sm).length,?_,.inl (.inl ⟨_,rfl,_,rfl,?_⟩)⟩⟩
    ·have:=(aH.upd (o:=BB P w p (nots sm).length) hp) _ _ U;show Option.map _ ((lenV (upd H4 p (BB P w p (nots sm).length)) (.ref l)).bind _)=_;rw[lenV_l this,List.length_map];rfl
    ·rw[if_neg (by omega)];exact q _ (s3.trans (aH.upd hp))
end
section
variable {P:Program}{w:World}{K:PySem.W.Frag}{mg:fM}{base:Heap}
structure OB (K:PySem.W.Frag)(C:Addr):Prop where
 cls:HA K C
 n1:iE K C "fixed_rows"
 n2:iE K C "sum_rows"
 n3:iE K C "many_by_name"
 n4:iE K C "nought_by_name"
theorem dX.pairs {H:Hp}{I:cL}{j:List V}(h:dX H I j):mE H j:=fun v q=>by obtain⟨i,G⟩:=List.getElem?_of_mem q;obtain⟨r,t,_,e,B⟩:=h.get G;exact⟨t,_,_,e,B⟩
theorem d9.pairs {H:Hp}{sm:bM}{j:List V}(h:d9 H sm j):mE H j:=fun v q=>by obtain⟨i,G⟩:=List.getElem?_of_mem q;obtain⟨r,t,_,e,B⟩:=h.get G;exact⟨t,_,_,e,B⟩
theorem dX.prs {H:Hp}:∀{B:cL} {fv:List V},dX H B fv->fv.map (prV H)=(B.map fun r=>((.inr r.1,V.int r.2):bG×V)).map (fun j=>some (kV j.1,j.2))
 | [],_,e=>by cases e;rfl
 | r::l,_,⟨t,us,e,h,q⟩=>by subst e;rw[List.map_cons,dX.prs q];unfold prV;simp only[h];rfl
theorem JL {j:cL}(nd:(j.map (·.1)).Nodup):jI [] (j.map fun r=>((.inr r.1,V.int r.2):bG×V))=j.map fun r=>(.inr r.1,V.int r.2):=by
 rw[mU]
 ·rfl
 ·rw[List.nil_append,List.map_map];exact List.pairwise_map.mpr ((List.pairwise_map.mp nd).imp fun h e=>h (Sum.inr.inj e))
noncomputable def BZ (K:PySem.W.Frag)(C:Addr):Sp:=fun vs H Q _=>∃(x j a b:Addr) (fx:cL) (sm:bM) (fv sv:List V),vs=[.ref x,.ref a,.ref b]/\H x=some (.ins C j [])/\H a=some (.lst fv)/\H b=some (.lst sv)/\dX H fx fv/\d9 H sm sv/\bW fx sm /\
 ∀H',bT x H H'->iK K C fx sm H' x->Q .non H'
noncomputable def R6 (B:cL)(H:Hp)(i:Nat)(j:List V)(σ:St)(G:Hp):Prop:=∃o q:Option V,σ=[o,q]/\G=H/\j=(zeros (B.take i)).map V.str
theorem BK (j:cL):(zeros j).length<=j.length:=by unfold zeros;rw[List.length_map];exact List.length_filter_le _ _
theorem ML {f C:Addr}{fd:FuncData}(F:gU K "__init__" "Signs.__init__" cB f fd)(T:Txt mg)(co:OB K C)(O_checked_pairs:cK P w K mg base a0 1 "checked_pairs" xC)(O_check_names:cK P w K mg base a0 2 "check_names" rT)(O_check_parts:cK P w K mg base a0 2 "check_parts" xB)(O_check_noughts:cK P w K mg base a0 1 "check_noughts" mR):cA P w K mg base a0 3 f fd gZ (BZ K C):=by
 refine F.ok gJ (fun vs H Q E h=>?_) (fun cdv A outer s H vs Q E hr h=>?_)
 ·obtain⟨x,B,a,b,G,sm,L,S,rfl,_⟩:=h;rfl
 ·obtain⟨x,B,a,b,G,sm,L,S,rfl,hx,ha,hb,rf,rs,so,q⟩:=h;have hu:=hr.units
  refine⟨_,(aF (aY (i:=3) gJ.nd rfl (Or.inl rfl) (aM O_checked_pairs (hr.mono (by decide)) pass0 rfl (aA (pv 1) (aA aJ (aA (gO T.c_MOST_FIXED rfl) aC)))))
   (aF (aY (i:=4) gJ.nd rfl (Or.inl rfl) (aM O_checked_pairs (hr.mono (by decide)) pass0 rfl (aA (pv 2) (aA aJ (aA (gO T.c_MOST_SUMS rfl) aC)))))
   (aF (cJ (aM O_check_names (hr.mono (by decide)) pass0 rfl (aA (bO bV (pv 3) (pv 4)) aC)))
   (aF (cJ (aM O_check_parts (hr.mono (by decide)) pass0 rfl (aA (pv 3) aC)))
   (aF (cJ (aM O_check_noughts (hr.mono (by decide)) pass0 rfl (aA (pv 4) (aA (iI rfl (bJ.by (N:=g7) (names:=(aD cB).names) (N':=["name","many"]) (src:=[none,none]) (by decide +kernel) rfl rfl) (dM K rfl (pv 3)) (fun _ _ _ _=>(cR K rfl (i:=0) (j:=1) rfl (show List.Nodup (["name","many"]:aW)by decide +kernel) rfl rfl rfl rfl)) (fun _ _ _ _=>(kE (aV (eJ hu) (pv 1) aJ (nomark _)))) (fun _ _ _ _=>(pv 0))) aC))))
   (aF (xO (pv 0) (pv 3) rfl)
   (aF (xO (pv 0) (pv 4) rfl)
   (aF (xO (pv 0) (cC (mZ rfl) rfl T.n_dict rfl (aA (pv 3) aC)) rfl)
   (aG (xO (pv 0) (cC (mZ rfl) rfl T.n_dict rfl (aA (pv 4) aC)) rfl)))))))))),?_⟩
  simp only[g7];clear hr F T hu O_checked_pairs O_check_names O_check_parts O_check_noughts;have keep:=aI q (aI hx (aI ha (aI hb (aI rf (aI rs (aI so co))))));clear q hx ha hb rf rs so co
  walk_at "rd"
  obtain⟨q,hx,ha,hb,rf,rs,so,co⟩:=keep;have lf:=rf.len;have ls:=rs.len;have f1:=so.f1;have f2:=so.f2;have s2':=so.s2;have ndf:=(List.nodup_append.mp so.nd).1;have nds':=(List.nodup_append.mp so.nd).2.1;refine⟨a,1,12,L,rfl,ha,rf.pairs,by omega,by omega,by omega,fun U H1 s1 hl1 h1=>?_⟩;refine⟨b,0,3,S,rfl,s1 _ _ hb,rs.pairs.same s1,by omega,by omega,by omega,fun l2 H2 s2 hl2 h2=>?_⟩;have nxl1:x≠U:=aE hx hl1;have nxl2:x≠l2:=aE (s1 _ _ hx) hl2;refine .inr ⟨.lst (L++S),rG (s2 _ _ h1) h2 (Nat.le_trans (m:=100) (by omega) (by decide)),fun l3 hl3=>?_⟩;have s3:=(s1.trans s2).trans (aH.upd (o:=.lst (L++S)) hl3);have h13:=(aH.upd (o:=.lst (L++S)) hl3) _ _ (s2 _ _ h1);have h23:=(aH.upd (o:=.lst (L++S)) hl3) _ _ h2;have h33:upd H2 l3 (.lst (L++S)) l3=some (.lst (L++S)):=upd_same;generalize upd H2 l3 (.lst (L++S))=H3 at s3 h13 h23 h33⊢;refine⟨l3,G.map (·.1)++sm.map (·.1),L++S,rfl,h33,i8.app (i8.same s3 rf.n) (i8.same s3 rs.n),so.nm,so.nd,by simp;omega,fun H4 s4=>?_⟩;refine⟨U,G,L,rfl,s4 _ _ h13,rf.same (bC.of (s3.trans s4)),so.parts,so.bare,by omega,fun H5 s5=>?_⟩;have h15:=s5 _ _ (s4 _ _ h13);have h25:=s5 _ _ (s4 _ _ h23);have sH5:=(s3.trans s4).trans s5;have rf5:=rf.same (bC.of sH5);have rs5:=rs.same (bC.of sH5);refine⟨U,rfl,L,.inl h15,fun J hJ=>?_⟩;refine dP hJ (R6 G H5) ⟨none,none,rfl,rfl,rfl⟩ (by rintro i acc σ H' _ ⟨_,_,_,rfl,_⟩;rfl) ?_ ?_
  ·rintro i y acc σ H6 hy ⟨o,o',rfl,rfl,rfl⟩;obtain⟨r,t,hn,rfl,ht⟩:=rf5.get hy;have hi:=(List.getElem?_eq_some_iff.mp hn).1;have hk:=BK (G.take i);rw[List.length_take]at hk;have e1:=iR (G.take i) r;rw[←aZ hn]at e1;refine⟨t,_,rfl,hZ.of ht,rfl,_,_,rfl,_,_,rfl,rfl,_,rfl,?_⟩;dsimp only[tC];rw[rEqD_ii];refine⟨_,rfl,?_⟩;by_cases z:r.2=0
   ·rw[if_pos (decide_eq_true z)];rw[if_pos z]at e1;exact⟨_,rfl,Nat.lt_of_le_of_lt (m:=100) (by rw[List.length_map];omega) (by decide),_,_,rfl,rfl,by rw[e1,List.map_append];rfl⟩
   ·rw[if_neg (by simpa using z)];rw[if_neg z,List.append_nil]at e1;exact⟨_,_,rfl,rfl,by rw[e1]⟩
  ·rintro acc σ H6 ⟨o,o',rfl,rfl,rfl⟩ l6 hl6;rw[lf,List.take_length];have s6:aH H6 (upd H6 l6 (.lst ((zeros G).map V.str))):=aH.upd hl6;have h66:upd H6 l6 (.lst ((zeros G).map V.str)) l6=some (.lst ((zeros G).map V.str)):=upd_same;generalize upd H6 l6 (.lst ((zeros G).map V.str))=H7 at s6 h66⊢;refine⟨l2,l6,sm,S,zeros G,rfl,s6 _ _ h25,rs5.same (bC.of s6),h66,so.nought,so.once,by omega,fun H8 s8=>?_⟩;have sH8:=(sH5.trans s6).trans s8;have h18:=s8 _ _ (s6 _ _ h15);have h28:=s8 _ _ (s6 _ _ h25);have hx8:=sH8 _ _ hx;have rf8:=rf.same (bC.of sH8);have rs8:=rs.same (bC.of sH8);refine⟨_,rfl,_,rfl,x,C,B,[],rfl,hx8,co.cls,co.n1,by decide,?_⟩;refine⟨_,rfl,_,rfl,x,C,B,_,rfl,upd_same,co.cls,co.n2,?_,?_⟩
   ·have:=gA ("fixed_rows" : Str) (.ref U) [];simp only[List.length_nil]at this;omega
   rw[upd_upd];have e9:∀(fs:List (Str×V)),aH (del H8 x) (upd H8 x (.ins C B fs)):=fun fs b o e=>by obtain⟨z1,z2⟩:=dZ e;rw[aB z2];exact z1
   have l2f:(putF ("sum_rows" : Str) (.ref l2) (putF ("fixed_rows" : Str) (.ref U) [])).length<=2:=by have:=gA ("sum_rows" : Str) (.ref l2) (putF ("fixed_rows" : Str) (.ref U) []);have:=gA ("fixed_rows" : Str) (.ref U) [];simp only[List.length_nil]at this;omega
   have k1:(putF ("sum_rows" : Str) (.ref l2) (putF ("fixed_rows" : Str) (.ref U) [])).lookup ("many" : Str)=none:=by rw[cD,if_neg (by decide),cD,if_neg (by decide)];rfl
   have k2:(putF ("sum_rows" : Str) (.ref l2) (putF ("fixed_rows" : Str) (.ref U) [])).lookup ("nought" : Str)=none:=by rw[cD,if_neg (by decide),cD,if_neg (by decide)];rfl
   generalize putF ("sum_rows" : Str) (.ref l2) (putF ("fixed_rows" : Str) (.ref U) [])=fs2 at l2f k1 k2⊢;have t9:bC H8 (upd H8 x (.ins C B fs2)):=fun c xs e=>by rw[aB (fun z=>by rw[z,hx8]at e;cases e)];exact e
   have h9x:upd H8 x (.ins C B fs2) x=some (.ins C B fs2):=upd_same;have b9:bT x H (upd H8 x (.ins C B fs2)):=fun c o nc e=>by rw[aB nc];exact sH8 _ _ e
   have h19:upd H8 x (.ins C B fs2) U=some (.lst L):=by rw[aB nxl1.symm];exact h18
   have h29:upd H8 x (.ins C B fs2) l2=some (.lst S):=by rw[aB nxl2.symm];exact h28
   have rf9:=rf8.same t9;have rs9:=rs8.same t9;generalize upd H8 x (.ins C B fs2)=H9 at t9 h9x b9 h19 h29 rf9 rs9⊢;refine⟨_,rfl,U,L,_,rfl,h19,rf9.prs,fun I hd3=>?_⟩;rw[JL ndf];have nx3:x≠I:=aE h9x hd3;refine⟨_,rfl,x,C,B,fs2,rfl,by rw[aB nx3];exact h9x,co.cls,co.n3,by omega,?_⟩;have l3f:=gA ("many_by_name" : Str) (.ref I) fs2;have k3:(putF ("many_by_name" : Str) (.ref I) fs2).lookup ("many" : Str)=none:=by rw[cD,if_neg (by decide)];exact k1
   have k4:(putF ("many_by_name" : Str) (.ref I) fs2).lookup ("nought" : Str)=none:=by rw[cD,if_neg (by decide)];exact k2
   have k5:(putF ("many_by_name" : Str) (.ref I) fs2).lookup ("many_by_name" : Str)=some (.ref I):=by rw[cD,if_pos rfl]
   generalize putF ("many_by_name" : Str) (.ref I) fs2=fs3 at l3f k3 k4 k5⊢;have s10:aH H9 (upd H9 I (.dK (G.map fun r=>(.inr r.1,.int r.2)))):=aH.upd hd3;have Z:upd (upd H9 I (.dK (G.map fun r=>(.inr r.1,.int r.2)))) x (.ins C B fs3) x=some (.ins C B fs3):=upd_same;have h11d:upd (upd H9 I (.dK (G.map fun r=>(.inr r.1,.int r.2)))) x (.ins C B fs3) I=some (.dK (G.map fun r=>(.inr r.1,.int r.2))):=by rw[aB nx3.symm];exact upd_same
   have b11:bT x H9 (upd (upd H9 I (.dK (G.map fun r=>(.inr r.1,.int r.2)))) x (.ins C B fs3)):=fun c o nc e=>by rw[aB nc];exact s10 _ _ e
   generalize upd (upd H9 I (.dK (G.map fun r=>(.inr r.1,.int r.2)))) x (.ins C B fs3)=H11 at Z h11d b11⊢;have t11:bC H9 H11:=fun c xs e=>b11 c _ (fun z=>by rw[z,h9x]at e;cases e) e;refine⟨_,rfl,l2,S,_,rfl,b11 _ _ nxl2.symm h29,(rs9.same t11).prs,fun d4 hd4=>?_⟩;rw[AF nds'];have nx4:x≠d4:=aE Z hd4;have n34:I≠d4:=aE h11d hd4;refine⟨_,rfl,x,C,B,fs3,rfl,by rw[aB nx4];exact Z,co.cls,co.n4,by omega,?_⟩;refine q _ (fun c o nc e=>?_) ⟨co.cls,co.n3,co.n4,B,_,I,d4,upd_same,by rw[cD,if_neg (by decide)];exact k3,by rw[cD,if_neg (by decide)];exact k4,by rw[cD,if_neg (by decide)];exact k5,by rw[cD,if_pos rfl],by rw[aB nx3.symm,aB n34];exact h11d,by rw[aB nx4.symm];exact upd_same⟩;rw[aB nc];exact(aH.upd hd4) _ _ (b11 c o nc (b9 c o nc e))
end
mutual
noncomputable def NF (sm:bM):D->Prop
 | .tup (.str n::ds)=>NFs sm ds/\∀z,zr sm n=some z->2<=ds.length/\ds.Pairwise leK/\∀e∈ds,opn1 n z e=[e]
 | _=>True
noncomputable def NFs (sm:bM):List D->Prop
 | []=>True
 | d::ds=>NF sm d/\NFs sm ds
end
theorem xZ {sm:bM}:∀{ds:List D},NFs sm ds->∀d∈ds,NF sm d
 | _::_,⟨a,b⟩,d,h=>by
  obtain rfl|h:=List.mem_cons.mp h
  ·exact a
  ·exact xZ b d h
theorem JI {sm:bM}:∀{ds:List D},(∀d∈ds,NF sm d)->NFs sm ds
 | [],_=>trivial
 | d::ds,h=>⟨h d List.mem_cons_self,JI fun e k=>h e (List.mem_cons_of_mem _ k)⟩
theorem L0 {sm:bM}{n z:Str}(hz:zr sm n=some z){d:D}(h:NF sm d):∀e∈opn1 n z d,NF sm e/\opn1 n z e=[e]:=by
 intro e B;have rest:∀d':D,(∀m j,d'≠.tup (.str m::j))->opn1 n z d'=if eqD d' (.str z)=true then []else [d']:=fun d' hd=>by
  unfold opn1;split
  ·rename_i m j;exact absurd rfl (hd m j)
  ·rfl
 by_cases c:∃m j,d = .tup (.str m::j)
 ·obtain⟨m,j,rfl⟩:=c;by_cases I:m=n
  ·subst I;have G:opn1 m z (.tup (.str m::j))=j:=by rw[opn1,if_pos rfl]
   rw[G]at B;unfold NF at h;exact⟨xZ h.1 e B,(h.2 z hz).2.2 e B⟩
  ·have G:opn1 n z (.tup (.str m::j))=[.tup (.str m::j)]:=by rw[opn1,if_neg I]
   rw[G]at B;cases List.mem_singleton.mp B;exact⟨h,G⟩
 ·have G:=rest d fun m j z=>c ⟨m,j,z⟩;by_cases q:eqD d (.str z)=true
  ·rw[G,if_pos q]at B;cases B
  ·rw[if_neg q]at G;rw[G]at B;cases List.mem_singleton.mp B;exact⟨h,G⟩
theorem O7 {sm:bM}{n z:Str}(hz:zr sm n=some z){ds:List D}(h:NFs sm ds):∀e∈opn n z ds,NF sm e/\opn1 n z e=[e]:=fun e j=>by obtain⟨d,B,q⟩:=List.mem_flatMap.mp j;exact L0 hz (xZ h d B) e q
theorem EF {sm:bM}{n:Str}{ps:List D}(f:Fls ps)(h:NFs sm ps):NF sm (knot sm n ps):=by
 unfold knot;cases hz:zr sm n with
 | none =>
  dsimp only;unfold NF;exact⟨h,fun z e=>by rw[hz]at e;cases e⟩
 | some z =>
  dsimp only;have G:=bR (opn n z ps);have so:=jJ (fG (sF (n:=n) (z:=z) f));have j:∀e∈cM (opn n z ps),NF sm e/\opn1 n z e=[e]:=fun e I=>O7 hz h e (G.mem_iff.mp I);generalize cM (opn n z ps)=l at so j
  match l,so,j with
  | [],_,_=>unfold one NF;trivial
  | [d],_,j=>exact(j d (List.mem_singleton.mpr rfl)).1
  | d::e::l,so,j =>
   show NF sm (.tup (.str n::d::e::l));unfold NF;refine⟨JI fun x B=>(j x B).1,fun L q=>?_⟩;rw[hz]at q;cases q;exact⟨by simp,so,fun x B=>(j x B).2⟩
mutual
theorem J4 {sm:bM}(hz:∀r∈sm,r.2=("" : Str)∨Fl (.str r.2)):∀{d:D},Tm d->NF sm (flt sm d)
 | .str x,_=>by
  have:flt sm (.str x) = .str x:=by unfold flt;rfl
  rw[this];unfold NF;trivial
 | .tup (.str n::ds),h=>by
  unfold Tm at h;rw[flt];exact EF (iJ hz h.2).1 (yO hz h.2)
 | .lst (.str n::ds),h=>by unfold Tm at h;rw[flt];exact EF (iJ hz h.2).1 (yO hz h.2)
theorem yO {sm:bM}(hz:∀r∈sm,r.2=("" : Str)∨Fl (.str r.2)):∀{ds:List D},Tms ds->NFs sm (flts sm ds)
 | [],_=>trivial
 | d::ds,⟨a,b⟩=>by rw[flts];exact⟨J4 hz a,yO hz b⟩
end
theorem pS {j:cL}{sm:bM}{os:aW}:∀{ds:List D},IsTms j sm os ds->∀d∈ds,bN j sm os d
 | _::_,⟨a,b⟩,d,h=>by
  obtain rfl|h:=List.mem_cons.mp h
  ·exact a
  ·exact pS b d h
theorem AT {j:cL}{sm:bM}{os:aW}:∀{ds:List D},(∀d∈ds,bN j sm os d)->IsTms j sm os ds
 | [],_=>trivial
 | d::ds,h=>⟨h d List.mem_cons_self,AT fun e k=>h e (List.mem_cons_of_mem _ k)⟩
theorem zU {n z:Str}:∀{j:List D},(∀e∈j,opn1 n z e=[e])->opn n z j=j
 | [],_=>rfl
 | e::j,h=>by rw[lD,h e List.mem_cons_self,zU fun x q=>h x (List.mem_cons_of_mem _ q)];rfl
mutual
theorem JJ {sm:bM}:∀{d:D},NF sm d->Fl d->flt sm d=d
 | .str x,_,_=>by unfold flt;rfl
 | .tup (.str n::q),h,f=>by
  unfold NF at h;unfold Fl at f;rw[flt,AB h.1 f];unfold knot;cases hz:zr sm n with
  | none=>rfl
  | some z =>
   dsimp only;obtain⟨B,so,I⟩:=h.2 z hz;have j:=fG f;rw[zU I,mS (fun x G=>j x ((bR _).mem_iff.mp G)) (bR q) (jJ j) so]
   match q,B with
   | _::_::_,_=>rfl
 | .non,_,f | .bl _,_,f | .int _,_,f | .tup [],_,f | .lst _,_,f | .tup (.non::_),_,f | .tup (.bl _::_),_,f | .tup (.int _::_),_,f | .tup (.tup _::_),_,f | .tup (.lst _::_),_,f=>by unfold Fl at f;exact absurd f id
theorem AB {sm:bM}:∀{ds:List D},NFs sm ds->Fls ds->flts sm ds=ds
 | [],_,_=>rfl
 | d::ds,⟨a,b⟩,⟨f,g⟩=>by rw[flts,JJ a f,AB b g]
end
theorem M9 {j:cL}{sm:bM}{os:aW}{d:D}(so:bW j sm)(ho:∀x∈os,cF x)(tm:bN j sm os d):flt sm (flt sm d)=flt sm d:=by have t:=(rQ so ho tm).1;exact JJ (J4 (fV so) t) (pV (fV so) t).1
theorem LY {q:cL}{sm:bM}{os:aW}{n z:Str}{d:D}(h:bN q sm os d):∀e∈opn1 n z d,bN q sm os e:=by
 intro e j;unfold opn1 at j;split at j
 ·rename_i m B;split at j
  ·unfold bN at h;exact pS h.2 e j
  ·cases List.mem_singleton.mp j;exact h
 ·split at j
  ·cases j
  ·cases List.mem_singleton.mp j;exact h
theorem QT {sm:bM}{n z:Str}(h:zr sm n=some z):∃r∈sm,r.1=n/\r.2=z:=by unfold zr at h;obtain⟨r,j,B⟩:=Option.map_eq_some_iff.mp h;have q:=List.find?_some j;exact⟨r,List.mem_of_find?_eq_some j,of_decide_eq_true q,B⟩
theorem ED {j:cL}{sm:bM}{os:aW}{n:Str}{ps:List D}(so:bW j sm)(f:Fls ps)(b:Nbs ps)(h:IsTms j sm os ps)(hd:DM j sm n ps.length):bN j sm os (knot sm n ps):=by
 unfold knot;cases hz:zr sm n with
 | none=>dsimp only;unfold bN;exact⟨hd,h⟩
 | some z =>
  dsimp only;obtain⟨r,N,S,L⟩:=QT hz;have G:=bR (opn n z ps);have B:∀e∈cM (opn n z ps),bN j sm os e:=fun e U=>by obtain⟨d,I,Z⟩:=List.mem_flatMap.mp (G.mem_iff.mp U);exact LY (pS h d I) e Z
  have ne:z=("" : Str)->cM (opn n z ps)≠[]:=fun e q=>by subst e;have I:=IS (n:=n) f b (fun e=>by rw[e]at hd;have:=pU hd;simp at this);rw[q]at G;exact I (List.Perm.eq_nil G.symm)
  generalize cM (opn n z ps)=l at B ne
  match l,B,ne with
  | [],_,ne =>
   show bN j sm os (.str z);unfold bN;refine .inr ?_;rw[←L];exact so.nought r N fun e=>ne (by rw[←L];exact e) rfl
  | [d],B,_=>exact B d (List.mem_singleton.mpr rfl)
  | d::e::l,B,_ =>
   show bN j sm os (.tup (.str n::d::e::l));unfold bN;exact⟨.inr ⟨by simp,by rw[←S];exact List.mem_map.mpr ⟨r,N,rfl⟩⟩,AT B⟩
mutual
theorem J1 {j:cL}{sm:bM}{os:aW}(so:bW j sm)(ho:∀x∈os,cF x):∀{d:D},bN j sm os d->bN j sm os (flt sm d)
 | .str x,h=>by
  have:flt sm (.str x) = .str x:=by unfold flt;rfl
  rw[this];exact h
 | .tup (.str n::ds),h=>by
  unfold bN at h;have t:=(rP so ho h.2).1;have g:=iJ (fV so) t;rw[flt];exact ED so g.1 g.2 (yN so ho h.2) (by rw[cS,List.length_map];exact h.1)
 | .lst (.str n::ds),h=>by
  unfold bN at h;have t:=(rP so ho h.2).1;have g:=iJ (fV so) t;rw[flt];exact ED so g.1 g.2 (yN so ho h.2) (by rw[cS,List.length_map];exact h.1)
 | .non,h | .bl _,h | .int _,h | .tup [],h | .lst [],h | .tup (.non::_),h | .tup (.bl _::_),h | .tup (.int _::_),h | .tup (.tup _::_),h | .tup (.lst _::_),h | .lst (.non::_),h | .lst (.bl _::_),h | .lst (.int _::_),h | .lst (.tup _::_),h | .lst (.lst _::_),h=>by unfold bN at h;exact absurd h id
theorem yN {j:cL}{sm:bM}{os:aW}(so:bW j sm)(ho:∀x∈os,cF x):∀{ds:List D},IsTms j sm os ds->IsTms j sm os (flts sm ds)
 | [],_=>trivial
 | d::ds,⟨a,b⟩=>by rw[flts];exact⟨J1 so ho a,yN so ho b⟩
end
end Lw
namespace L2
open PySem PySem.Spec PyProof.Rows
mutual
noncomputable def pdOf:D->PyData
 | .non=>.none
 | .bl b=>.bool b
 | .int i=>.int i
 | .str x=>.str x
 | .tup ds=>.tuple (pdsOf ds)
 | .lst ds=>.list (pdsOf ds)
noncomputable def pdsOf:List D->List PyData
 | []=>[]
 | d::ds=>pdOf d::pdsOf ds
end
mutual
noncomputable def Tx:D->Prop
 | .str _=>True
 | .tup ds=>Txs ds
 | .lst ds=>Txs ds
 | _=>False
noncomputable def Txs:List D->Prop
 | []=>True
 | d::ds=>Tx d/\Txs ds
end
mutual
theorem wS:∀{d:D},Tx d->(pdOf d).showable=true/\(pdOf d).hasDict=false/\(pdOf d).depth=depD d
 | .str _,_=>by unfold pdOf PyData.showable PyData.hasDict PyData.depth depD;exact⟨rfl,rfl,rfl⟩
 | .tup ds,h=>by
  unfold Tx at h;obtain⟨a,b,c⟩:=rM h;unfold pdOf PyData.showable PyData.hasDict PyData.depth depD;exact⟨a,b,by rw[c]⟩
 | .lst ds,h=>by
  unfold Tx at h;obtain⟨a,b,c⟩:=rM h;unfold pdOf PyData.showable PyData.hasDict PyData.depth depD;exact⟨a,b,by rw[c]⟩
 | .non,h | .bl _,h | .int _,h=>by unfold Tx at h;exact absurd h id
theorem rM:∀{ds:List D},Txs ds->PyData.showableAll (pdsOf ds)=true/\PyData.hasDictAll (pdsOf ds)=false/\PyData.depthAll (pdsOf ds)=depDs ds
 | [],_=>by unfold pdsOf PyData.showableAll PyData.hasDictAll PyData.depthAll depDs;exact⟨rfl,rfl,rfl⟩
 | d::ds,⟨x,y⟩=>by obtain⟨a,b,c⟩:=wS x;obtain⟨B,q,j⟩:=rM y;unfold pdsOf PyData.showableAll PyData.hasDictAll PyData.depthAll depDs;rw[a,B,b,q,c,j];exact⟨rfl,rfl,rfl⟩
end
section
variable {X:Cx}{pins:cW}{σ:St}{H:Hp}{s:Shared}
mutual
theorem zQ (I:aO X pins σ H s):∀{d:D} {v:V} {u:Value},Tx d->bD H d v->aT v u->∃as,Reads s.heap u (pdOf d) as
 | .str x,v,u,_,h,r=>by
  cases (show v = .str x from h);obtain⟨t,rfl⟩:=r;unfold pdOf;exact⟨_,.str x t⟩
 | .tup ds,v,u,t,h,r=>by
  unfold Tx at t;obtain⟨a,vs,rfl,B,q⟩:=h;cases r;obtain⟨its,j,⟨o,N,L,n,G⟩,_⟩:=I.tuple (hZ.of B);obtain⟨as,ra⟩:=lB I t q j;unfold pdOf;exact⟨_,.tuple N L G (by simpa using ra)⟩
 | .lst ds,v,u,t,h,r=>by
  unfold Tx at t;obtain⟨a,vs,rfl,B,q⟩:=h;cases r;obtain⟨its,j,pl,_⟩:=I.list (fA.of B);obtain⟨as,ra⟩:=lB I t q j;obtain⟨o,N,L,n,G⟩:=pl.isList;unfold pdOf;exact⟨_,.list N L G (by simpa using ra)⟩
 | .non,_,_,t,_,_ | .bl _,_,_,t,_,_ | .int _,_,_,t,_,_=>by unfold Tx at t;exact absurd t id
theorem lB (I:aO X pins σ H s):∀{ds:List D} {vs:List V} {us:bZ},Txs ds->Reps H ds vs->aR vs us->∃as,ReadsAll s.heap us (pdsOf ds) as
 | [],_,_,_,h,r=>by
  cases (show _=[]from h);cases r;unfold pdsOf;exact⟨_,.nil⟩
 | d::ds,_,_,⟨t1,j⟩,⟨x,vs,e,L,G⟩,r=>by
  subst e;cases r with
  | cons r1 B =>
   obtain⟨as,ra⟩:=zQ I t1 L r1;obtain⟨bs,q⟩:=lB I j G B;unfold pdsOf;exact⟨_,.cons ra q⟩
end
end
structure uH (P:Program)(w:World)(K:PySem.W.Frag)(mg:fM)(base:Heap)(CX:zB)(k:Nat)(f:Addr)(fd:FuncData)(ps:aW)(sp:Sp):Prop where
 len:∀vs H Q E,sp vs H Q E->vs.length=ps.length
 run:∀(A:Around) (outer:List Env) (s:Shared) (H:Hp) (args:Args) (us:bZ) (vs:List V) (Q:VK) (E:XK),A.guards=some []->eK k A->uS P w K mg base A outer s H->BindsTo s fd args (ps.zip us)->aR vs us->sp vs H Q E ->
  codeAny (model P w) A (.call (.ref f) args) (CR CX outer P w H s Q E) s
theorem gU.okG {P:Program}{w:World}{K:PySem.W.Frag}{mg:fM}{base:Heap}{x j:Str}{st:Stmt}{f:Addr}{fd:FuncData}{N ps:aW}{k:Nat}{sp:Sp}(F:gU K x j st f fd)(S:aS N ps (aD st))(len:∀vs H Q E,sp vs H Q E->vs.length=ps.length)
  (L:∀(B:Value) (A:Around) (outer:List Env) (s:Shared) (H:Hp) (vs:List V) (Q:VK) (E:XK),A.guards=some []->eK k (A.deeper (envOfC j (aD st) s.heap.objs.size f B))->sp vs H Q E ->
   ∃t,BJ (cxOf a0 P w K mg base N j (aD st) f B A outer s H E).nox (aN st) t/\t {nx:=fun _ H'=>Q .non H',rt:=Q} (start N vs) H):uH P w K mg base a0 (k+1) f fd ps sp:=by
 obtain⟨oc,od,kV,doc,pm,an,B,ct,osl,rfl,lk,hcd⟩:=F.ex;refine⟨len,fun A outer s H args us vs Q E hG hr e0 hb r Z=>?_⟩;have hl:=len _ _ _ _ Z;have KX:K.In s.heap:=e0.mod.kin.keeps fun b o e=>(e0.bs b o e).1;have lim:s.heap.NoLimit:=e0.mod.nolimit.keeps fun b o e=>(e0.bs b o e).1;have G:∀y∈ps.zip us,(aD st).names.lookup y.1=some .local∨((aD st).names.lookup y.1=some .cell/\((cellsFrom (s.heap.objs.size+1) (aD st).names []).lookup y.1).isSome=true):=fun⟨n,v⟩ hy=>by
  rcases S.par n (List.of_mem_zip hy).1 with q|q
  ·exact .inl q
  ·exact .inr ⟨q,PySem.W.cellsFrom_some _ _ _ (.inl q)⟩
 refine codeAny_call_function hr.depth (KX _ _ lk) rfl S.co S.gen rfl (PySem.W.codeRec_of KX hcd) (hb _ _ _ _ ?_);refine wpAny_newFunctionEnv_cells S.kind G fun env he s1 x=>?_;subst he;refine⟨lim.keeps x.toInCall.keep,codeAny_func ?_⟩;obtain⟨t,ht',hq⟩:=L B A outer s H vs Q E hG (hr.deeper _) Z;have ht:=ht'.nox;have I:aO (cxOf a0 P w K mg base N j (aD st) f B A outer s H E) [] (start N vs) H s1:=vW S hr.hd e0 hl r x;refine wpAny_mono (ht [] s1 (start N vs) H _ I hq) (fun fl s' U=>?_) fun e s' U=>U;have fin:∀{σ':St} {H':Hp} {v:V} {u:Value},aO (cxOf a0 P w K mg base N j (aD st) f B A outer s H E) [] σ' H' s'->aT v u->Q v H'->CE outer P w H s Q u s' :=
  fun {σ' H' v u} J rv q=>⟨v,H',J.os,J.bare,J.base,J.hok,rv,q⟩
 cases fl with
 | ret u =>
  obtain⟨v,σ',H',J,rv,q⟩:=U;exact fin J rv q
 | next =>
  obtain⟨σ',H',J,q⟩:=U;exact fin (v:=V.non) (u:=Value.none) J rfl q
 | brk =>
  obtain⟨_,_,_,q⟩:=U;exact False.elim q
 | cont =>
  obtain⟨_,_,_,q⟩:=U;exact False.elim q
end L2
namespace Lw
open PySem L2
noncomputable def NO (x:Str):Prop:=x.cps.size<=20/\(x.cps.toList.all fun c=>decide (c<16 ^ 8))=true
theorem sM {x:Str}(h:i0 x):NO x:=by refine⟨by have:=h.2.1;rw[Array.length_toList]at this;omega,List.all_eq_true.mpr fun c hc=>decide_eq_true ?_⟩;have:=(h.2.2 c hc).2;omega
theorem BM {x:Str}(h:cF x):NO x:=by
 obtain⟨l,rfl,B,q,j⟩:=h;refine⟨by simp;omega,List.all_eq_true.mpr fun c hc=>decide_eq_true ?_⟩;simp only[List.mem_cons]at hc;rcases hc with rfl|hc
 ·decide
 ·have:=j c hc;unfold isWd at this;omega
section
variable {fx:cL}{sm:bM}{os:aW}
theorem AW (so:bW fx sm){n:Str}{k:Nat}(h:DM fx sm n k):NO n:=by
 refine sM (so.nm n ?_);rcases h with⟨_,h⟩|⟨_,h⟩
 ·exact List.mem_append_left _ (List.mem_map.mpr ⟨_,h,rfl⟩)
 ·exact List.mem_append_right _ h
mutual
theorem wU (so:bW fx sm)(ho:∀x∈os,cF x):∀{d:D},bN fx sm os d->Tx d/\(pdOf d).leavesShort 13=true/\(pdOf d).weight+1<=30 * nds d
 | .str x,h=>by
  have j:NO x:=by
   unfold bN at h;rcases h with h|h
   ·exact BM (ho x h)
   ·exact sM (so.nm x (List.mem_append_left _ ((iP fx).subset h)))
  unfold Tx pdOf PyData.leavesShort PyData.weight;refine⟨trivial,j.2,?_⟩;have:=j.1;have:nds (.str x)=1:=by unfold nds;rfl
  omega
 | .tup (.str n::ds),h=>by
  unfold bN at h;obtain⟨a,b,c⟩:=rO so ho h.2;have j:=AW so h.1;have q:=j.1;refine⟨by unfold Tx Txs;exact⟨by unfold Tx;trivial,a⟩,?_,?_⟩
  ·unfold pdOf pdsOf PyData.leavesShort PyData.leavesShortAll;rw[b,Bool.and_true];unfold pdOf PyData.leavesShort;exact j.2
  ·unfold pdOf pdsOf PyData.weight PyData.weightAll;rw[nds,show(pdOf (.str n)).weight=n.cps.size by unfold pdOf PyData.weight;rfl];omega
 | .lst (.str n::ds),h=>by
  unfold bN at h;obtain⟨a,b,c⟩:=rO so ho h.2;have j:=AW so h.1;have q:=j.1;refine⟨by unfold Tx Txs;exact⟨by unfold Tx;trivial,a⟩,?_,?_⟩
  ·unfold pdOf pdsOf PyData.leavesShort PyData.leavesShortAll;rw[b,Bool.and_true];unfold pdOf PyData.leavesShort;exact j.2
  ·unfold pdOf pdsOf PyData.weight PyData.weightAll;rw[nds,show(pdOf (.str n)).weight=n.cps.size by unfold pdOf PyData.weight;rfl];omega
 | .non,h | .bl _,h | .int _,h | .tup [],h | .lst [],h | .tup (.non::_),h | .tup (.bl _::_),h | .tup (.int _::_),h | .tup (.tup _::_),h | .tup (.lst _::_),h | .lst (.non::_),h | .lst (.bl _::_),h | .lst (.int _::_),h | .lst (.tup _::_),h | .lst (.lst _::_),h=>by unfold bN at h;exact absurd h id
theorem rO (so:bW fx sm)(ho:∀x∈os,cF x):∀{ds:List D},IsTms fx sm os ds->Txs ds/\PyData.leavesShortAll 13 (pdsOf ds)=true/\PyData.weightAll (pdsOf ds)<=30 * ndss ds
 | [],_=>by unfold Txs pdsOf PyData.leavesShortAll PyData.weightAll ndss;exact⟨trivial,rfl,Nat.le_refl _⟩
 | d::ds,⟨x,y⟩=>by obtain⟨a,b,c⟩:=wU so ho x;obtain⟨q,j,B⟩:=rO so ho y;unfold Txs pdsOf PyData.leavesShortAll PyData.weightAll;refine⟨⟨a,q⟩,by rw[b,j];rfl,?_⟩;rw[ndss];omega
end
end
end Lw
namespace L2
open PySem PySem.Spec PyProof.Rows
theorem kF {α β:Type}{F:α->β->Prop}:∀{l:List α} {m:List β} {i:Nat} {x:α},Paired F l m->l[i]?=some x->∃y,m[i]?=some y/\F x y
 | _,_,_,_,.nil,h=>by simp at h
 | _,_,0,_,.cons r _,h=>by simp at h;subst h;exact⟨_,rfl,r⟩
 | _,_,i+1,_,.cons _ t,h=>by obtain⟨y,q,j⟩:=kF t (by simpa using h);exact⟨y,by simpa using q,j⟩
section
variable {P:Program}{w:World}{A:Around}{E:cE}{s:Shared}{it v d:Addr}{o:Obj}{es:Array DictEntry}{i ep:Nat}{ok ov:Value}
theorem C2 {Q:cE}(t:s.TypeIs (.ref d) "dict")(ns:(d == sysModules)=false)
  (q:∀h',h'.objs.size=s.heap.objs.size+1->(∀b j,s.heap.get? b=some j->h'.get? b=some j)->h'.IsItemsView s.heap.objs.size d->Q (.ref s.heap.objs.size) {s with heap:=h'}):wpAny (model P w) A (call (.builtin "dict.items") [.ref d]) Q E s:=by
 refine wpAny_call_entry F.slot_dict_items t F.entry_dict_items ?_ (F.args_dict_items_1 _);unfold Builtin.«dict.items» Builtin.Dict.noArgs;refine wpAny_bind (wpAny_bind (wpAny_notOrdered_dict t (show wpAny _ _ (pure d) _ _ _ from wpAny_pure ?_)));have no:Builtin.Dict.showsAll d=pure ():=if_neg (by rw[ns];decide);rw[no];exact wpAny_bind (wpAny_pure (wpAny_bind (wpAny_newObj_type (wpAny_pure ⟨_,rfl,q _ (Heap.size_push _ _) (fun b j e=>Heap.get?_push_of_some _ e) ⟨_,Heap.get?_push_size _ rfl,rfl,rfl⟩⟩))))
theorem C5 {Q:cE}(B:s.heap.IsItemsView v d)(ho:s.heap.get? d=some o)(hd:o.data = .dict es ep)
  (q:∀h',h'.objs.size=s.heap.objs.size+1->(∀b j,s.heap.get? b=some j->h'.get? b=some j)->IsItemIter h' s.heap.objs.size d 0 es.size ep .none .none->Q (.ref s.heap.objs.size) {s with heap:=h'}):wpAny (model P w) A (pyIter (.ref v)) Q E s:=by
 obtain⟨L,I,N,G⟩:=id B;refine wpAny_pyIter_slot B.typeIs F.slot_dict_items_iter (wpAny_call_entry F.slot_dict_items_iter B.typeIs F.entry_dict_items_iter (show wpAny _ _ (Builtin.«dict_items.__iter__» _) _ _ _ from ?_) (F.args_dict_items_iter_1 _));unfold Builtin.«dict_items.__iter__» Builtin.Dict_items.dictOf Builtin.Dict_items.newIterator;refine wpAny_bind (wpAny_pure (wpAny_bind (wpAny_bind (wpAny_field I G (x:=.ref d) rfl (wpAny_pure (wpAny_bind (wpAny_bind (wpAny_dictEntries ho hd (wpAny_bind (wpAny_dictEpoch ho hd ?_))))))))));have tp:Builtin.Dict_items.ownsTuple "dict_itemiterator" = true:=by decide
 simp only[tp,if_true,Bool.false_eq_true,if_false];refine wpAny_newObj_type (wpAny_pure ⟨_,rfl,"dict_itemiterator",_,⟨_,Heap.get?_push_size _ rfl,rfl⟩,F.slot_dict_itemiterator_next.lookup,q _ (Heap.size_push _ _) (fun b j e=>Heap.get?_push_of_some _ e) ?_⟩) ?_
 ·exact(Heap.get?_push_size _ (by rfl))
 ·simp only[sizeOk,Builtin.Dict_items.ownedTupleFields,List.size_toArray,List.length_append,List.length_cons,List.length_nil,sizeLine_eq];decide
theorem C4 {e:DictEntry}{Q:Option Value->Shared->Prop}(I:IsItemIter s.heap it d i es.size ep ok ov)(ho:s.heap.get? d=some o)(hd:o.data = .dict es ep)(he:es[i]?=some e)
  (q:∀h',IsItemIterOut h' it d (i+1) es.size ep e.key e.val s.heap.objs.size->h'.get? s.heap.objs.size=some {cls:=.type "tuple",data:=.seq #[e.key,e.val]}->h'.objs.size=s.heap.objs.size+1 ->
   (∀b j,b≠it->s.heap.get? b=some j->h'.get? b=some j)->Q (some (.ref s.heap.objs.size)) {s with heap:=h'}):wpAny (model P w) A (pyNext (.ref it)) Q E s:=by
 have t:s.TypeIs (.ref it) "dict_itemiterator":=⟨_,I,rfl⟩
 have S:it<s.heap.objs.size:=Heap.lt_size I;have tp:Builtin.Dict_items.ownsTuple "dict_itemiterator" = true:=by decide
 unfold pyNext;refine wpAny_bind (wpAny_attempt (wpAny_callSpecial?_slot (name:=Str.ofString "__next__") t F.slot_dict_itemiterator_next (wpAny_call_entry F.slot_dict_itemiterator_next t F.entry_dict_itemiterator_next ?_ (F.args_dict_itemiterator_next_1 _))));refine wpAny_bind (wpAny_pure (wpAny_bind (wpAny_bind (wpAny_bind (wpAny_typeNameOfWhole_itemiter t (wpAny_pure (wpAny_bind (wpAny_fieldsOf I rfl ?_))))))));simp only[tp,if_true];dsimp only[List.take,List.drop];rw[if_neg (show ¬(Value.ref d == Value.none)=true from fun z=>nomatch z)];refine wpAny_bind (wpAny_pure (wpAny_bind (wpAny_dictEntries ho hd ?_)));rw[if_neg (show ¬((es.size:Int) != (es.size:Int))=true by simp)];refine wpAny_bind (wpAny_pure (wpAny_bind (wpAny_dictEpoch ho hd ?_)));rw[if_neg (show ¬((ep:Int) != (ep:Int))=true by simp)];refine wpAny_pure ?_;dsimp only;rw[if_neg (show ¬(i:Int)<0 by omega),Int.toNat_natCast,he];dsimp only;refine wpAny_bind (wpAny_bind (wpAny_typeNameOfWhole_itemiter t (wpAny_pure (wpAny_bind (wpAny_isOneOf_itemiter t (wpAny_bind (wpAny_setField_rec I (show _<8 by rw[tp];decide) fun B e1 s1=>?_)))))));have s1':Heap.SameBut it s.heap B:=s1;have e1':IsItemIter B it d (i+1) es.size ep ok ov:=by unfold IsItemIter;rw[show((i+1:Nat):Int)=(i:Int)+1 from rfl];exact e1
 have t1:Shared.TypeIs {s with heap:=B} (.ref it) "dict_itemiterator":=⟨_,e1',rfl⟩
 refine wpAny_bind (wpAny_holding (wpAny_bind (wpAny_isOneOf_itemiter t1 (wpAny_bind (wpAny_isOneOf_itemiter t1 ?_)))));rw[if_neg (by decide)];unfold Builtin.Dict_items.pairFromOwner Builtin.Dict_items.ownedTupleIsFree;refine wpAny_bind (wpAny_newTuple (show wpAny _ _ _ _ _ {s with heap:=B.push {cls:=.type "tuple",data:=.seq #[e.key,e.val]} }from ?_));have N:B.objs.size=s.heap.objs.size:=s1'.1;rw[N];have L:IsItemIter (B.push {cls:=.type "tuple",data:=.seq #[e.key,e.val]}) it d (i+1) es.size ep ok ov:=Heap.get?_push_of_some _ e1';have g2:(B.push {cls:=.type "tuple",data:=.seq #[e.key,e.val]}).get? s.heap.objs.size=some {cls:=.type "tuple",data:=.seq #[e.key,e.val]}:=N ▸ Heap.get?_push_size _ rfl;have Z:(B.push {cls:=.type "tuple",data:=.seq #[e.key,e.val]}).objs.size=s.heap.objs.size+1:=by rw[Heap.size_push,N]
 have k2:∀b j,b≠it->s.heap.get? b=some j->(B.push {cls:=.type "tuple",data:=.seq #[e.key,e.val]}).get? b=some j:=fun b j G z=>Heap.get?_push_of_some _ (s1'.extBut b j G z);generalize B.push {cls:=.type "tuple",data:=.seq #[e.key,e.val]}=h2 at L g2 Z k2⊢;refine wpAny_bind (wpAny_bind (wpAny_field L rfl (x:=.none) rfl (wpAny_pure ?_)));dsimp only;rw[if_pos rfl];refine wpAny_bind (wpAny_field L rfl (x:=ok) rfl (wpAny_bind (wpAny_field L rfl (x:=ov) rfl (wpAny_bind (wpAny_setField_rec L (by simp) fun h3 e3 s3=>?_)))));refine wpAny_bind (wpAny_setField_rec e3 (by simp) fun h4 e4 s4=>wpAny_bind (wpAny_setField_rec e4 (by simp) fun h5 e5 s5=>wpAny_bind (wpAny_setField_rec e5 (by simp) fun U e6 s6=>?_)));have far:∀b j,b≠it->h2.get? b=some j->U.get? b=some j:=fun b j G z=>s6.extBut b j G (s5.extBut b j G (s4.extBut b j G (s3.extBut b j G z)));have z6:U.objs.size=s.heap.objs.size+1:=s6.1.trans (s5.1.trans (s4.1.trans (s3.1.trans Z)));exact wpAny_bind (wpAny_letGo (wpAny_pure (wpAny_pure ⟨_,rfl,wpAny_pure (q U e6 (far _ _ (Nat.ne_of_gt S) g2) z6 fun b j G z=>far b j G (k2 b j G z))⟩)))
theorem C3 {Q:Option Value->Shared->Prop}(I:A.handled=none)(j:IsItemIter s.heap it d i es.size ep ok ov)(ho:s.heap.get? d=some o)(hd:o.data = .dict es ep)(G:es.size<=i)
  (q:∀h',Heap.ExtBut it s.heap h'->Q none {s with heap:=h'}):wpAny (model P w) A (pyNext (.ref it)) Q E s:=by
 have t:s.TypeIs (.ref it) "dict_itemiterator":=⟨_,j,rfl⟩
 have tp:Builtin.Dict_items.ownsTuple "dict_itemiterator" = true:=by decide
 unfold pyNext;refine wpAny_bind (wpAny_attempt (wpAny_callSpecial?_slot (name:=Str.ofString "__next__") t F.slot_dict_itemiterator_next (wpAny_call_entry F.slot_dict_itemiterator_next t F.entry_dict_itemiterator_next ?_ (F.args_dict_itemiterator_next_1 _))));refine wpAny_bind (wpAny_pure (wpAny_bind (wpAny_bind (wpAny_bind (wpAny_typeNameOfWhole_itemiter t (wpAny_pure (wpAny_bind (wpAny_fieldsOf j rfl ?_))))))));simp only[tp,if_true];dsimp only[List.take,List.drop];rw[if_neg (show ¬(Value.ref d == Value.none)=true from fun z=>nomatch z)];refine wpAny_bind (wpAny_pure (wpAny_bind (wpAny_dictEntries ho hd ?_)));rw[if_neg (show ¬((es.size:Int) != (es.size:Int))=true by simp)];refine wpAny_bind (wpAny_pure (wpAny_bind (wpAny_dictEpoch ho hd ?_)));rw[if_neg (show ¬((ep:Int) != (ep:Int))=true by simp)];refine wpAny_pure ?_;dsimp only;rw[if_neg (show ¬(i:Int)<0 by omega),Int.toNat_natCast,Array.getElem?_eq_none G];dsimp only;refine wpAny_bind (wpAny_bind (wpAny_typeNameOfWhole_itemiter t (wpAny_pure (wpAny_bind (wpAny_setField_rec j (show _<8 by rw[tp];decide) fun L N B=>?_)))))
 wp_walk
 refine wpAny_raiseNew_none I (wpAny_bind (wpAny_isInstance (b:=true) ⟨_,Heap.get?_push_size _ rfl,rfl⟩ isSubtype_stop (wpAny_pure (q _ ?_))));exact(B.extBut.push _).push _
end
noncomputable def layKV (B j:Expr)(q:Value)(env:Env):Sem Unit:=eval B env >>= fun a=>holding [a] (eval j env) >>= fun b=>match q with
 | .ref d=>standAt {B.pos with endLine:=j.pos.endLine,endCol:=j.pos.endCol} >>= fun _=>holding [a,b] (dictSet d a b)
 | _=>unsupported "internal:dictcomp"
theorem E5 (L G I iter:Expr)(j:kU)(scope:Scope)(B:Pos)(it q:Value)(env:Env) :
  compTurn (.DictComp L G [⟨I,iter,j,0⟩] scope B) 0 it q env=mP iter.pos it I env (layOn j (layKV L G q env) env (.compLoop (.DictComp L G [⟨I,iter,j,0⟩] scope B) 0 it q env)):=rfl
section
variable {β:Type}{F:Heap->Addr->β->Prop}{e0:β}{mk:Sem Value}{ce:Expr}{cls:List Comprehension}
variable {X:Cx}{scope:Scope}{N':aW}{src:List (Option Nat)}{pins:cW}{σ:St}{H₂:Hp}{s₂:Shared}{fp:List Addr}{it:Addr}{tn:KN}{J:It}{tg iter:Expr}{ifs:kU}{g:TG}{tt:TT}{tl:β->St->Hp->(β->Hp->Prop)->Prop}
theorem A5 {W:KZ β}{Fin:β->Hp->Prop}{RR:Value->Addr->Result->Shared->Prop}{E:cE}{lay:Value->Env->Sem Unit}{obj:Addr->β->HO}{ps:Pos}(hF:KP F)(U:BG F e0 X.prog X.w X.A mk)(hk:K1 ce)(Z:clausesOf ce=⟨tg,iter,ifs,0⟩::cls)(hb:∀it j env,compTurn ce 0 it j env=mP ps it tg env (layOn ifs (lay j env) env (.compLoop ce 0 it j env)))
  (hok:∀H h D j,(D == sysModules)=false->H D=none->F h D j->Fin j H->bY X.prog X.w (upd H D (obj D j)) h D (obj D j))
  (S:bJ X scope N' src) (I2:aO X pins σ H₂ s₂) (T:∀C,wR (blk X scope N' C s₂ H₂ fp) tg J fp it tn) (G:tn 0 s₂.heap) (hf:∀b∈fp,fK X pins H₂ b)
  (hg:∀C,PG (blk X scope N' C s₂ H₂ fp) tg g) (ht:∀C,N7 (blk X scope N' C s₂ H₂ fp) ifs tt) (hl:∀C D j,KQ F (blk X scope N' C s₂ H₂ fp) D (lay (.ref D) (blk X scope N' C s₂ H₂ fp).env) (tl j) j)
  (w0:∃m,W 0 m e0 (stC src σ) H₂) (turn:uI J g tt tl Fin W)
  (hRR:∀D C L H' j,s₂.heap.objs.size<=C->H' C=none->D≠C->(∃m,L.heap.Ns C m)->aO X pins σ (upd H' D (obj D j)) L->H' D=none->Fin j H'->RR (.ref D) C (.ok .next) L) :
  wpAny (model X.prog X.w) X.A mk (fun j s₃=>wpAny (model X.prog X.w) X.A (newFunctionEnv scope X.env.globals (closL X.env.cells scope.names []) [] X.env.qual none .none (some X.env)) (fun q s₄ =>
   codeAny (model X.prog X.w) X.A (.compStart ce 0 (.ref it) j {q with scope:=relabel scope X.env}) (RR j q.locals) s₄) E s₃) E s₂:=by
 refine qP U hk Z S I2 T G hf fun D C t B=>?_;obtain⟨m,b⟩:=B.betw W w0;have nD:(D == sysModules)=false:=by have:=I2.big;rw[B.at_]at this;exact beq_eq_false_iff_ne.mpr (Nat.ne_of_gt this)
 refine sP hk (hb ..) (DP F (blk X scope N' C s₂ H₂ fp) [] D fp tn W) (fun n s b=>?_) m b;refine(wB (Y:=blk X scope N' C s₂ H₂ fp) hF (fun _ _ z=>z) (T C) B.place (hg C) turn (fun s σc H j I hD hp fin=>?_) n s b).mono (fun _ z=>z) ?_
 ·obtain⟨o1,o2,o3⟩:=B.out I2 hf I hD (hok _ _ _ _ nD hD hp fin);exact hRR D C s H j B.le o1 B.ne o2 o3 hD fin
 ·rintro t ⟨i,j,o,more,σ3,H3,N,I3,q3⟩;exact BI.go (AL (W:=W) (fun _ _ z=>z) B.place (T C) (ht C) (hl C D j) N I3 q3)
end
section
variable {β:Type}{J:It}{g:TG}{tt:TT}{te:TE}{tb:TS}{D:iN}{tl:β->St->Hp->(β->Hp->Prop)->Prop}{Fin:β->Hp->Prop}{σ:St}{H:Hp}{e0:β}
theorem EN {n:Nat}(Pv:Nat->St->Hp->Prop)(G:Pv 0 σ H)(B:∀i σ H,i<n->Pv i σ H->J.go i H/\∀x H',J.yld i H x H'->g x σ H' fun j I=>tb {D with nx:=Pv (i+1),ct:=Pv (i+1),bk:=D.nx} j I)
  (hd:∀σ H,Pv n σ H->J.stop n H/\D.nx σ H):q8 J g tb D σ H:=by
 refine⟨fun i m σ H=>m=n - i/\i<=n/\Pv i σ H,⟨n,by simp,Nat.zero_le _,G⟩,?_⟩;rintro i m σ H ⟨rfl,N,p⟩;by_cases lt:i<n
 ·obtain⟨go,step⟩:=B i σ H lt p;exact .inr ⟨go,Pv (i+1),fun L H' q=>⟨n - (i+1),by omega,rfl,lt,q⟩,step⟩
 ·obtain rfl:i=n:=by omega
  exact .inl (hd σ H p)
theorem HP {n:Nat}(Pv:Nat->β->St->Hp->Prop)(N:Pv 0 e0 σ H)
  (L:∀i j σ H,i<n->Pv i j σ H->J.go i H/\∀x H',J.yld i H x H'->g x σ H' fun B U=>tt B U fun b I=>if b=true then tl j B I fun a S=>Pv (i+1) a B S else Pv (i+1) j B I)
  (hd:∀j σ H,Pv n j σ H->J.stop n H/\Fin j H):∃W:KZ β,(∃m,W 0 m e0 σ H)/\uI J g tt tl Fin W:=by
 refine⟨fun i m j σ H=>m=n - i/\i<=n/\Pv i j σ H,⟨n,by simp,Nat.zero_le _,N⟩,?_⟩;rintro i m j σ H ⟨rfl,Z,p⟩;by_cases lt:i<n
 ·obtain⟨go,step⟩:=L i j σ H lt p;refine .inr ⟨go,fun x H' y=>?_⟩;have e:∀j σ H,(∃G,G<n - i/\G=n - (i+1)/\i+1<=n/\Pv (i+1) j σ H)=Pv (i+1) j σ H:=fun j σ H=>propext ⟨fun z=>z.choose_spec.2.2.2,fun q=>⟨n - (i+1),by omega,rfl,lt,q⟩⟩;simp only[e];exact step x H' y
 ·obtain rfl:i=n:=by omega
  exact .inl (hd j σ H p)
end
section
variable {β:Type}{F:Heap->Addr->β->Prop}{e0:β}{mk:Sem Value}{ce:Expr}{cls:List Comprehension}{ob:HO}
variable {X:Cx}{scope:Scope}{N':aW}{src:List (Option Nat)}{pins:cW}{σ:St}{H₂:Hp}{s₂:Shared}{fp:List Addr}{it:Addr}{tn:KN}{J:It}{tg iter:Expr}{ifs:kU}
variable {g:TG}{tt:TT}{tl:β->St->Hp->(β->Hp->Prop)->Prop}
end
noncomputable def wD (P:Program)(w:World)(a:Addr)(o:Obj)(j:List (bG×V)):HO:=.ext fun h=>h.get? a=some o/\bY P w (fun _=>none) h a (.dK j)
section
variable {P:Program}{w:World}{H:Hp}{h:Heap}{a:Addr}{o:Obj}{kvs:List (bG×V)}{es:Array DictEntry}{ep:Nat}
theorem QV (e:h.get? a=some o)(k:bY P w H h a (.dK kvs)){H':Hp}:bY P w H' h a (wD P w a o kvs) :=
 ⟨⟨e,k⟩,⟨o,e⟩,fun L I ⟨j,z,y,vs,r,q,B,G,g,rest⟩ k=>⟨k _ j,z,y,vs,r,q,B,G,k _ g,rest⟩⟩
theorem DR (ok:gR P w H h)(e:H a=some (wD P w a o kvs)):h.get? a=some o/\bY P w H h a (.dK kvs):=(ok a _ e).1
theorem yF {k:bG}{u:Value}(h:(bF P w).is k u=true):aT (kV k) u:=by
 rcases dH ((CO P w k u).symm.trans h)with⟨i,t,rfl,rfl⟩|⟨x,t,rfl,rfl⟩
 ·exact⟨t,rfl⟩
 ·exact⟨t,rfl⟩
theorem KC {vs:List (bG×Value)}(r:KV kvs vs)(p:Pairs (bF P w) es.toList vs):es.size=kvs.length/\∀(i:Nat) (k:bG) (v:V),kvs[i]?=some (k,v)->∃y:DictEntry,es[i]?=some y/\aT (kV k) y.key/\aT v y.val:=by
 have l:es.size=vs.length:=by rw[←p.length,Array.length_toList]
 refine⟨l.trans (Paired.length r).symm,fun i k v I=>?_⟩;obtain⟨⟨S,u⟩,j,G,B⟩:=kF r I;cases G;have q:i<es.size:=by rw[l];exact(List.getElem?_eq_some_iff.mp j).1
 obtain⟨N,L⟩:=p.get? (i:=i) (e:=es[i]) (by rw[Array.getElem?_toList];exact Array.getElem?_eq_getElem q) j;exact⟨es[i],Array.getElem?_eq_getElem q,yF N,by rw[L];exact B⟩
theorem NX (ok:gR P w H h)(e:H a=some (wD P w a o kvs))(hd:o.data = .dict es ep):h.get? a=some o/\es.size=kvs.length/\∀(i:Nat) (k:bG) (v:V),kvs[i]?=some (k,v)->∃y:DictEntry,es[i]?=some y/\aT (kV k) y.key/\aT v y.val:=by obtain⟨B,_,_,vs,r,N,I,L,q,_,j,_,G,_⟩:=DR ok e;rw[B]at q;cases q;rw[hd]at j;cases j;exact⟨B,KC r G⟩
end
section
variable {X:Cx}{pins:cW}{σ:St}{H:Hp}{s:Shared}{a:Addr}{kvs:List (bG×V)}
theorem aO.walkD (I:aO X pins σ H s)(e:H a=some (.dK kvs)):∃o q B,s.heap.get? a=some o/\o.data = .dict q B/\aO X pins σ (upd H a (wD X.prog X.w a o kvs)) s:=by
 obtain⟨z,y,vs,r,o,q,B,j,L,G,rest⟩:=(show bY X.prog X.w H s.heap a (.dK kvs)from I.hok a _ e)
 exact⟨o,q,B,j,G,oF (t':=s.toks) I (by rw[e];trivial) ⟨rfl,fun _ _=>rfl⟩ ⟨o,j⟩ (QV (H:=H) j ⟨z,y,vs,r,o,q,B,j,L,G,rest⟩)⟩
theorem aO.melt {o:Obj}(I:aO X pins σ H s)(e:H a=some (wD X.prog X.w a o kvs)):aO X pins σ (upd H a (.dK kvs)) s:=by obtain⟨g,k⟩:=DR I.hok e;exact oF (t':=s.toks) I (by rw[e];trivial) ⟨rfl,fun _ _=>rfl⟩ ⟨o,g⟩ k
end
noncomputable def KO (P:Program)(w:World)(H H':Hp):Prop:=H'=H∨∃a o j,H a=some (wD P w a o j)/\H'=upd H a (.dK j)
theorem aO.melts {X:Cx}{j:cW}{σ:St}{H H':Hp}{s:Shared}(I:aO X j σ H s)(m:KO X.prog X.w H H'):aO X j σ H' s:=by
 rcases m with rfl|⟨a,o,q,e,rfl⟩
 ·exact I
 ·exact I.melt e
noncomputable def tMelt (P:Program)(w:World)(t:TE):TE:=fun σ H Q=>t σ H fun v q=>∃j,KO P w q j/\Q v j
theorem D3 {X:Cx}{e:Expr}{t:TE}(h:PE X e t):PE X e (tMelt X.prog X.w t):=fun j s σ H Q I q =>
 thn (h j s σ H _ I q) fun _ _ ⟨v,H',G,r,L,m,B⟩=>⟨v,L,G.melts m,r,B⟩
noncomputable def sMelt (P:Program)(w:World)(t:TS):TS:=fun D σ H=>t {D with nx:=fun σ q=>∃j,KO P w q j/\D.nx σ j} σ H
theorem D1 {X:Cx}{st:Stmt}{t:TS}(h:PS X st t):PS X st (sMelt X.prog X.w t):=fun j s σ H D I q =>
 thn (h j s σ H _ I q) fun L U z=>by
  cases L with
  | next =>
   obtain⟨B,H',N,S,m,G⟩:=z;exact⟨B,S,N.melts m,G⟩
  | ret u=>exact z
  | brk=>exact z
  | cont=>exact z
noncomputable def RL (P:Program)(w:World)(a:Addr)(o:Obj)(j:List (bG×V)):It :=
 ⟨fun i H=>H a=some (wD P w a o j)/\i<j.length,fun i H x H'=>∃T k v,j[i]?=some (k,v)/\x = .ref T/\H T=none/\H'=upd H T (.tup [kV k,v]),fun i H=>H a=some (wD P w a o j)/\j.length<=i⟩
theorem zG {P:Program}{w:World}{K:PySem.W.Frag}{N:kU}{tk0}{L:Pos}(a it:Addr)(o:Obj)(es:Array DictEntry)(ep:Nat)(j:List (bG×V))(hd:o.data = .dict es ep) :
  m8 P w K (.Tuple N tk0 L) (RL P w a o j) [it] it (fun i h=>∃ok G,IsItemIter h it a i es.size ep ok G) where
 mem:=List.mem_singleton.mpr rfl
 obj:=fun i h ⟨ok,G,st⟩ b hb=>by rw[List.mem_singleton.mp hb];exact⟨_,st,fun v z=>nomatch z⟩
 keep:=fun i h h' ⟨ok,G,st⟩ k=>⟨ok,G,k it (List.mem_singleton.mpr rfl) _ st⟩
 item:=by
  intro X hP U hK hc i B s σ H E I S st ⟨ha,Z⟩;subst hP U hK;obtain⟨ok,G,st⟩:=st;obtain⟨e1,e2,e3⟩:=NX I.hok ha hd;obtain⟨y,hy,yk,yv⟩:=e3 i j[i].1 j[i].2 (List.getElem?_eq_getElem Z);obtain⟨f0,f1,f2,f3,f4,f5⟩:=S it (List.mem_singleton.mpr rfl);refine C4 st e1 hd hy fun h' a1 a2 a3 a4=>⟨_,rfl,wpAny_letOwnedTupleGo_items (s:={s with heap:=h'}) a1 fun h2 c1 c2=>?_⟩
  have lt:s.heap.objs.size≠it:=Nat.ne_of_gt (Heap.lt_size st);have I1:aO X B σ (upd H s.heap.objs.size (.tup [kV j[i].1,j[i].2])) {s with heap:=h2}:=I.turnedLaid (t':=s.toks) (ch:=[it]) (fun c ob hc z=>c2.extBut _ _ (fun q=>hc (List.mem_singleton.mpr q)) (a4 c ob (fun q=>hc (List.mem_singleton.mpr q)) z)) S (Nat.le_refl _)
   ⟨show 2<=sizeLine by decide,[_,_],.cons yk (.cons yv .nil),⟨_,c2.extBut _ _ lt a2,rfl,_,rfl⟩⟩
  refine⟨.ref s.heap.objs.size,_,I1,rfl,⟨s.heap.objs.size,j[i].1,j[i].2,List.getElem?_eq_getElem Z,rfl,I.hok.fresh (Nat.le_refl _),rfl⟩,⟨_,_,c1⟩,fun c hc=>?_⟩;rw[List.mem_singleton.mp hc,aB lt.symm];exact f0
 done:=by intro X hP U hK hc i B s σ H E I S st ⟨ha,Z⟩;subst hP U hK;obtain⟨ok,G,st⟩:=st;obtain⟨e1,e2,e3⟩:=NX I.hok ha hd;exact C3 (I.ok.hd hc) st e1 hd (by omega) fun h' hk=>⟨rfl,I.turnedL (t':=s.toks) (ch:=[it]) (fun c o hc z=>hk c o (fun q=>hc (List.mem_singleton.mpr q)) z) S⟩
 self:=fun A i s Q E ⟨ok,G,st⟩ h=>PySem.W.kcp_self st h
noncomputable def MZ (P:Program)(w:World)(B:TE):TI:=fun σ H R=>B σ H fun x q=>∃a j,x = .ref a/\q a=some (.dK j)/\∀o,R (RL P w a o j) (upd q a (wD P w a o j))
section
variable {X:Cx}{elts:kU}{tk0:_}{tpos apos cpos:Pos}{o:Expr}{to:TE}
theorem pE (ho:PE X o to)(B:attributeBase o "items" X.env (eval o X.env)=eval o X.env:=by rfl)(j:(apos.endLine == cpos.line)=true:=by rfl) :
  PI X (.Tuple elts tk0 tpos) (.Call (.Attribute o "items" apos) [] [] cpos) (MZ X.prog X.w to):=by
 intro G s σ H R I h;refine wpAny_Call_method (T:="dict") (id:="dict.items") B rfl j F.plainAttrs_dict F.slot_dict_items F.type_dict_items (thn (ho G s σ H _ I h) fun u N ⟨x,H1,I1,rx,a,L,ex,e,q⟩=>?_);subst ex;cases rx;obtain⟨t1,t2,t3⟩:=yJ I1 (.inl ⟨L,.inl e⟩);obtain⟨U,es,ep,e1,g3,S⟩:=I1.walkD e;refine⟨t1,t2,?_⟩;show wpAny _ _ (callWith cpos (.builtin "dict.items") [.ref a] [] []) _ _ N;refine Calls.callWith_builtin rfl (PySem.evalArgs_none (C2 t1 t3 fun h1 y1 Z iv=>?_));refine C5 (s:={N with heap:=h1}) iv (Z _ _ e1) g3 fun h' z1 k1 st=>?_;have le:N.heap.objs.size<=h1.objs.size:=by rw[y1];exact Nat.le_succ _
 refine⟨_,[_],_,_,_,rfl,S.kept (t':=N.toks) fun b u e=>k1 b u (Z b u e),zG a _ U es ep L g3,⟨_,_,st⟩,fun c hc=>?_,q U⟩;rw[List.mem_singleton.mp hc];exact S.fpOk le (S.hok.fresh le)
end
section
variable {β:Type}{g:TG}{tt:TT}{te:TE}{tb:TS}{D:iN}{tl:β->St->Hp->(β->Hp->Prop)->Prop}{Fin:β->Hp->Prop}{σ:St}{H:Hp}{e0:β}{P:Program}{w:World}{a:Addr}{o:Obj}{kvs:List (bG×V)}
theorem AX (Pv:Nat->St->Hp->Prop)(I:Pv 0 σ H)(j:∀i σ H,Pv i σ H->H a=some (wD P w a o kvs))
  (B:∀i k v T σ H,kvs[i]?=some (k,v)->Pv i σ H->H T=none->g (.ref T) σ (upd H T (.tup [kV k,v])) fun q L=>tb {D with nx:=Pv (i+1),ct:=Pv (i+1),bk:=D.nx} q L)
  (hd:∀σ H,Pv kvs.length σ H->D.nx σ H):q8 (RL P w a o kvs) g tb D σ H :=
 EN (n:=kvs.length) Pv I (fun i σ H lt p=>⟨⟨j i σ H p,lt⟩,fun x H' y=>by
  obtain⟨T,k,v,e,rfl,G,rfl⟩:=y
  exact B i k v T σ H e p G⟩) fun σ H p=>⟨⟨j _ σ H p,Nat.le_refl _⟩,hd σ H p⟩
theorem nG (Pv:Nat->β->St->Hp->Prop)(N:Pv 0 e0 σ H)(B:∀i j σ H,Pv i j σ H->H a=some (wD P w a o kvs))
  (I:∀i k v T j σ H,kvs[i]?=some (k,v)->Pv i j σ H->H T=none->g (.ref T) σ (upd H T (.tup [kV k,v])) fun q U=>tt q U fun b G=>if b=true then tl j q G fun a S=>Pv (i+1) a q S else Pv (i+1) j q G)
  (hd:∀j σ H,Pv kvs.length j σ H->Fin j H):∃W:KZ β,(∃m,W 0 m e0 σ H)/\uI (RL P w a o kvs) g tt tl Fin W :=
 HP (n:=kvs.length) Pv N (fun i j σ H lt p=>⟨⟨B i j σ H p,lt⟩,fun x H' y=>by
  obtain⟨T,k,v,e,rfl,L,rfl⟩:=y
  exact I i k v T j σ H e p L⟩) fun j σ H p=>⟨⟨B _ j σ H p,Nat.le_refl _⟩,hd j σ H p⟩
end
noncomputable def QQ (P:Program)(w:World)(h:Heap)(a:Addr)(j:List (bG×V)):Prop:=j.length<=sizeLine/\∃vs,KV j vs/\h.DictOf (bF P w) a vs
theorem GT {P:Program}{w:World}:KP (QQ P w):=by rintro h a I ⟨z,vs,r,o,j,B,e,x,d,q⟩;exact⟨o,e,fun v k=>(by rw[d]at k;cases k),fun h' G=>⟨z,vs,r,o,j,B,G,x,d,q⟩⟩
theorem CS {P:Program}{w:World}{A:Around}:BG (QQ P w) [] P w A newDict:=fun _ _ _ q=>wpAny_newObj_type (q _ rfl fun _ e=>⟨Nat.zero_le _,[],.nil,_,_,_,e,⟨rfl,rfl,rfl⟩,rfl,fun _ z=>absurd z (by simp),.nil,List.nodup_nil⟩)
noncomputable def tlDK (tk tv:TE)(j:List (bG×V)):St->Hp->(List (bG×V)->Hp->Prop)->Prop:=fun σ H N=>tk σ H fun y B=>tv σ B fun v q=>∃k,y=kV k/\j.length<sizeLine/\N (putK j k v) q
theorem GF {Y:Cx}{D:Addr}{L G:Expr}{tk tv:TE}{j:List (bG×V)}(S:∀e s,¬Y.xe e s)(hk:PE Y L tk)(hv:PE Y G tv):KQ (QQ Y.prog Y.w) Y D (layKV L G (.ref D) Y.env) (tlDK tk tv j) j:=by intro E pl o σ H t N I hm hf q;refine wpAny_bind (wpAny_mono (hk _ t σ H _ I q) (fun y t1 ⟨yv,H1,I1,r1,q1⟩=>?_) fun e t z=>(S e t z).elim);refine wpAny_bind (wpAny_holding (wpAny_mono (hv _ t1 σ H1 _ I1 q1) (fun v t2 ⟨Z,H2,U,r2,k,hy,sm,w⟩=>?_) fun e t z=>(S e t z).elim));subst hy;obtain⟨_,vs,r,dd⟩:=hf _ (U.pin (D,o) (List.mem_append_right _ hm)).1;have lx:vs.length=j.length:=(Paired.length r).symm;refine wpAny_bind (wpAny_standAt (wpAny_holding (wpAny_dictSet_pairs (A:=Y.A) (hsz:=by rw[lx];exact Nat.le_of_lt sm) (mK r1) dd fun h3 B s3=>?_)));exact⟨t2,h3,_,H2,_,rfl,U,s3,⟨by have:=jD j k Z;omega,_,r.put k r2,B⟩,w⟩
noncomputable def OU (src:List (Option Nat))(q:TI)(g:TG)(B:TT)(tk tv:TE):TE:=fun σ H Q=>q σ H fun J G=>∃W:KZ (List (bG×V)),(∃m,W 0 m [] (stC src σ) G)/\uI J g B (tlDK tk tv) (fun j H=>∀p,H p=none->Q (.ref p) (upd H p (.dK j))) W
theorem nZ {X:Cx}{scope:Scope}{N':aW}{src:List (Option Nat)}{L U G iter:Expr}{j:kU}{q:Pos}{g:TG}{tt:TT}{tk tv:TE}{Z:TI}(hc:X.calm=true)(S:bJ X scope N' src)(hi:PI X L iter Z)(hg:∀C s H fp,PG (blk X scope N' C s H fp) L g)(ht:∀C s H fp,N7 (blk X scope N' C s H fp) j tt)(hk:∀C s H fp,PE (blk X scope N' C s H fp) U tk)(hv:∀C s H fp,PE (blk X scope N' C s H fp) G tv)
  (hs:∀x,foldedSetIterable iter X.env x=pure x:=by intro _;rfl):PE X (.DictComp U G [⟨L,iter,j,0⟩] scope q) (OU src Z g tt tk tv):=by
 intro pins s σ H Q I h;change wpAny _ _ (comprehension (.DictComp U G [⟨L,iter,j,0⟩] scope q) scope X.env iter.pos newDict false (eval iter X.env)) _ _ s;refine pX rfl S hi hs I h fun N H₂ it fp tn J I2 T st f ⟨W,w0,turn⟩=>?_;exact A5 (lay:=layKV U G) (tl:=tlDK tk tv) (obj:=fun _ B=>.dK B) GT CS (.dct ..) rfl (E5 U G L iter j scope q) (fun _ _ _ _ nD _ f _=>⟨f.1,nD,f.2⟩) S I2 (fun C=>m8.y (Y:=blk X scope N' C N H₂ fp) T hc) st f (fun C=>hg C N H₂ fp) (fun C=>ht C N H₂ fp) (fun C D B=>GF (fun _ _ z=>z) (hk C N H₂ fp) (hv C N H₂ fp)) w0 turn fun D C s' H' B a1 a2 a3 a4 a5 a6 fin=>AZ I2 a1 a2 a3 a4 a5 (fin D a6)
end L2
namespace L2
open PySem
variable {X:Cx}
end L2
namespace L2
open PySem PySem.Spec PyProof.Rows
noncomputable def RW (P:Program)(w:World)(a:Addr)(o:Obj)(j:List (bG×V)):It :=
 ⟨fun i H=>H a=some (wD P w a o j)/\i<j.length,fun i H x H'=>∃k v,j[i]?=some (k,v)/\x=kV k/\H'=H,fun i H=>H a=some (wD P w a o j)/\j.length<=i⟩
theorem oR {P:Program}{w:World}{H:Hp}{h:Heap}{a:Addr}{o:Obj}{j:List (bG×V)}{G:Array DictEntry}{I:Nat}(ok:gR P w H h)(e:H a=some (wD P w a o j))(hd:o.data = .dict G I):∃vs,KV j vs/\h.DictAt (bF P w) a vs I:=by obtain⟨L,_,_,vs,r,Z,S,U,B,N,q,rest⟩:=DR ok e;rw[L]at B;cases B;rw[hd]at q;cases q;exact⟨vs,r,o,G,L,N,hd,rest⟩
theorem E7 {P:Program}{w:World}{K:PySem.W.Frag}{tg:Expr}(a it:Addr)(o:Obj)(es:Array DictEntry)(ep:Nat)(j:List (bG×V))(hd:o.data = .dict es ep) :
  m8 P w K tg (RW P w a o j) [it] it (fun i h=>h.IsKeyIter it a i j.length ep) where
 mem:=List.mem_singleton.mpr rfl
 obj:=fun i h st b G=>by rw[List.mem_singleton.mp G];obtain⟨o,e,c,d⟩:=st;exact⟨o,e,fun v z=>by rw[d]at z;cases z⟩
 keep:=fun i h h' st k=>st.at fun o e=>k it (List.mem_singleton.mpr rfl) o e
 item:=by intro X Z S hK hc i q s σ H E I N st ⟨U,L⟩;subst Z S hK;obtain⟨vs,r,da⟩:=oR I.hok U hd;obtain⟨⟨k,u⟩,hu,q1,q2⟩:=kF r (List.getElem?_eq_getElem L);cases (show j[i].1=k from q1);obtain⟨f0,f1,f2,f3,f4,f5⟩:=N it (List.mem_singleton.mpr rfl);have l:j.length=vs.length:=Paired.length r;rw[l]at st;refine wpAny_pyNext_dict_item st da hu fun key h' hk B sb=>?_;have I1:aO X q σ H {s with heap:=h'}:=I.turned (t':=s.toks) (fun b o G e=>(sb.2 b G).trans e) f0 f1 f3 f4 f5;obtain⟨o,e,c,d⟩:=id B;rw[←l]at B;exact⟨key,rfl,vZ (s:={s with heap:=h'}) e c d (by decide) ⟨_,H,I1,yF hk,⟨j[i].1,j[i].2,List.getElem?_eq_getElem L,rfl,rfl⟩,B,fun b G=>(N b G).1⟩⟩
 done:=by intro X Z S hK hc i q s σ H E I N st ⟨U,L⟩;subst Z S hK;obtain⟨vs,r,da⟩:=oR I.hok U hd;obtain⟨f0,f1,f2,f3,f4,f5⟩:=N it (List.mem_singleton.mpr rfl);have l:j.length=vs.length:=Paired.length r;rw[l]at st L;exact wpAny_pyNext_dict_end (I.ok.hd hc) st da (List.getElem?_eq_none L) fun h' eb=>⟨rfl,I.turned (t':=s.toks) (fun b o G e=>eb b o G e) f0 f1 f3 f4 f5⟩
 self:=fun _ _ _ _ _ st h=>wpAny_pyIter_keyiter st h
noncomputable def iKeys (P:Program)(w:World)(B:TE):TI:=fun σ H R=>B σ H fun x q=>∃a j,x = .ref a/\q a=some (.dK j)/\∀o,R (RW P w a o j) (upd q a (wD P w a o j))
theorem LP {X:Cx}{tg e:Expr}{L:TE}(he:PE X e L):PI X tg e (iKeys X.prog X.w L):=by intro B s σ H R I h;refine thn (he B s σ H _ I h) fun u s1 ⟨x,H1,Z,rx,a,j,ex,U,q⟩=>?_;subst ex;cases rx;obtain⟨_,_,t3⟩:=yJ Z (.inl ⟨j,.inl U⟩);obtain⟨N,es,ep,e1,S,G⟩:=Z.walkD U;obtain⟨vs,r,da⟩:=oR G.hok upd_same S;have l:j.length=vs.length:=Paired.length r;refine wpAny_pyIter_dict t3 da ?_;refine⟨_,[_],_,_,_,rfl,G.kept (t':=s1.toks) fun b u e=>Heap.get?_push_of_some _ e,E7 a _ N es ep j S,⟨_,Heap.get?_push_size _ rfl,rfl,by rw[l];rfl⟩,fun c hc=>?_,q N⟩;rw[List.mem_singleton.mp hc];exact G.fpOk (Nat.le_refl _) (G.hok.fresh (Nat.le_refl _))
section
variable {g:TG}{tb:TS}{D:iN}{σ:St}{H:Hp}{P:Program}{w:World}{a:Addr}{o:Obj}{kvs:List (bG×V)}
theorem GP (Pv:Nat->St->Hp->Prop)(G:Pv 0 σ H)(j:∀i σ H,Pv i σ H->H a=some (wD P w a o kvs))
  (B:∀i k v σ H,kvs[i]?=some (k,v)->Pv i σ H->g (kV k) σ H fun q I=>tb {D with nx:=Pv (i+1),ct:=Pv (i+1),bk:=D.nx} q I)
  (hd:∀σ H,Pv kvs.length σ H->D.nx σ H):q8 (RW P w a o kvs) g tb D σ H :=
 EN (n:=kvs.length) Pv G (fun i σ H lt p=>⟨⟨j i σ H p,lt⟩,fun x H' y=>by
  obtain⟨k,v,e,rfl,rfl⟩:=y
  exact B i k v σ _ e p⟩) fun σ H p=>⟨⟨j _ σ H p,Nat.le_refl _⟩,hd σ H p⟩
end
noncomputable def OR (P:Program)(w:World)(B ty:TE):TE:=fun σ H Q=>B σ H fun x G=>ty σ G fun y q=>∃a o j k v,x = .ref a/\q a=some (wD P w a o j)/\y=kV k/\valV j k=some v/\Q v q
theorem IM {X:Cx}{o i:Expr}{G:Pos}{L ty:TE}(ho:PE X o L)(hi:PE X i ty)(hs:QM i):PE X (.Subscript o i G) (OR X.prog X.w L ty):=by intro j s σ H Q I h;refine DV PySem.F.slot_dict_getitem.lookup hs (thn (ho j s σ H _ I h) fun u U ⟨x,H1,I1,rx,q1⟩=>thn (hi j U σ H1 _ I1 q1) fun iv s2 ⟨y,H2,S,Z,a,ob,kvs,k,v,ex,g,ey,l,q2⟩=>?_);subst ex ey;cases rx;obtain⟨_,_,_,vs,B,N⟩:=DR S.hok g;obtain⟨w',hw,q⟩:=kI.some_of (v:=v) (o:=valueAt vs k) (by rw[←l];exact B.val k);exact⟨N.typeIs,wpAny_getItem_of (mK Z) N.mapOf hw ⟨v,H2,S.tok _,q,q2⟩⟩
section
variable {X:Cx}
theorem uY {P:Program}{w:World}:∀{B:List (bG×V)} {vs:List (bG×Value)} {us:bZ},KV B vs->us.length=vs.length->(∀(j:Nat) (v:Value),us[j]?=some v->∃k x,vs[j]?=some (k,x)/\(bF P w).is k v=true)->aR (B.map fun p=>kV p.1) us
 | _,_,[],.nil,_,_=>.nil
 | _,_,_::_,.nil,h,_=>nomatch h
 | _,_,[],.cons _ _,h,_=>nomatch h
 | _::B,_::vs,u::us,.cons r G,h,q=>by obtain⟨k,x,e,i⟩:=q 0 u rfl;cases e;refine .cons ?_ (uY G (Nat.succ.inj h) fun j v e=>q (j+1) v e);show aT (kV _) u;rw[r.1];exact yF i
theorem DG (hc:X.calm=true):cT X (.type "list") (fun xs H Q=>∃p B,xs=[.ref p]/\H p=some (.dK B)/\∀l,H l=none->Q (.ref l) (upd H l (.lst (B.map fun p=>kV p.1)))):=by rintro S s σ H xs us Q I r ⟨p,B,rfl,hp,q⟩;obtain⟨u,rfl,U⟩:=r.one;cases U;obtain⟨z,Z,vs,L,dd⟩:=wC I.hok hp;obtain⟨ep,da⟩:=dd.dictAt;have l:B.length=vs.length:=Paired.length L;refine PySem.W.kdl_call (PySem.W.kdl_dict Z) (I.ok.hd hc) da (by rw[←l];exact z) fun h' tk N c hk hD G=>?_;have hv:aR (B.map fun p=>kV p.1) N.toList:=uY L (by rw[Array.length_toList];exact G.1) fun j v e=>G.2 j v (by rw[←Array.getElem?_toList];exact e);refine⟨.ref s.heap.objs.size,_,I.laid (o:=.lst (B.map fun p=>kV p.1)) (t':=tk) hk (Nat.le_refl _) ⟨by rw[List.length_map];exact z,N.toList,c,hv,?_⟩,rfl,q _ (I.hok.fresh (Nat.le_refl _))⟩;rw[Array.toArray_toList];exact hD
noncomputable def LL:V->List V->Hp->VK->Prop:=fun x vs H Q=>∃a j,x = .ref a/\vs=[]/\H a=some (.dK j)/\Q .non (upd H a (.dK []))
theorem vL:N8 X "dict.clear" LL:=by rintro B s σ H x vs v us Q I G L ⟨a,N,rfl,rfl,S,q⟩;cases G;have j:=L.zero;subst j;exact ND I S fun Z U=>⟨.non,_,U,rfl,q⟩
end
noncomputable def cP (H:Hp)(ds:List (bG×D))(j:List (bG×V)):Prop:=Paired (fun(d:bG×D) (v:bG×V)=>d.1=v.1/\bD H d.2 v.2) ds j
theorem cP.same {H H':Hp}{ds:List (bG×D)}{j:List (bG×V)}(h:cP H ds j)(s:aH H H'):cP H' ds j:=Paired.mapP h fun _ _ z=>⟨z.1,bD.same s z.2⟩
theorem AS {A:Around}{s:Shared}{j:List (bG×Value)}:∀{l m:List (bG×Value)},Paired (fun p q=>p.1=q.1/\SeqAt.EqAt A s p.2 q.2 true) l m->(∀q∈m,valueAt j q.1=some q.2)->PySem.W.KeqHits A s j l true
 | _,_,.nil,_=>.nil
 | (k,u)::l,q::m,.cons h t,B=>by have:=PySem.W.KeqHits.hit (A:=A) (s:=s) (kb:=j) (k:=k) (v:=u) ((congrArg (valueAt j) h.1).trans (B q List.mem_cons_self)) h.2 (AS t fun q G=>B q (List.mem_cons_of_mem _ G));exact this
theorem sW {P:Program}{w:World}{H:Hp}{s:Shared}{A:Around}(ok:gR P w H s.heap){n:Nat}(j:A.units+n<cLine):∀{ds:List (bG×D)} {ka kb:List (bG×V)} {va vb:List (bG×Value)},cP H ds ka->cP H ds kb->KV ka va->KV kb vb->(∀d∈ds,depD d.2<=n) ->
  Paired (fun p q=>p.1=q.1/\SeqAt.EqAt A s p.2 q.2 true) va vb
 | _,_,_,_,_,.nil,.nil,.nil,.nil,_=>.nil
 | _,_,_,_,_,.cons L t1,.cons I S,.cons G t3,.cons B N,hd=>by refine .cons ⟨G.1.symm.trans (L.1.symm.trans (I.1.trans B.1)),?_⟩ (sW ok j t1 S t3 N fun d h=>hd d (List.mem_cons_of_mem _ h));have:=eqAtD ok _ _ A _ _ _ _ L.2 I.2 G.2 B.2 (Nat.lt_of_le_of_lt (Nat.add_le_add_left (hd _ List.mem_cons_self) _) j);rw[hX]at this;exact this
section
variable {X:Cx}
noncomputable def rKK (b:Bool):R2:=fun x y H Q=>∃p q j kb ds,x = .ref p/\y = .ref q/\H p=some (.dK j)/\H q=some (.dK kb)/\cP H ds j/\cP H ds kb/\(∀d∈ds,depD d.2<=50)/\Q (.bl b) H
theorem N3 {G:cW}{s:Shared}{σ:St}{H:Hp}{p q:Addr}{N kb:List (bG×V)}{ds:List (bG×D)}(hu:X.A.units+64<cLine)(I:aO X G σ H s)(hp:H p=some (.dK N))(hq:H q=some (.dK kb))(ra:cP H ds N)(U:cP H ds kb)(hd:∀d∈ds,depD d.2<=50) :
  ∃B j,(p == sysModules)=false/\(q == sysModules)=false/\s.heap.DictOf (bF X.prog X.w) p B/\s.heap.DictOf (bF X.prog X.w) q j/\B.length=j.length/\PySem.W.KeqHits X.A.in1 s j B true:=by
 obtain⟨_,lp,B,kv,dp⟩:=wC I.hok hp;obtain⟨_,Z,j,kw,S⟩:=wC I.hok hq;obtain⟨_,_,_,_,_,_,_,_,nd⟩:=id S;have L:=sW (A:=X.A.in1) I.hok (n:=50) (by show X.A.units+1+50<cLine;omega) ra U kv kw hd;refine⟨B,j,lp,Z,dp,S,Paired.length L,AS L fun⟨k,u⟩ hm=>?_⟩;obtain⟨i,hi⟩:=List.getElem?_of_mem hm;exact valueAt_of_get nd hi
theorem D5 (Z:X.A.units+64<cLine):i5 X (compareOp .Eq) (rKK true):=by rintro B s σ H x y v u Q I L G ⟨p,q,ka,kb,ds,rfl,rfl,hp,hq,ra,N,hd,S⟩;cases L;cases G;obtain⟨va,vb,lp,U,dp,dq,l,j⟩:=N3 Z I hp hq ra N hd;refine PySem.W.keq_eq (knd:=bF X.prog X.w) (r:=true) lp U dp dq (by omega) (fun _=>j) ⟨.bl true,H,I,?_,S⟩;rw[l];simp;rfl
theorem rB (Z:X.A.units+64<cLine):i5 X (compareOp .NotEq) (rKK false):=by rintro B s σ H x y v u Q I L G ⟨p,q,ka,kb,ds,rfl,rfl,hp,hq,ra,N,hd,S⟩;cases L;cases G;obtain⟨va,vb,lp,U,dp,dq,l,j⟩:=N3 Z I hp hq ra N hd;refine PySem.W.keq_ne (knd:=bF X.prog X.w) (r:=true) lp U dp dq (by omega) (fun _=>j) ⟨.bl false,H,I,?_,S⟩;rw[l];simp;rfl
end
noncomputable def keyPd:bG->PyData
 | .inl i=>.int i
 | .inr x=>.str x
noncomputable def kvPd (ds:List (bG×D)):List (PyData×PyData):=ds.map fun p=>(keyPd p.1,pdOf p.2)
noncomputable def mT (ds:List (bG×D)):Str:=dictText (PyData.shownKv (kvPd ds))
noncomputable def Q7 (ds:List (bG×D)):Prop:=∀p∈ds,(∃x,p.1 = .inr x)/\Tx p.2/\depD p.2<=50
theorem zE:∀{ds:List (bG×D)},Q7 ds->(PyData.showableAll ((kvPd ds).map (·.1))=true/\PyData.hasDictAll ((kvPd ds).map (·.1))=false)/\PyData.showableAll ((kvPd ds).map (·.2))=true/\PyData.hasDictAll ((kvPd ds).map (·.2))=false
 | [],_=>⟨⟨rfl,rfl⟩,rfl,rfl⟩
 | (k,d)::ds,h=>by obtain⟨⟨a,b⟩,c,e⟩:=zE (ds:=ds) fun p q=>h p (List.mem_cons_of_mem _ q);obtain⟨⟨x,rfl⟩,t,_⟩:=h (k,d) List.mem_cons_self;obtain⟨t1,j,_⟩:=wS t;simp only[kvPd,List.map_cons,PyData.showableAll,PyData.hasDictAll,keyPd,PyData.showable,PyData.hasDict,t1,j];exact⟨⟨a,b⟩,c,e⟩
theorem tK:∀{ds:List (bG×D)},Q7 ds->PyData.depthKv (kvPd ds)<=51
 | [],_=>Nat.zero_le _
 | (k,d)::ds,h=>by
  have B:=tK (ds:=ds) fun p q=>h p (List.mem_cons_of_mem _ q);obtain⟨⟨x,rfl⟩,t,j⟩:=h (k,d) List.mem_cons_self;obtain⟨_,_,t3⟩:=wS t;have d50':depD d<=50:=j;have e:PyData.depthKv (kvPd ((Sum.inr x,d)::ds))=max (max (PyData.depth (.str x)) (pdOf d).depth) (PyData.depthKv (kvPd ds)):=by rw[show kvPd ((Sum.inr x,d)::ds)=(.str x,pdOf d)::kvPd ds from rfl,PyData.depthKv]
  rw[e,t3,PyData.depth];omega
section
variable {X:Cx}{pins:cW}{σ:St}{H:Hp}{s:Shared}
theorem vF (I:aO X pins σ H s):∀{ds:List (bG×D)} {kvs:List (bG×V)} {vs:List (bG×Value)} {es:List DictEntry},Q7 ds->cP H ds kvs->KV kvs vs->Pairs (bF X.prog X.w) es vs ->
  (∃as,ReadsAll s.heap (es.map (·.key)) ((kvPd ds).map (·.1)) as)/\∃bs,ReadsAll s.heap (es.map (·.val)) ((kvPd ds).map (·.2)) bs
 | _,_,_,_,_,.nil,.nil,.nil=>⟨⟨_,.nil⟩,_,.nil⟩
 | (k,d)::ds,_,_,_,h,.cons q t1,.cons j B,.cons a3 Z t3=>by
  obtain⟨⟨as,ra⟩,bs,L⟩:=vF I (ds:=ds) (fun p S=>h p (List.mem_cons_of_mem _ S)) t1 B t3;obtain⟨⟨x,rfl⟩,t,_⟩:=h (k,d) List.mem_cons_self;obtain⟨cs,G⟩:=zQ I t q.2 j.2;have e:Sum.inr x=_:=q.1.trans j.1;have N:=yF (k:=Sum.inr x) (by rw[e];exact a3);obtain⟨tk,U⟩:=(show ∃tk,_=Value.str x tk from N)
  simp only[kvPd,List.map_cons,keyPd,U,Z];exact⟨⟨_,.cons (.str x tk) ra⟩,_,.cons G L⟩
noncomputable def O1:List V->Hp->VK->Prop:=fun xs H Q=>∃a j ds,xs=[.ref a]/\H a=some (.dK j)/\cP H ds j/\Q7 ds/\(mT ds).length<=sizeLine/\Q (.str (mT ds)) H
theorem tQ (hg:X.A.guards=some [])(hu:X.A.units+64<cLine):cT X (.builtin "repr") O1:=by
 rintro pins s σ H xs us Q I r ⟨a,kvs,ds,rfl,ha,rep,G,hz,q⟩;obtain⟨u,rfl,ru⟩:=r.one;cases ru;obtain⟨z,lo,vs,L,o,es,ep,Z,U,h3,_,h5,_⟩:=wC I.hok ha;obtain⟨⟨as,ra⟩,bs,rb⟩:=vF I G rep L h5;obtain⟨⟨s1,d1⟩,s2,d2⟩:=zE G;have dep:=tK G;obtain⟨b1,m1,k1⟩:=ReprAllK.of_readsAll (prog:=X.prog) (w:=X.w) ra s1 (fun z=>by rw[d1]at z;cases z) fun t N=>let⟨p,hp,hl⟩:=PyData.shownKv_key_le _ t N;Nat.le_trans hl (Nat.le_trans (dictText_mem_le hp) hz);obtain⟨b2,m2,k2⟩:=ReprAllK.of_readsAll (prog:=X.prog) (w:=X.w) rb s2 (fun z=>by rw[d2]at z;cases z) fun t N=>let⟨p,hp,hl⟩:=PyData.shownKv_val_le _ t N;Nat.le_trans hl (Nat.le_trans (dictText_mem_le hp) hz);have B:=PyData.depthAll_keys_le (kvPd ds);have j:=PyData.depthAll_vals_le (kvPd ds);have na:a∉b1++b2:=not_mem_of_deeper (.dict Z U.1 h3 ra rb) (by simp only[PyData.depth];exact Nat.lt_succ_self _) ((m1.mono B).append (m2.mono j));refine call_repr_slot (by omega) ⟨o,Z,U.1⟩ F.slot_dict_repr (call_dict_reprK (h₀:=s.heap) Z U.1 h3 lo na (ReprEntriesK.of_two es.toList _ _ (k1.more_le (fun b S=>List.mem_append_left _ S) B) (k2.more_le (fun b S=>List.mem_append_right _ S) j)) hg (fun b _=>Clear.nil b) ?_ (fun b o e=>e) (fun h' u tk hk=>?_) ?_)
 ·show X.A.units+1+(_+1)<cLine;omega
 ·rw[←PyData.shownKv_eq];exact⟨_,_,rfl,.str (mT ds),H,I.kept (t':=tk) hk,⟨_,rfl⟩,q⟩
 ·rw[←PyData.shownKv_eq];exact hz
end
end L2
namespace Lw
open PySem L2
section
variable {P:Program}{w:World}{K:PySem.W.Frag}{mg:fM}{base:Heap}
section
variable {X:Cx}{body:List Stmt}{tb:TS}{hd:ExceptHandler}{pos:Pos}
theorem LM (B:∀pn Ew,BJ (X.tr pn Ew) body tb):PS X (.Try body [hd] [] [] pos) tb:=by
 intro j s σ H D I h;refine wpAny_Try_except ?_;have key:∀Ew,wpAny (model X.prog X.w) X.A (execs body X.env) (SP (X.tr (X.pn++j) Ew) [] D) Ew s:=fun Ew=>B _ Ew [] s σ H D (I.tr Ew) h;refine wpAny_mono (key _) (fun f L G=>?_) fun _ _ z=>z;have q:=SP.untr I.ok G;cases f with
 | next=>exact wpAny_execs_nil q
 | ret u=>exact q
 | brk=>exact q
 | cont=>exact q
end
theorem lF {c:Bool}{a b:Prop}(q:c=true->a)(j:c=false->b):(if c=true then a else b):=by
 cases c
 ·rw[if_neg Bool.false_ne_true];exact j rfl
 ·rw[if_pos rfl];exact q rfl
theorem HU {src:List (Option Nat)}{j:L2.TI}{g:TG}{q:TT}{B:TE}:tComp src j g q B=fun σ H Q=>j σ H fun J G=>oO J g q B Q (stC src σ) G:=rfl
theorem nI {j:L2.TI}{g:TG}{q:TS}:tFor j g q=fun D σ H=>j σ H fun J B=>q8 J g q D σ B:=rfl
noncomputable def kd (fs:List (Str×D)):List (bG×D):=fs.map fun p=>(Sum.inr p.1,p.2)
structure RY (fx:cL)(sm:bM)(os:aW)(fs:List (Str×D)):Prop where
 nd:(fs.map (·.1)).Nodup
 ok:∀p∈fs,cF p.1/\Q8 fx sm os p.2
 ln:fs.length<=20
theorem pR {H:Hp}{fs:List (Str×D)}{j:List (bG×V)}{i:Nat}{k:bG}{v:V}(h:cP H (kd fs) j)(e:j[i]?=some (k,v)):∃x d,fs[i]?=some (x,d)/\k=Sum.inr x/\bD H d v:=by unfold cP kd at h;have I:=Paired.length h;rw[List.length_map]at I;have L:=(List.getElem?_eq_some_iff.mp e).1;obtain⟨q,G,r1,B⟩:=kF h (List.getElem?_eq_getElem (l:=fs.map fun p=>((Sum.inr p.1:bG),p.2)) (i:=i) (by rw[List.length_map];omega));rw[e]at G;cases G;rw[List.getElem_map]at r1 B;exact⟨fs[i].1,fs[i].2,List.getElem?_eq_getElem (by omega),r1.symm,B⟩
theorem sX {H:Hp}{fs:List (Str×D)}{j:List (bG×V)}(h:cP H (kd fs) j):j.length=fs.length:=by have:=Paired.length h;unfold kd at this;rw[List.length_map]at this;omega
theorem cP.but {H H':Hp}{p:Addr}{ds:List (bG×D)}{j:List (bG×V)}(b:bT p H H')(n1:∀xs,H p≠some (.tup xs))(n2:∀xs,H p≠some (.lst xs))(h:cP H ds j):cP H' ds j:=Paired.mapP h fun _ _ z=>⟨z.1,bD.but b n1 n2 z.2⟩
theorem NE {H H':Hp}{a:Addr}(b:bT a H H'):aH (del H a) H':=fun c o e=>by obtain⟨q,j⟩:=dZ e;exact b c o j q
theorem uJ {x:Str}(h:cF x)(k:i0 x):False:=by obtain⟨l,rfl,_⟩:=h;have:=k.2.2 63 (by simp);omega
theorem JV {H:Hp}{a:Addr}{j:List (bG×V)}(h:H a=some (.dK j)):isV H (.ref a) (.ty "dict")=some true:=by
 have e:tyN H (.ref a)=some "dict":=by unfold tyN;dsimp only;rw[h]
 unfold isV;rw[e];rfl
noncomputable def BY (K:PySem.W.Frag)(C:Addr):Sp:=fun vs H Q _=>∃(g:Addr) (fx:cL) (sm:bM) (os:aW) (d:D) (v:V),vs=[.ref g,v]/\iK K C fx sm H g/\bD H d v/\Q8 fx sm os d/\∀H',aH H H'->Q (.bl true) H'
theorem MK {f C:Addr}{G:FuncData}(F:gU K "is_term" "is_term" gY f G)(T:Txt mg)(O_check_term:cK P w K mg base a0 3 "check_term" (xH K C)):cA P w K mg base a0 4 f G qA (BY K C):=by
 refine F.ok B6 (fun vs H Q E h=>?_) (fun L A outer s H vs Q E j h=>?_)
 ·obtain⟨g,B,sm,os,d,v,rfl,_⟩:=h;rfl
 ·obtain⟨g,B,sm,os,d,v,rfl,sg,rep,t,q⟩:=h;have N:=j.units
  refine⟨_,(aF (LM (fun pn Ew=>(aG (cJ (aM O_check_term (j.mono (by decide)) pass0 rfl (aA (pv 0) (aA (pv 1) aC)))))))
   (aG (aQ qH))),?_⟩
  have:=t.lv;have:=t.dp;exact⟨_,rfl,_,rfl,g,B,sm,os,d,v,rfl,sg,t.so,t.ho,rep,t.tm,by omega,by omega,t.nd,fun H' I=>q H' I⟩
noncomputable def rV (K:PySem.W.Frag)(C:Addr):Sp:=fun vs H Q _=>∃(g a:Addr) (fx:cL) (sm:bM) (os:aW) (fs:List (Str×D)) (kvs:List (bG×V)),vs=[.ref g,.ref a]/\iK K C fx sm (del H a) g/\H a=some (.dK kvs)/\cP H (kd fs) kvs/\RY fx sm os fs /\
 ∀H',aH H H'->Q .non H'
noncomputable def SW (P:Program)(w:World)(g a:Addr)(o:Obj)(j:List (bG×V))(H:Hp)(_:Nat)(σ:St)(H':Hp):Prop:=∃o2 q:Option V,σ=[some (.ref g),some (.ref a),o2,q]/\bT a H H'/\H' a=some (wD P w a o j)
theorem FV {f C:Addr}{fd:FuncData}(F:gU K "check_filling" "check_filling" cV f fd)(T:Txt mg)(O_is_wish:cK P w K mg base a0 1 "is_wish" w4)(O_is_term:cK P w K mg base a0 4 "is_term" (BY K C)):cA P w K mg base a0 5 f fd iD (rV K C):=by
 refine F.ok j7 (fun vs H Q E h=>?_) (fun cdv A outer s H vs Q E S h=>?_)
 ·obtain⟨g,a,fx,sm,os,fs,B,rfl,_⟩:=h;rfl
 ·obtain⟨g,a,fx,sm,os,fs,B,rfl,sg,I,rep,fil,q⟩:=h;have hu:=S.units
  refine⟨_,(aF (bK (dC (aX K rfl (aK aL rfl T.n_isinstance rfl (aA (pv 1) (aA (bU (v:=V.ty "dict") rfl T.n_dict rfl rfl) aC))) (fun _=>rfl))) (aG eN) aU)
   (aG (D1 (eI PassesOwn.never rfl (pE (pv 1)) (cR K rfl (i:=2) (j:=3) rfl j7.nd rfl rfl rfl rfl) (aF (bK (dC (aX K rfl (aM O_is_wish (S.mono (by decide)) pass0 rfl (aA (pv 2) aC)) (fun _=>rfl))) (aG eN) aU)
   (aG (bK (dC (aX K rfl (aM O_is_term (S.mono (by decide)) pass0 rfl (aA (pv 0) (aA (pv 3) aC))) (fun _=>rfl))) (aG eN) aU))))))),?_⟩
  clear S F T hu O_is_wish O_is_term;simp only[nI];refine⟨_,rfl,_,_,true,rfl,JV I,true,rfl,_,rfl,a,B,rfl,I,fun o=>?_⟩;have nt:∀xs,H a≠some (.tup xs):=fun xs z=>by rw[I]at z;cases z
  have nl:∀xs,H a≠some (.lst xs):=fun xs z=>by rw[I]at z;cases z
  refine AX (P:=P) (w:=w) (SW P w g a o B H) ⟨_,_,rfl,bT.upd _ _ _,upd_same⟩ (fun i σ H' ⟨_,_,_,_,e⟩=>e) ?_ ?_
  ·rintro i k v L σ N hk ⟨o2,o3,rfl,bt,Z⟩ hT;obtain⟨x,d,hf,rfl,rd⟩:=pR rep hk;obtain⟨wx,td⟩:=fil.ok _ (List.mem_of_getElem? hf);have U:aH N (upd N L (.tup [kV (Sum.inr x),v])):=aH.upd hT;have gT:upd N L (.tup [kV (Sum.inr x),v]) L=some (.tup [kV (Sum.inr x),v]):=upd_same;generalize upd N L (.tup [kV (Sum.inr x),v])=H2 at U gT⊢;refine⟨L,_,rfl,hZ.of gT,rfl,_,_,rfl,_,_,rfl,rfl,?_⟩;refine⟨_,rfl,x,rfl,.inl wx,fun H3 s3=>⟨fun _=>⟨true,rfl,?_⟩,fun no=>?_⟩⟩
   ·have G:bT a H H3:=bt.trans ((U.trans s3).but);refine⟨_,rfl,_,rfl,g,fx,sm,os,d,v,rfl,sg.same (NE G),bD.but G nt nl rd,td,fun H4 s4=>⟨true,rfl,?_⟩⟩;exact⟨_,_,rfl,G.trans s4.but,s4 _ _ (s3 _ _ (U _ _ Z))⟩
   ·exact(uJ wx no).elim
  ·rintro σ N ⟨o2,o3,rfl,bt,Z⟩;refine⟨_,.inr ⟨a,o,B,Z,rfl⟩,q _ fun b u e=>?_⟩;by_cases z:b=a
   ·subst z;rw[upd_same,←I];exact e
   ·rw[aB z];exact bt b u z e
end
section
variable {P:Program}{w:World}{K:PySem.W.Frag}{mg:fM}{base:Heap}
noncomputable def idle (fs:List (Str×D)):List (Str×D):=fs.filter fun p=>!eqD p.2 (.str p.1)
theorem putK_new {j:List (bG×V)}{k:bG}{v:V}(h:∀p∈j,p.1≠k):putK j k v=j++[(k,v)]:=by unfold putK;rw[if_neg];intro z;obtain⟨p,q,e⟩:=List.any_eq_true.mp z;exact h p q (of_decide_eq_true e)
theorem pN {H:Hp}{ds:List (bG×D)}{j:List (bG×V)}{k:bG}{d:D}{v:V}(h:cP H ds j)(r:bD H d v):cP H (ds++[(k,d)]) (j++[(k,v)]):=Paired.snoc h ⟨rfl,r⟩
theorem pO {H:Hp}{ds:List (bG×D)}{j:List (bG×V)}(h:cP H ds j):j.map (·.1)=ds.map (·.1):=by
 induction h with
 | nil=>rfl
 | cons a _ q=>rw[List.map_cons,List.map_cons,q,a.1]
theorem yE (a b:List (Str×D)):kd (a++b)=kd a++kd b:=List.map_append ..
theorem yC {H:Hp}{fs N:List (Str×D)}{B:List (bG×V)}{i:Nat}{x:Str}{d:D}(nd:(fs.map (·.1)).Nodup)(hf:fs[i]?=some (x,d))(hg:∀p∈N,∃q∈fs.take i,q.1=p.1)(r:cP H (kd N) B):∀p∈B,p.1≠Sum.inr x:=by
 intro p hp e;have m:p.1∈B.map (·.1):=List.mem_map_of_mem hp;rw[pO r,e]at m;obtain⟨q,hq,eq⟩:=List.mem_map.mp m;obtain⟨U,L,rfl⟩:=List.mem_map.mp hq;obtain⟨r',I,er⟩:=hg U L;obtain⟨j,G⟩:=List.getElem?_of_mem I;rw[List.getElem?_take]at G;split at G
 ·rename_i lt;have S:(fs.map (·.1))[j]?=some x:=by rw[List.getElem?_map,G];exact congrArg some (er.trans (Sum.inr.inj eq))
  have e2:(fs.map (·.1))[i]?=some x:=by rw[List.getElem?_map,hf];rfl
  have Z:=(List.getElem?_eq_some_iff.mp S).1;have:=(List.getElem?_inj Z nd).mp (S.trans e2.symm);omega
 ·cases G
noncomputable def B2:Sp:=fun vs H Q _=>∃(a:Addr) (fs:List (Str×D)) (kvs:List (bG×V)),vs=[.ref a]/\H a=some (.dK kvs)/\cP H (kd fs) kvs/\(fs.map (·.1)).Nodup/\(∀p∈fs,depD p.2<=50)/\fs.length<=20 /\
 ∀(l:Addr) (kvs':List (bG×V)) (H':Hp),aH H H'->H l=none->H' l=some (.dK kvs')->cP H' (kd (idle fs)) kvs'->Q (.ref l) H'
noncomputable def SL (P:Program)(w:World)(a:Addr)(o:Obj)(q:List (bG×V))(fs:List (Str×D))(H:Hp)(i:Nat)(j:List (bG×V))(σ:St)(H':Hp):Prop:=∃B o1:Option V,σ=[B,o1]/\bT a H H'/\H' a=some (wD P w a o q)/\cP H' (kd (idle (fs.take i))) j/\j.length<=i
theorem F0 {H q:Hp}{a:Addr}{j:List (bG×V)}(B:H a=some (.dK j))(bt:bT a H q):aH H (upd q a (.dK j)):=fun b u e=>by
 by_cases z:b=a
 ·subst z;rw[upd_same,←B];exact e
 ·rw[aB z];exact bt b u z e
theorem pT (fs:List (Str×D))(x:Str)(d:D):idle (fs++[(x,d)])=idle fs++(if eqD d (.str x)=true then []else [(x,d)]):=by
 unfold idle;rw[List.filter_append];congr 1;cases e:eqD d (.str x)with
 | true=>rw[if_pos rfl,List.filter_cons_of_neg (by simp[e]),List.filter_nil]
 | false=>rw[if_neg (by decide),List.filter_cons_of_pos (by simp[e]),List.filter_nil]
theorem AV {fs:List (Str×D)}:∀p∈idle fs,∃q∈fs,q.1=p.1:=fun p j=>⟨p,(List.mem_filter.mp j).1,rfl⟩
theorem MM {f:Addr}{fd:FuncData}(F:gU K "without_idle" "without_idle" cQ f fd)(T:Txt mg):cA P w K mg base a0 1 f fd iW B2:=by
 refine F.ok qV (fun vs H Q E h=>?_) (fun cdv A outer s H vs Q E hr h=>?_)
 ·obtain⟨a,fs,B,rfl,_⟩:=h;rfl
 ·obtain⟨a,fs,B,rfl,ha,rep,nd,dp,l20,q⟩:=h;have hu:=hr.units;refine⟨_,(aG (aQ (D3 (nZ rfl (bJ.by (N:=lP) (names:=(aD cQ).names) (N':=["wish","term"]) (src:=[none,none]) (by decide +kernel) rfl rfl) (pE (pv 0)) (fun _ _ _ _=>(cR K rfl (i:=0) (j:=1) rfl (show List.Nodup (["wish","term"]:aW)by decide +kernel) rfl rfl rfl rfl)) (fun _ _ _ _=>(kE (aV (fJ hu) (pv 1) (pv 0) (nomark _)))) (fun _ _ _ _=>(pv 0)) (fun _ _ _ _=>(pv 1)))))),?_⟩;clear hr F T hu;refine⟨_,rfl,a,B,rfl,ha,fun o=>?_⟩;have nt:∀xs,H a≠some (.tup xs):=fun xs z=>by rw[ha]at z;cases z
  have nl:∀xs,H a≠some (.lst xs):=fun xs z=>by rw[ha]at z;cases z
  have kl:=sX rep;refine nG (P:=P) (w:=w) (SL P w a o B fs H) ⟨_,_,rfl,bT.upd _ _ _,upd_same,.nil,Nat.zero_le _⟩ (fun i G σ H' ⟨_,_,_,_,e,_⟩=>e) ?_ ?_
  ·rintro i k v T0 G σ S hk ⟨o0,o1,rfl,bt,I,ra,la⟩ hT;obtain⟨x,d,hf,rfl,rd⟩:=pR rep hk;have il:=(List.getElem?_eq_some_iff.mp hf).1;have U:aH S (upd S T0 (.tup [kV (Sum.inr x),v])):=aH.upd hT;have gT:upd S T0 (.tup [kV (Sum.inr x),v]) T0=some (.tup [kV (Sum.inr x),v]):=upd_same;generalize upd S T0 (.tup [kV (Sum.inr x),v])=H2 at U gT⊢;refine⟨T0,_,rfl,hZ.of gT,rfl,_,_,rfl,_,_,rfl,rfl,?_⟩;have L:bT a H H2:=bt.trans U.but;have Z:=bD.but L nt nl rd;refine⟨_,rfl,_,rfl,d,.str x,Z,rfl,Nat.le_trans (dp _ (List.mem_of_getElem? hf)) (by decide),_,rfl,lF (fun k=>?_) fun k=>?_⟩
   ·have e:eqD d (.str x)=false:=by simpa using k
    have hs:=pT (fs.take i) x d;rw[←aZ hf,e,if_neg (by decide)]at hs;have new:=yC nd hf AV ra;refine⟨_,rfl,_,rfl,Sum.inr x,rfl,Nat.lt_of_le_of_lt (m:=20) (by omega) (by decide),_,_,rfl,L,U _ _ I,?_,?_⟩
    ·rw[putK_new new,hs,yE];exact pN (ra.same U) Z
    ·rw[putK_new new,List.length_append,List.length_singleton];omega
   ·have e:eqD d (.str x)=true:=by simpa using k
    have hs:=pT (fs.take i) x d;rw[←aZ hf,e,if_pos rfl,List.append_nil]at hs;exact⟨_,_,rfl,L,U _ _ I,by rw[hs];exact ra.same U,by omega⟩
  ·rintro G σ S ⟨o0,o1,rfl,bt,I,ra,la⟩ p hp;rw[kl,List.take_length]at ra;have np:a≠p:=aE I hp;refine⟨_,.inr ⟨a,o,B,by rw[aB np];exact I,rfl⟩,?_⟩;have s1:aH H (upd (upd S p (.dK G)) a (.dK B)):=F0 ha (bt.trans (bT.new hp));refine q p G _ s1 ?_ (by rw[aB np.symm];exact upd_same) ?_
   ·cases z:H p with
    | none=>rfl
    | some u =>
     by_cases e:p=a
     ·exact absurd e.symm np
     ·rw[bt p u e z]at hp;cases hp
   ·refine cP.but (p:=a) (H:=upd S p (.dK G)) (bT.upd _ _ _) (fun xs z=>?_) (fun xs z=>?_) (ra.same (aH.upd hp))
    ·rw[aB np,I]at z;cases z
    ·rw[aB np,I]at z;cases z
end
section
variable {P:Program}{w:World}{K:PySem.W.Frag}{mg:fM}{base:Heap}
noncomputable def flatF (sm:bM)(fs:List (Str×D)):List (Str×D):=fs.map fun p=>(p.1,flt sm p.2)
noncomputable def look (sm:bM)(fs:List (Str×D)):List (Str×D):=idle (flatF sm fs)
noncomputable def nN (K:PySem.W.Frag)(C Pt:Addr):Sp:=fun vs H Q _=>∃(g a:Addr) (fx:cL) (sm:bM) (os:aW) (fs:List (Str×D)) (kvs:List (bG×V)),vs=[.ref g,.ref a]/\iK K C fx sm (del H a) g/\H a=some (.dK kvs)/\cP H (kd fs) kvs/\RY fx sm os fs/\LT Pt H /\
 ∀(l:Addr) (kvs':List (bG×V)) (H':Hp),bT Pt H H'->LT Pt H'->H l=none->H' l=some (.dK kvs')->cP H' (kd (look sm fs)) kvs'->Q (.ref l) H'
noncomputable def KU (a b:Addr)(H H':Hp):Prop:=∀c o,c≠a->c≠b->H c=some o->H' c=some o
structure SE (P:Program)(w:World)(g a Pt:Addr)(o:Obj)(kvs:List (bG×V))(fs:List (Str×D))(sm:bM)(H:Hp)(i:Nat)(acc:List (bG×V))(σ:St)(H':Hp):Prop where
 st:∃o0 o1:Option V,σ=[o0,o1,some (.ref g)]
 bt:KU a Pt H H'
 wd:H' a=some (wD P w a o kvs)
 lt:LT Pt H'
 ra:cP H' (kd (flatF sm (fs.take i))) acc
 la:acc.length<=i
theorem LT.butD {Pt a:Addr}{H H':Hp}(h:LT Pt H)(b:bT a H H'){B:List (bG×V)}(e:H a=some (.dK B)):LT Pt H':=by
 rcases h with h|⟨S,q,j,L,I,G,N⟩
 ·exact .inl (b _ _ (fun z=>by rw[z,e]at h;cases h) h)
 ·exact .inr ⟨S,q,j,L,b _ _ (fun z=>by rw[z,e]at I;cases I) I,b _ _ (fun z=>by rw[z,e]at G;cases G) G,N⟩
theorem GK {a:Addr}{j:Obj}{vs:i4}(hd:j.data = .fields vs):∃h:Heap,h.get? a=some j:=by refine⟨⟨Array.replicate (a+1) j,{}⟩,?_⟩;obtain⟨c,d,B,q⟩:=j;cases hd;unfold Heap.get?;simp
theorem LT.butW {P:Program}{w:World}{Pt a:Addr}{o:Obj}{H H':Hp}(h:LT Pt H)(b:bT a H H'){G:List (bG×V)}(e:H a=some (wD P w a o G)):LT Pt H':=by
 rcases h with h|⟨c',B,q,U,L,j,I,h4⟩
 ·exact .inl (b _ _ (fun z=>by rw[z,e]at h;cases h) h)
 ·refine .inr ⟨c',B,q,U,b _ _ (fun z=>by rw[z,e]at L;cases L) L,b _ _ (fun z=>?_) j,I,h4⟩;rw[z,e]at j;injection j with j;unfold wD at j;injection j with j;obtain⟨Z,g⟩:=GK (a:=a) I;obtain⟨k1,_,_,_,_,ob,es,ep,S,_,N,_⟩:=(congrFun j Z).mpr g;rw[g]at S;cases S;rw[I]at N;cases N
theorem LT.krep {Pt:Addr}{H H':Hp}(h:LT Pt H)(b:bT Pt H H'){ds:List (bG×D)}{j:List (bG×V)}(r:cP H ds j):cP H' ds j:=Paired.mapP r fun _ _ z=>⟨z.1,h.rep b z.2⟩
theorem D0 {H H':Hp}{a b:Addr}(t:KU a b H H')(n1:∀xs,H a≠some (.tup xs)/\H a≠some (.lst xs))(n2:∀xs,H b≠some (.tup xs)/\H b≠some (.lst xs)){d:D}{v:V}(r:bD H d v):bD H' d v:=by have j:bD (del H a) d v:=bD.but (p:=a) (H:=H) (fun c o n e=>eZ e n) (fun xs=>(n1 xs).1) (fun xs=>(n1 xs).2) r;refine bD.but (p:=b) (H:=del H a) (fun c o n e=>?_) (fun xs z=>(n2 xs).1 (dZ z).1) (fun xs z=>(n2 xs).2 (dZ z).1) j;obtain⟨B,q⟩:=dZ e;exact t c o q n B
theorem tH (sm:bM)(fs:List (Str×D))(x:Str)(d:D):flatF sm (fs++[(x,d)])=flatF sm fs++[(x,flt sm d)]:=List.map_append ..
theorem v9 {sm:bM}{fs:List (Str×D)}:∀p∈flatF sm fs,∃q∈fs,q.1=p.1:=fun p B=>by obtain⟨q,j,rfl⟩:=List.mem_map.mp B;exact⟨q,j,rfl⟩
theorem tI (sm:bM)(fs:List (Str×D)):(flatF sm fs).map (·.1)=fs.map (·.1):=by unfold flatF;rw[List.map_map];rfl
theorem FU {f C Pt:Addr}{fd:FuncData}(F:gU K "looked_over" "looked_over" dD f fd)(T:Txt mg)(O_check_filling:cK P w K mg base a0 5 "check_filling" (rV K C))(O_put_in:cK P w K mg base a0 9 "put_in" (xA K C Pt))(O_without_idle:cK P w K mg base a0 1 "without_idle" B2):cA P w K mg base a0 10 f fd jP (nN K C Pt):=by
 refine F.ok rX (fun vs H Q E h=>?_) (fun cdv A outer s H vs Q E hr h=>?_)
 ·obtain⟨g,a,fx,sm,os,fs,G,rfl,_⟩:=h;rfl
 ·obtain⟨g,a,fx,sm,os,fs,G,rfl,sg,ha,rep,L,lt,q⟩:=h;have hu:=hr.units
  refine⟨_,(aF (cJ (aM O_check_filling (hr.mono (by decide)) pass0 rfl (aA (pv 0) (aA (pv 1) aC))))
   (aG (aQ (aM O_without_idle (hr.mono (by decide)) pass0 rfl (aA (D3 (nZ rfl (bJ.by (N:=mM) (names:=(aD dD).names) (N':=["wish","term","signs"]) (src:=[none,none,some 0]) (by decide +kernel) rfl rfl) (pE (pv 1)) (fun _ _ _ _=>(cR K rfl (i:=0) (j:=1) rfl (show List.Nodup (["wish","term","signs"]:aW)by decide +kernel) rfl rfl rfl rfl)) (fun _ _ _ _=>fB) (fun _ _ _ _=>(pv 0)) (fun _ _ _ _=>(aM O_put_in (hr.mono (by decide)) pass0 rfl (aA (pv 2) (@D4 _ _ _ _ (aA (pv 1) aC))))))) aC))))),?_⟩
  clear hr F T hu O_check_filling O_put_in O_without_idle;refine⟨_,rfl,_,rfl,g,a,fx,sm,os,fs,G,rfl,sg,ha,rep,L,fun H1 s1=>?_⟩;have sg1:=sg.same (j9 s1);have I:=s1 _ _ ha;have rep1:=rep.same s1;have lt1:=lt.same s1;refine⟨_,rfl,a,G,rfl,I,fun o=>?_⟩;have nt:∀xs,H1 a≠some (.tup xs)/\H1 a≠some (.lst xs):=fun xs=>⟨fun z=>(by rw[I]at z;cases z),fun z=>(by rw[I]at z;cases z)⟩
  obtain⟨ps,eP⟩:=lt1.tbl;have nP:∀xs,H1 Pt≠some (.tup xs)/\H1 Pt≠some (.lst xs):=fun xs=>⟨fun z=>(by rw[eP]at z;cases z),fun z=>(by rw[eP]at z;cases z)⟩
  have naP:a≠Pt:=lt1.ne I fun _=>by simp
  have kl:=sX rep;have l20:=L.ln;refine nG (P:=P) (w:=w) (SE P w g a Pt o G fs sm H1) ⟨⟨_,_,rfl⟩,fun c u n _ e=>by rw[aB n];exact e,upd_same,lt1.butD (bT.upd _ _ _) I,.nil,Nat.zero_le _⟩ (fun i B σ H' h=>h.wd) ?_ ?_
  ·rintro i k v T0 B σ S hk ⟨⟨o0,o1,rfl⟩,bt,h2,Z,ra,la⟩ hT;obtain⟨x,d,hf,rfl,rd⟩:=pR rep1 hk;have il:=(List.getElem?_eq_some_iff.mp hf).1;have td:Q8 fx sm os d:=(L.ok _ (List.mem_of_getElem? hf)).2;have sT:aH S (upd S T0 (.tup [kV (Sum.inr x),v])):=aH.upd hT;have gT:upd S T0 (.tup [kV (Sum.inr x),v]) T0=some (.tup [kV (Sum.inr x),v]):=upd_same;generalize upd S T0 (.tup [kV (Sum.inr x),v])=H3 at sT gT⊢;refine⟨T0,_,rfl,hZ.of gT,rfl,_,_,rfl,_,_,rfl,rfl,?_⟩;refine⟨_,rfl,_,rfl,fun e he=>?_⟩;have U:=sT.trans (aH.upd (o:=.dK []) he);have g4:upd H3 e (.dK []) e=some (.dK []):=upd_same;generalize upd H3 e (.dK [])=H4 at U g4⊢;have bt4:KU a Pt H1 H4:=fun c u n1 n2 z=>U _ _ (bt c u n1 n2 z);have rd4:bD H4 d v:=D0 bt4 nt nP rd;have sg4:iK K C fx sm H4 g:=by refine((lt1.butD (fun c u n z=>eZ z n) I).sg (H':=del H4 a) (fun c u n z=>?_) sg1).same (tN _ _);obtain⟨z1,z2⟩:=dZ z;exact eZ (bt4 c u z2 n z1) z2
   have tmO:=rQ td.so td.ho td.tm;have l50:lvs d<=50:=td.lv;refine⟨_,rfl,e,g,fx,sm,d,v,rfl,g4,sg4,rd4,tmO.1,fV td.so,by have:=tmO.2;omega,td.nd,td.dp,Z.same U,fun v' H5 b5 lt5 r5=>?_⟩;have new:=yC L.nd hf v9 ra;have hs:=tH sm (fs.take i) x d;rw[←aZ hf]at hs;refine⟨Sum.inr x,rfl,Nat.lt_of_le_of_lt (m:=20) (by omega) (by decide),⟨_,_,rfl⟩,fun c u n1 n2 z=>b5 c u n2 (bt4 c u n1 n2 z),b5 _ _ naP (U _ _ h2),lt5,?_,?_⟩
   ·rw[putK_new new,hs,yE];exact pN ((Z.same U).krep b5 (ra.same U)) r5
   ·rw[putK_new new,List.length_append,List.length_singleton];omega
  ·rintro B σ S ⟨⟨o0,o1,rfl⟩,bt,h2,Z,ra,la⟩ p hp;rw[kl,List.take_length]at ra;have np:a≠p:=aE h2 hp;refine⟨_,.inr ⟨a,o,G,by rw[aB np];exact h2,rfl⟩,?_⟩;have hpn:upd (upd S p (.dK B)) a (.dK G) p=some (.dK B):=by rw[aB np.symm];exact upd_same
   have b3:bT Pt H1 (upd (upd S p (.dK B)) a (.dK G)):=fun c u n z=>by
    by_cases e:c=a
    ·rw[e,upd_same,←I,←e];exact z
    ·rw[aB e];exact aH.upd hp _ _ (bt c u e n z)
   have lt3:LT Pt (upd (upd S p (.dK B)) a (.dK G)):=by have l2:=Z.same (aH.upd (o:=.dK B) hp);exact l2.butW (bT.upd _ _ _) (by rw[aB np];exact h2)
   have ra3:cP (upd (upd S p (.dK B)) a (.dK G)) (kd (flatF sm fs)) B:=by
    refine cP.but (p:=a) (H:=upd S p (.dK B)) (bT.upd _ _ _) (fun xs z=>?_) (fun xs z=>?_) (ra.same (aH.upd hp))
    ·rw[aB np,h2]at z;cases z
    ·rw[aB np,h2]at z;cases z
   generalize upd (upd S p (.dK B)) a (.dK G)=H3 at hpn b3 lt3 ra3⊢;refine⟨p,flatF sm fs,B,rfl,hpn,ra3,by rw[tI];exact L.nd,fun r hr=>?_,by unfold flatF;rw[List.length_map];exact l20,fun l kvs' H4 U hl gl r4=>?_⟩
   ·obtain⟨r',hr',rfl⟩:=List.mem_map.mp hr;have:=rF sm r'.2;have:=(L.ok r' hr').2.dp;show depD (flt sm r'.2)<=50;omega
   ·refine q l kvs' H4 (fun c u n z=>U _ _ (b3 c u n (s1 _ _ z))) (lt3.same U) ?_ gl r4;cases z:H l with
    | none=>rfl
    | some u =>
     by_cases e:l=Pt
     ·obtain⟨ps',e'⟩:=lt3.tbl;rw[e,e']at hl;cases hl
     ·rw[b3 l u e (s1 _ _ z)]at hl;cases hl
end
section
variable {P:Program}{w:World}{K:PySem.W.Frag}{mg:fM}{base:Heap}
noncomputable def nsm (sm:bM):bM:=sm.filter fun r=>decide (r.2≠("" : Str))
theorem JH (sm:bM)(r:Str×Str):nsm (sm++[r])=nsm sm++(if r.2=("" : Str)then []else [r]):=by
 unfold nsm;rw[List.filter_append];congr 1;by_cases e:r.2=("" : Str)
 ·rw[if_pos e,List.filter_cons_of_neg (by simp[e]),List.filter_nil]
 ·rw[if_neg e,List.filter_cons_of_pos (by simp[e]),List.filter_nil]
theorem E8 {x y:Str}(k:(!eqD (.str x) (.str y))=false):x=y:=by
 have e:eqD (.str x) (.str y)=decide (x=y):=by show(x == y)=_;rw[Bool.eq_iff_iff];simp
 rw[e]at k
 simpa using k
theorem MS {ds:List D}(k:eqD (.lst ds) (.lst [])=false):ds≠[]:=fun z=>by rw[z,hX]at k;cases k
noncomputable def BU:Sp:=fun vs H Q _=>∃(p t o:Addr) (fx:cL) (sm:bM) (os:aW) (x:Str),vs=[.ref p,.ref t,.str x]/\m9 p t o fx sm os H/\x∈os /\
 ∀(d:D) (v:V) (H':Hp),bT p H H'->bE H' p->bD (nw H H') d v->bN fx sm os d->lvs d<=7->depD d<=8->Q v H'
noncomputable def SB (sm:bM)(H:Hp)(i:Nat)(j:List V)(σ:St)(q:Hp):Prop:=∃B o1:Option V,σ=[B,o1]/\aH H q/\d9 q (nsm (sm.take i)) j/\j.length<=i
theorem vD {H:Hp}:∀{j:bM} {hv:List V},d9 H j hv->Reps H (j.map fun r=>D.tup [.str r.1,.str r.2]) hv
 | [],_,e=>e
 | r::_,_,⟨t,us,e,h,q⟩=>⟨.ref t,us,e,⟨t,_,rfl,h,_,_,rfl,rfl,_,_,rfl,rfl,rfl⟩,vD q⟩
theorem A2:∀j:bM,depDs (j.map fun r=>D.tup [.str r.1,.str r.2])<=1
 | []=>Nat.zero_le _
 | r::j=>by have q:=A2 j;rw[List.map_cons,depDs];show max 1 _<=1;omega
theorem zX {p:Addr}{H H':Hp}(b:bT p H H')(j:H p≠none->H' p≠none){a:Addr}(e:H' a=none):H a=none:=by
 cases z:H a with
 | none=>rfl
 | some u =>
  by_cases n:a=p
  ·exact absurd (n ▸ e) (j (n ▸ z ▸ by simp))
  ·rw[b a u n z]at e;cases e
theorem MF {f:Addr}{fd:FuncData}(F:gU K "_law_own" "_law_own" eW f fd)(T:Txt mg)(O__law_take:cK P w K mg base a0 1 "_law_take" fP):cA P w K mg base a0 2 f fd nF BU:=by
 refine F.ok jA (fun vs H Q E h=>?_) (fun cdv A outer s H vs Q E L h=>?_)
 ·obtain⟨p,t,o,fx,sm,os,x,rfl,_⟩:=h;rfl
 ·obtain⟨p,t,o,fx,sm,os,x,rfl,hin,hx,q⟩:=h;have hu:=L.units
  refine⟨_,(aF (iH (i:=3) jA.nd rfl rfl rfl rfl (bJ.by (N:=uD) (names:=(aD eW).names) (N':=["_law_name","_law_nought"]) (src:=[none,none]) (by decide +kernel) rfl rfl) (dM K rfl (bP dN (pv 1) aJ (fun _ _=>rfl))) (fun _ _ _ _=>(cR K rfl (i:=0) (j:=1) rfl (show List.Nodup (["_law_name","_law_nought"]:aW)by decide +kernel) rfl rfl rfl rfl)) (fun _ _ _ _=>(kE (aV (fJ hu) (pv 1) gM (nomark _)))) (fun _ _ _ _=>(fI (aA (pv 0) (aA (pv 1) aC)))))
   (aF (aY (i:=4) jA.nd rfl (Or.inl rfl) (aM O__law_take (L.mono (by decide)) pass0 rfl (aA (pv 0) (aA aJ aC))))
   (aF (bK (PW.pt (iU (aV (eJ hu) (pv 3) (cI aC) (nomark _)) (h8 (aV (eJ hu) (pv 4) aJ (nomark _))))) (aG (aQ (pv 2))) aU)
   (aF (sA (bP dN (pv 3) (aM O__law_take (L.mono (by decide)) pass0 rfl (aA (pv 0) (aA (aK bH rfl T.n_len rfl (aA (pv 3) aC)) aC))) (fun _ _=>rfl)) (cR K rfl (i:=5) (j:=6) rfl jA.nd rfl rfl rfl rfl))
   (aF (bK (aV (eJ hu) (pv 4) aJ (nomark _)) (aG (aQ (fI (aA (pv 5) (aA (pv 6) (aA (pv 2) aC)))))) aU)
   (aG (aQ (cI (aA (pv 5) (aA (pv 2) (aA (cI (aA (pv 5) (aA (pv 6) (aA (pv 6) aC)))) aC))))))))))),?_⟩
  clear L F T hu O__law_take;obtain⟨hp,⟨a,b,fv,sv,ht,ha,hb,rf,rs,nap,nbp⟩,ol,so,o1,o2⟩:=hin;have s3:=so.s2;simp only[HU];refine⟨_,rfl,.ref b,by rw[ixV_t ht];rfl,b,sv,rfl,.inl hb,fun J hJ=>?_⟩;refine dP hJ (SB sm H) ⟨_,_,rfl,aH.refl _,rfl,Nat.zero_le _⟩ (fun i B σ H' _ ⟨_,_,_,s',_⟩=>by rw[hb];exact s' _ _ hb) ?_ ?_
  ·rintro i v B σ H1 hv ⟨o0,o1',rfl,s1,ra,la⟩;obtain⟨r,tr,L,rfl,htr⟩:=d9.get rs hv;have htr1:=s1 _ _ htr;have il:=(List.getElem?_eq_some_iff.mp L).1;have hs:=JH (sm.take i) r;rw[←aZ L]at hs;refine⟨tr,_,rfl,hZ.of htr1,rfl,_,_,rfl,_,_,rfl,rfl,?_⟩;refine⟨_,rfl,.str r.2,.str "",rfl,rfl,Nat.zero_le _,_,rfl,lF (fun k=>?_) fun k=>?_⟩
   ·have e:¬r.2=("" : Str):=fun z=>by rw[z]at k;exact absurd k (by decide +kernel)
    rw[if_neg e]at hs;refine⟨_,rfl,_,rfl,show 2<=sizeLine by decide,fun n hn=>⟨Nat.lt_of_le_of_lt (m:=3) (by omega) (by decide),_,_,rfl,s1.trans (aH.upd hn),?_,by rw[List.length_append,List.length_singleton];omega⟩⟩;rw[hs];exact d9.snoc upd_same (ra.same (bC.of (aH.upd hn)))
   ·have e:r.2=("" : Str):=E8 k;rw[if_pos e,List.append_nil]at hs;exact⟨_,_,rfl,s1,by rw[hs];exact ra,by omega⟩
  ·rintro B σ H1 ⟨o0,o1',rfl,s1,ra,la⟩ l hl;have lsv:=d9.len rs;rw[lsv,List.take_length]at ra;have s2:aH H (upd H1 l (.lst B)):=s1.trans (aH.upd hl);have l2:upd H1 l (.lst B) l=some (.lst B):=upd_same;have r2:=ra.same (bC.of (aH.upd (o:=.lst B) hl));have hlH:H l=none:=s1.free hl;have la3:B.length<=3:=by omega
   generalize upd H1 l (.lst B)=H2 at s2 l2 r2⊢;clear ra la s1 hl;have hp2:bE H2 p:=by obtain⟨x1,Z,e⟩:=hp;exact⟨x1,Z,s2 _ _ e⟩
   have nlp:l≠p:=fun z=>by obtain⟨x1,Z,e⟩:=hp;rw[←z,hlH]at e;cases e
   refine⟨_,rfl,p,3,rfl,hp2,by decide,by decide,fun way x1 Z w0 w3=>?_⟩;have b3:bT p H (upd H2 p (.lst [.int x1,.int Z])):=s2.but.trans (bT.upd _ _ _);have p3:bE (upd H2 p (.lst [.int x1,.int Z])) p:=⟨_,_,upd_same⟩
   have l3:upd H2 p (.lst [.int x1,.int Z]) l=some (.lst B):=by rw[aB nlp];exact l2
   have r3:=r2.same (bC.ofBut (bT.upd p H2 (.lst [.int x1,.int Z])) hp2);generalize upd H2 p (.lst [.int x1,.int Z])=H3 at b3 p3 l3 r3⊢;have ret:∀G,aH H3 G->Q (.str x) G:=fun G I=>q (.str x) (.str x) G (b3.trans I.but) (by obtain⟨x2,y2,e⟩:=p3;exact⟨x2,y2,I _ _ e⟩) rfl (by unfold bN;exact .inl hx) (by rw[lvs] <;> simp) (Nat.zero_le _);refine⟨_,rfl,Nat.zero_le _,fun u hu=>?_⟩;have I:aH H3 (upd H3 u (.lst [])):=aH.upd hu;have u4:upd H3 u (.lst []) u=some (.lst []):=upd_same;have l4:=I _ _ l3;have r4:=r3.same (bC.of I);have p4:bE (upd H3 u (.lst [])) p:=p3.but (p3.ne hu);have b4:=b3.trans (I.but (p:=p));generalize upd H3 u (.lst [])=G at I u4 l4 r4 p4 b4⊢;refine⟨.lst ((nsm sm).map fun r=>D.tup [.str r.1,.str r.2]),.lst [],⟨l,B,rfl,l4,vD r4⟩,⟨u,[],rfl,u4,rfl⟩,?_,_,rfl,lF (fun k=>⟨_,rfl,ret G I⟩) fun k=>?_⟩
   ·have:=A2 (nsm sm);rw[depD];omega
   refine⟨_,rfl,.int way,.int 0,rfl,rfl,Nat.zero_le _,_,rfl,lF (fun k2=>⟨_,rfl,ret G I⟩) fun k2=>?_⟩;have ne0:nsm sm≠[]:=fun z=>MS k (by rw[z];rfl);have lacc:B.length=(nsm sm).length:=d9.len r4;have pos:0<B.length:=by rw[lacc];exact List.length_pos_iff.mpr ne0
   clear r3 l3 p3 b3 I;refine⟨_,rfl,_,rfl,_,rfl,_,_,rfl,by show(Option.map _ ((lenV G (.ref l)).bind _))=_;rw[lenV_l l4];rfl,p,B.length,rfl,p4,by omega,by omega,fun j x2 y2 j0 j1=>?_⟩;have hj:j.toNat<B.length:=by omega
   have b5:bT p H (upd G p (.lst [.int x2,.int y2])):=b4.trans (bT.upd _ _ _);have p5:bE (upd G p (.lst [.int x2,.int y2])) p:=⟨_,_,upd_same⟩
   have l5:upd G p (.lst [.int x2,.int y2]) l=some (.lst B):=by rw[aB nlp];exact l4
   have r5:=r4.same (bC.ofBut (bT.upd p G (.lst [.int x2,.int y2])) p4);generalize upd G p (.lst [.int x2,.int y2])=H5 at b5 p5 l5 r5⊢;obtain⟨r,tr,L,er,htr⟩:=d9.get r5 (List.getElem?_eq_getElem hj);refine⟨B[j.toNat],by rw[ixV_l l5,jM j0 j1,List.getElem?_eq_getElem hj],?_⟩;rw[er];refine⟨tr,_,rfl,hZ.of htr,rfl,_,_,rfl,_,_,rfl,rfl,?_⟩;have rm:=List.mem_filter.mp (List.mem_of_getElem? L);have hz:r.2∈zeros fx:=so.nought r rm.1 (of_decide_eq_true rm.2);have hn:r.1∈sm.map (·.1):=List.mem_map_of_mem rm.1;have dn:∀{a:Addr},H5 a=none->H a=none:=fun {a} e=>zX b5 (fun _=>by obtain⟨x3,y3,e3⟩:=p5;rw[e3];simp) e;refine⟨_,rfl,.int way,.int 1,rfl,rfl,Nat.zero_le _,_,rfl,lF (fun k3=>?_) fun k3=>?_⟩
   ·refine⟨_,rfl,_,rfl,_,rfl,show 3<=sizeLine by decide,fun n hn'=>?_⟩;refine q (.tup [.str r.1,.str r.2,.str x]) (.ref n) _ (b5.trans (bT.new hn')) (p5.but (p5.ne hn')) ⟨n,_,rfl,fU.mpr ⟨dn hn',upd_same⟩,_,_,rfl,rfl,_,_,rfl,rfl,_,_,rfl,rfl,rfl⟩ ?_ (by simp[lvs,lvss]) (by simp[depD,depDs]);unfold bN IsTms IsTms IsTms bN;exact⟨.inr ⟨by simp,hn⟩,.inr hz,.inl hx,trivial⟩
   ·refine⟨_,rfl,_,rfl,_,rfl,_,rfl,_,rfl,show 3<=sizeLine by decide,fun n1 U=>⟨show 3<=sizeLine by decide,fun n2 S=>?_⟩⟩;have e1:upd H5 n1 (.lst [.str r.1,.str r.2,.str r.2]) n1=some (.lst [.str r.1,.str r.2,.str r.2]):=upd_same;have p6:=p5.but (o:=.lst [.str r.1,.str r.2,.str r.2]) (p5.ne U);refine q (.lst [.str r.1,.str x,.lst [.str r.1,.str r.2,.str r.2]]) (.ref n2) _ ((b5.trans (bT.new U)).trans (bT.new S)) (p6.but (p6.ne S)) ⟨n2,_,rfl,fU.mpr ⟨dn (aH.free (aH.upd U) S),upd_same⟩,_,_,rfl,rfl,_,_,rfl,rfl,.ref n1,_,rfl,⟨n1,_,rfl,fU.mpr ⟨dn U,?_⟩,_,_,rfl,rfl,_,_,rfl,rfl,_,_,rfl,rfl,rfl⟩,rfl⟩ ?_ (by simp[lvs,lvss]) (by simp[depD,depDs])
    ·rw[aB (aE e1 S)];exact e1
    ·unfold bN IsTms IsTms IsTms bN IsTms IsTms IsTms bN;exact⟨.inr ⟨by simp,hn⟩,.inl hx,⟨.inr ⟨by simp,hn⟩,.inr hz,.inr hz,trivial⟩,trivial⟩
end
section
variable {P:Program}{w:World}{K:PySem.W.Frag}{mg:fM}{base:Heap}
noncomputable def putF (fs:List (Str×D))(x:Str)(d:D):List (Str×D):=if fs.any (fun p=>decide (p.1=x))then fs.map (fun p=>if p.1=x then(p.1,d)else p)else fs++[(x,d)]
theorem JP {H:Hp}{x:Str}{d:D}{v:V}(r:bD H d v):∀{fs:List (Str×D)} {j:List (bG×V)},cP H (kd fs) j->cP H (kd (putF fs x d)) (putK j (Sum.inr x) v):=by
 intro fs j h;have I:(j.any fun L=>decide (L.1=Sum.inr x))=fs.any (fun p=>decide (p.1=x)):=by
  unfold cP kd at h;generalize B:(fs.map fun p=>((Sum.inr p.1:bG),p.2))=m at h
  induction h generalizing fs with
  | nil =>
   cases fs with
   | nil=>rfl
   | cons a l=>cases B
  | cons a _ G =>
   cases fs with
   | nil=>cases B
   | cons b l =>
    cases B;rw[List.any_cons,List.any_cons,G rfl,←a.1];congr 1;by_cases e:b.1=x
    ·rw[decide_eq_true e,decide_eq_true (show(Sum.inr b.1:bG)=Sum.inr x from congrArg Sum.inr e)]
    ·rw[decide_eq_false e,decide_eq_false fun z=>e (Sum.inr.inj z)]
 unfold putK putF;rw[I];by_cases c:fs.any (fun p=>decide (p.1=x))=true
 ·rw[if_pos c,if_pos c];clear I c;unfold cP kd at *;generalize B:(fs.map fun p=>((Sum.inr p.1:bG),p.2))=m at h
  induction h generalizing fs with
  | nil =>
   cases fs with
   | nil=>exact .nil
   | cons a l=>cases B
  | @cons p q ps N a _ G =>
   cases fs with
   | nil=>cases B
   | cons b l =>
    cases B;rw[List.map_cons,List.map_cons,List.map_cons];refine .cons ?_ (G rfl);by_cases e:b.1=x
    ·rw[if_pos e,if_pos (a.1.symm.trans (congrArg Sum.inr e))];exact⟨a.1,r⟩
    ·rw[if_neg e,if_neg (fun z=>e (Sum.inr.inj (a.1.trans z)))];exact a
 ·rw[if_neg c,if_neg c,yE];exact Paired.snoc h ⟨rfl,r⟩
theorem FJ {fs:List (Str×D)}{x:Str}{d:D}(nd:(fs.map (·.1)).Nodup):((putF fs x d).map (·.1)).Nodup/\(putF fs x d).length<=fs.length+1/\∀p∈putF fs x d,p∈fs∨p=(x,d):=by
 unfold putF;by_cases c:fs.any (fun p=>decide (p.1=x))=true
 ·rw[if_pos c];refine⟨?_,by rw[List.length_map];omega,fun p B=>?_⟩
  ·rw[List.map_map];have e:((fun x:Str×D=>x.1) ∘ fun p=>if p.1=x then(p.1,d)else p)=fun p:Str×D=>p.1:=by funext p;show(if p.1=x then(p.1,d)else p).1=p.1;split <;> rfl
   rw[e];exact nd
  ·obtain⟨q,j,rfl⟩:=List.mem_map.mp B;by_cases e:q.1=x
   ·rw[if_pos e,e];exact .inr rfl
   ·rw[if_neg e];exact .inl j
 ·rw[if_neg c];refine⟨?_,by rw[List.length_append];exact Nat.le_refl _,fun p B=>?_⟩
  ·rw[List.map_append];refine List.nodup_append.mpr ⟨nd,List.nodup_cons.mpr ⟨by simp,List.nodup_nil⟩,fun a I b G z=>c ?_⟩;rw[List.map_singleton,List.mem_singleton]at G;obtain⟨q,j,e⟩:=List.mem_map.mp I;exact List.any_eq_true.mpr ⟨q,j,decide_eq_true (by rw[e,z,G])⟩
  ·exact(List.mem_append.mp B).imp id fun h=>List.mem_singleton.mp h
noncomputable def oH (j:cL)(sm:bM)(os:aW)(fs:List (Str×D)):Prop:=∀p∈fs,p.1∈os/\bN j sm os p.2/\lvs p.2<=7/\depD p.2<=8
noncomputable def pA:Sp:=fun vs H Q _=>∃(p t o:Addr) (fx:cL) (sm:bM) (os:aW),vs=[.ref p,.ref t,.ref o]/\m9 p t o fx sm os H /\
 ∀(l:Addr) (fs:List (Str×D)) (kvs:List (bG×V)) (H':Hp),bT p H H'->H l=none->H' l=some (.dK kvs)->cP (nwB l H H') (kd fs) kvs->(fs.map (·.1)).Nodup->fs.length<=12->oH fx sm os fs->Q (.ref l) H'
noncomputable def R5 (p t o l:Addr)(j:Int)(B:cL)(sm:bM)(os:aW)(H:Hp)(i:Nat)(σ:St)(q:Hp):Prop:=∃(fs:List (Str×D)) (kvs:List (bG×V)) (o5 o6:Option V),σ=[some (.ref p),some (.ref t),some (.ref o),some (.ref l),some (.int j),o5,o6]/\bT p H q/\bE q p/\q l=some (.dK kvs)/\cP (nwB l H q) (kd fs) kvs/\(fs.map (·.1)).Nodup/\fs.length<=i/\oH B sm os fs
theorem CJ {f:Addr}{fd:FuncData}(F:gU K "_law_filling" "_law_filling" dJ f fd)(T:Txt mg)(O__law_take:cK P w K mg base a0 1 "_law_take" fP)(O__law_own:cK P w K mg base a0 2 "_law_own" BU)(O__law_term:cK P w K mg base a0 12 "_law_term" (mQ 8)):cA P w K mg base a0 13 f fd iY pA:=by
 refine F.ok eM (fun vs H Q E h=>?_) (fun cdv A outer s H vs Q E U h=>?_)
 ·obtain⟨p,t,o,fx,sm,os,rfl,_⟩:=h;rfl
 ·obtain⟨p,t,o,fx,sm,os,rfl,S,q⟩:=h;have hu:=U.units
  refine⟨_,(aF (aY (i:=3) eM.nd rfl (Or.inl rfl) nY)
   (aF (aY (i:=4) eM.nd rfl (Or.inl rfl) (aM O__law_take (U.mono (by decide)) pass0 rfl (aA (pv 0) (aA aJ aC))))
   (aF (eI PassesOwn.never rfl (fZ rfl T.n_range (aA (pv 4) aC)) (bQ (i:=5) eM.nd rfl (Or.inl rfl)) (aF (aY (i:=6) eM.nd rfl (Or.inl rfl) (bP dN (pv 2) (aM O__law_take (U.mono (by decide)) pass0 rfl (aA (pv 0) (aA (aK bH rfl T.n_len rfl (aA (pv 2) aC)) aC))) (fun _ _=>rfl)))
   (aG (bK (aV (eJ hu) (aM O__law_take (U.mono (by decide)) pass0 rfl (aA (pv 0) (aA aJ aC))) aJ (nomark _)) (aG (xP (Nat.lt_of_le_of_lt (Nat.add_le_add_left (by decide) _) hu) (pv 3) (pv 6) (aM O__law_own (U.mono (by decide)) pass0 rfl (aA (pv 0) (aA (pv 1) (aA (pv 6) aC)))) rfl)) (aG (xP (Nat.lt_of_le_of_lt (Nat.add_le_add_left (by decide) _) hu) (pv 3) (pv 6) (aM O__law_term (U.mono (by decide)) pass0 rfl (aA (pv 0) (aA (pv 1) (aA (pv 2) (aA (bO bV aJ (aM O__law_take (U.mono (by decide)) pass0 rfl (aA (pv 0) (aA (bP dN (cI (aA aJ (aA aJ aC))) (bO rA (pv 4) aJ) (fun _ _=>rfl)) aC)))) (aA aJ aC)))))) rfl))))))
   (aG (aQ (pv 3)))))),?_⟩
  clear U F T hu O__law_take O__law_own O__law_term;simp only[nI];refine fun l hl=>?_;have L:l≠p:=fun z=>by obtain⟨x1,y1,e⟩:=S.1;rw[←z,hl]at e;cases e
  have hp0:H p≠none:=fun z=>by obtain⟨x1,y1,e⟩:=S.1;rw[z]at e;cases e
  have b1:bT p H (upd H l (.dK [])):=bT.new hl;have p1:bE (upd H l (.dK [])) p:=S.1.but L.symm;have l1:upd H l (.dK []) l=some (.dK []):=upd_same;generalize upd H l (.dK [])=H1 at b1 p1 l1⊢;refine⟨_,rfl,p,13,rfl,p1,by decide,by decide,fun G x1 y1 m0 m1=>?_⟩;have b2:bT p H (upd H1 p (.lst [.int x1,.int y1])):=b1.trans (bT.upd _ _ _);have p2:bE (upd H1 p (.lst [.int x1,.int y1])) p:=⟨_,_,upd_same⟩
  have l2:upd H1 p (.lst [.int x1,.int y1]) l=some (.dK []):=by rw[aB L];exact l1
  generalize upd H1 p (.lst [.int x1,.int y1])=H2 at b2 p2 l2⊢;clear b1 p1 l1;refine⟨_,rfl,G,rfl,?_⟩;have c2:G<2 ^ 62:=by omega
  refine⟨by omega,c2,?_⟩;refine fW (R5 p t o l G fx sm os H) ⟨[],[],_,_,rfl,b2,p2,l2,.nil,List.nodup_nil,Nat.zero_le _,fun r U=>nomatch U⟩ ?_ ?_
  ·rintro i σ H3 hi ⟨fs,I,o5,o6,rfl,b3,p3,l3,rep,nd,ln,sml⟩;clear b2 p2 l2;obtain⟨_,tl3,ol3,so,os1,os2⟩:=S.but b3 p3;have i12:i<13:=by omega
   refine⟨_,rfl,_,rfl,_,rfl,_,_,rfl,by show(Option.map _ ((lenV H3 (.ref o)).bind _))=_;rw[lenV_l ol3.1,List.length_map];rfl,p,os.length,rfl,p3,by omega,by omega,fun j x3 y3 j0 j1=>?_⟩;have hj:j.toNat<os.length:=by omega
   have hx:os[j.toNat]∈os:=List.getElem_mem hj;have b4:bT p H (upd H3 p (.lst [.int x3,.int y3])):=b3.trans (bT.upd _ _ _);have p4:bE (upd H3 p (.lst [.int x3,.int y3])) p:=⟨_,_,upd_same⟩
   have l4:upd H3 p (.lst [.int x3,.int y3]) l=some (.dK I):=by rw[aB L];exact l3
   have o4:upd H3 p (.lst [.int x3,.int y3]) o=some (.lst (os.map V.str)):=by rw[aB ol3.2];exact ol3.1
   have r4:cP (nwB l H (upd H3 p (.lst [.int x3,.int y3]))) (kd fs) I:=rep.same fun a u e=>by obtain⟨⟨Z,g2⟩,g3⟩:=fE.mp e;exact fE.mpr ⟨⟨Z,g2⟩,by rw[aB (fun z=>hp0 (by rw[←z];exact Z))];exact g3⟩
   generalize upd H3 p (.lst [.int x3,.int y3])=H4 at b4 p4 l4 o4 r4⊢;clear b3 p3 l3 rep tl3 ol3;refine⟨.str os[j.toNat],by rw[ixV_l o4,jM j0 (by rw[List.length_map];exact j1),List.getElem?_map,List.getElem?_eq_getElem hj];rfl,?_⟩;generalize os[j.toNat]=x at hx;refine⟨_,rfl,p,6,rfl,p4,by decide,by decide,fun k6 x5 y5 _ _=>?_⟩;have b5:bT p H (upd H4 p (.lst [.int x5,.int y5])):=b4.trans (bT.upd _ _ _);have p5:bE (upd H4 p (.lst [.int x5,.int y5])) p:=⟨_,_,upd_same⟩
   have l5:upd H4 p (.lst [.int x5,.int y5]) l=some (.dK I):=by rw[aB L];exact l4
   have r5:cP (nwB l H (upd H4 p (.lst [.int x5,.int y5]))) (kd fs) I:=r4.same fun a u e=>by obtain⟨⟨Z,g2⟩,g3⟩:=fE.mp e;exact fE.mpr ⟨⟨Z,g2⟩,by rw[aB (fun z=>hp0 (by rw[←z];exact Z))];exact g3⟩
   generalize upd H4 p (.lst [.int x5,.int y5])=H5 at b5 p5 l5 r5⊢;clear b4 p4 l4 o4 r4;have put:∀(H0:Hp) (d:D) (v:V) (N:Hp),bT p H5 H0->bE H0 p->(∀a,H0 a=none->H5 a=none)->bT p H0 N->bE N p->bD (nw H0 N) d v->bN fx sm os d->lvs d<=7->depD d<=8 ->
     R5 p t o l G fx sm os H (i+1) [some (.ref p),some (.ref t),some (.ref o),some (.ref l),some (.int G),some (.int (0+i)),some (.str x)] (upd N l (.dK (putK I (Sum.inr x) v)))/\I.length<sizeLine/\N l=some (.dK I):=fun H0 d v N b0 p0 f0 b6 p6 r6 tm6 lv6 dp6=>by
    have l0:=b0 _ _ L l5;have l6:=b6 _ _ L l0;have hn:∀a,H0 a=none->H a=none:=fun a e=>zX b5 (fun _=>by obtain⟨x9,y9,e9⟩:=p5;rw[e9];simp) (f0 a e);have s0:aH (nwB l H H5) (nwB l H (upd N l (.dK (putK I (Sum.inr x) v)))):=fun a u e=>by obtain⟨⟨Z,g2⟩,g3⟩:=fE.mp e;have nap:a≠p:=fun z=>hp0 (by rw[←z];exact Z);exact fE.mpr ⟨⟨Z,g2⟩,by rw[aB g2];exact b6 a u nap (b0 a u nap g3)⟩
    have rd:bD (nwB l H (upd N l (.dK (putK I (Sum.inr x) v)))) d v:=bD.same (fun a u e=>by
     obtain⟨Z,g2⟩:=fU.mp e;have nal:a≠l:=fun z=>by rw[z,l0]at Z;cases Z
     exact fE.mpr ⟨⟨hn a Z,nal⟩,by rw[aB nal];exact g2⟩) r6
    obtain⟨k1,k2,k3⟩:=FJ (x:=x) (d:=d) nd;have kl:=sX r5;refine⟨⟨putF fs x d,_,_,_,rfl,yW ((b5.trans b0).trans b6) hl,p6.but L.symm,upd_same,JP rd (r5.same s0),k1,by omega,fun r U=>?_⟩,Nat.lt_of_le_of_lt (m:=13) (by omega) (by decide),l6⟩;rcases k3 r U with h|h
    ·exact sml r h
    ·rw[h];exact⟨hx,tm6,lv6,dp6⟩
   refine⟨.int k6,.int 0,rfl,rfl,Nat.zero_le _,_,rfl,lF (fun k=>?_) fun k=>?_⟩
   ·refine⟨_,rfl,_,rfl,_,rfl,p,t,o,fx,sm,os,x,rfl,S.but b5 p5,hx,fun d v N b6 p6 r6 tm6 lv6 dp6=>?_⟩;obtain⟨z1,z2,z3⟩:=put H5 d v N (bT.refl _ _) p5 (fun _ e=>e) b6 p6 r6 tm6 lv6 dp6;exact⟨_,rfl,_,rfl,l,_,rfl,DO.k (k:=Sum.inr x) z3 z2,z1⟩
   ·refine⟨_,rfl,_,rfl,_,rfl,_,rfl,show 2<=sizeLine by decide,fun u hu=>?_⟩;have s6:aH H5 (upd H5 u (.lst [.int 7,.int 5])):=aH.upd hu;have u6:upd H5 u (.lst [.int 7,.int 5]) u=some (.lst [.int 7,.int 5]):=upd_same;have p6:bE (upd H5 u (.lst [.int 7,.int 5])) p:=p5.but (p5.ne hu);generalize upd H5 u (.lst [.int 7,.int 5])=N at s6 u6 p6⊢;obtain⟨B,hB,B0,B1⟩:∃B:Int,atI [V.int 7,V.int 5] (G / 9)=some (.int B)/\0<B/\B<=7:=by
     have:G / 9=0∨G / 9=1:=by omega
     rcases this with e|e
     ·rw[e];exact⟨7,by decide,by decide,by decide⟩
     ·rw[e];exact⟨5,by decide,by decide,by decide⟩
    refine⟨_,rfl,G,9,rfl,rfl,⟨by decide,by decide⟩,.int B,by rw[ixV_l u6];exact hB,p,B,rfl,p6,B0,by omega,fun m7 x7 y7 m70 m71=>?_⟩;have b7:bT p H5 (upd N p (.lst [.int x7,.int y7])):=s6.but.trans (bT.upd _ _ _);have p7:bE (upd N p (.lst [.int x7,.int y7])) p:=⟨_,_,upd_same⟩
    have f7:∀a,upd N p (.lst [.int x7,.int y7]) a=none->H5 a=none:=fun a e=>by
     by_cases z:a=p
     ·rw[z,upd_same]at e;cases e
     ·rw[aB z]at e;exact s6.free e
    generalize upd N p (.lst [.int x7,.int y7])=H7 at b7 p7 f7⊢;have e7:(1:Int)+m7=((1+m7.toNat:Nat):Int):=by omega
    refine .inl ⟨_,rfl,p,t,o,fx,sm,os,1+m7.toNat,8,by rw[←e7];rfl,S.but (b5.trans b7) p7,by omega,by omega,Nat.le_refl _,fun d v H8 b8 p8 r8 tm8 lv8 dp8=>?_⟩;obtain⟨z1,z2,z3⟩:=put H7 d v H8 b7 p7 f7 b8 p8 r8 tm8 (by omega) dp8;exact⟨_,rfl,_,rfl,l,_,rfl,DO.k (k:=Sum.inr x) z3 z2,z1⟩
  ·rintro σ H3 ⟨fs,I,o5,o6,rfl,b3,p3,l3,rep,nd,ln,sml⟩;exact⟨_,rfl,q l fs I H3 b3 hl l3 rep nd (by omega) sml⟩
end
section
variable {P:Program}{w:World}{K:PySem.W.Frag}{mg:fM}{base:Heap}
noncomputable def xE:Sp:=fun vs H Q _=>∃p:Addr,vs=[.ref p]/\bE H p/\∀(o:Addr) (os:aW) (H':Hp),bT p H H'->bE H' p->o≠p->H' o=some (.lst (os.map V.str))->1<=os.length->os.length<=12->(∀x∈os,cF x)->Q (.ref o) H'
theorem OF:cF "?1":=⟨[49],by decide +kernel,by decide,by decide,fun c hc=>by rw[List.mem_singleton.mp hc];exact .inr ⟨by decide,by decide⟩⟩
theorem OE:cF "?2":=⟨[50],by decide +kernel,by decide,by decide,fun c hc=>by rw[List.mem_singleton.mp hc];exact .inr ⟨by decide,by decide⟩⟩
theorem A8 {H:Hp}{a b:Addr}{xs ys:aW}(q:H a=some (.lst (xs.map V.str)))(j:H b=some (.lst (ys.map V.str)))(h:xs.length+ys.length<=sizeLine):catO H (.ref a) (.ref b)=some (.lst ((xs++ys).map V.str)):=by unfold catO;simp only[q,j];rw[List.map_append];exact if_pos (by rw[List.length_map,List.length_map];exact h)
theorem QC {xs:List V}{n:Nat}(h:n<=xs.length):cutV xs none (some (n:Int))=xs.take n:=by unfold cutV;rw[HT.sIx_nat,HT.sIx_none,Nat.min_eq_left h,Nat.sub_zero,List.drop_zero]
theorem JA {f:Addr}{fd:FuncData}(F:gU K "_law_more" "_law_more" eX f fd)(T:Txt mg)(O__law_wishes:cK P w K mg base a0 2 "_law_wishes" xG)(O__law_take:cK P w K mg base a0 1 "_law_take" fP):cA P w K mg base a0 3 f fd lM xE:=by
 refine F.ok nS (fun vs H Q E h=>?_) (fun cdv A outer s H vs Q E L h=>?_)
 ·obtain⟨p,rfl,_⟩:=h;rfl
 ·obtain⟨p,rfl,hp,q⟩:=h;have hu:=L.units
  refine⟨_,(aF (aY (i:=1) nS.nd rfl (Or.inl rfl) (bO bV (aM O__law_wishes (L.mono (by decide)) pass0 rfl (aA (pv 0) aC)) (aM O__law_wishes (L.mono (by decide)) pass0 rfl (aA (pv 0) aC))))
   (aG (aQ (bO bV (gN kX (pv 1) gK (fC (bO bV aJ (aM O__law_take (L.mono (by decide)) pass0 rfl (aA (pv 0) (aA aJ aC)))))) (cI (aA gM (aA gM aC))))))),?_⟩
  clear L F T hu O__law_take O__law_wishes;refine⟨_,rfl,p,rfl,hp,fun o1 xs H1 no1 b1 p1 h1 l1 w1=>?_⟩;refine⟨_,rfl,p,rfl,p1,fun o2 ys H2 no2 b2 Z h2 l2 w2=>?_⟩;have h1':=b2 _ _ no1 h1;refine .inr ⟨_,A8 h1' h2 (Nat.le_trans (m:=10) (by omega) (by decide)),fun I j=>?_⟩;have b3:=(b1.trans b2).trans (bT.new (p:=p) (o:=.lst ((xs++ys).map V.str)) j);have p3:=Z.but (o:=.lst ((xs++ys).map V.str)) (Z.ne j);have h3:upd H2 I (.lst ((xs++ys).map V.str)) I=some (.lst ((xs++ys).map V.str)):=upd_same;have no3:I≠p:=(Z.ne j).symm;have w3:∀x∈xs++ys,cF x:=fun x hx=>(List.mem_append.mp hx).elim (w1 x) (w2 x);have l3:(xs++ys).length=10:=by rw[List.length_append];omega
  generalize upd H2 I (.lst ((xs++ys).map V.str))=H3 at b3 p3 h3⊢;generalize xs++ys=zs at h3 w3 l3;clear b1 b2 p1 Z h1 h1' h2 w1 w2 j;refine⟨_,rfl,_,rfl,p,10,rfl,p3,by decide,by decide,fun k U S k0 k1=>?_⟩;have b4:bT p H (upd H3 p (.lst [.int U,.int S])):=b3.trans (bT.upd _ _ _);have p4:bE (upd H3 p (.lst [.int U,.int S])) p:=⟨_,_,upd_same⟩
  have h4:upd H3 p (.lst [.int U,.int S]) I=some (.lst (zs.map V.str)):=by rw[aB no3];exact h3
  generalize upd H3 p (.lst [.int U,.int S])=H4 at b4 p4 h4⊢;have e4:(1:Int)+k=((1+k.toNat:Nat):Int):=by omega
  refine .inl ⟨_,rfl,_,rfl,I,_,rfl,.inl h4,fun⟨ys',z⟩=>(by rw[h4]at z;cases z),fun o5 ob N hob=>?_⟩;have eb:ob = .lst ((zs.take (1+k.toNat)).map V.str):=by
   rcases hob with⟨z,_⟩|⟨_,z⟩
   ·rw[z,e4,QC (by rw[List.length_map];omega),List.map_take]
   ·rw[h4]at z;cases z
  subst eb;have b5:=b4.trans (bT.new (p:=p) (o:=.lst ((zs.take (1+k.toNat)).map V.str)) N);have p5:=p4.but (o:=.lst ((zs.take (1+k.toNat)).map V.str)) (p4.ne N);have h5:upd H4 o5 (.lst ((zs.take (1+k.toNat)).map V.str)) o5=some (.lst ((zs.take (1+k.toNat)).map V.str)):=upd_same;generalize upd H4 o5 (.lst ((zs.take (1+k.toNat)).map V.str))=H5 at b5 p5 h5⊢;refine⟨show 2<=sizeLine by decide,fun o6 G=>?_⟩;have h6:upd H5 o6 (.lst ([("?1" : Str),"?2"].map V.str)) o6=some (.lst ([("?1" : Str),"?2"].map V.str)):=upd_same;have h56:upd H5 o6 (.lst ([("?1" : Str),"?2"].map V.str)) o5=some (.lst ((zs.take (1+k.toNat)).map V.str)):=aH.upd G _ _ h5;have b6:=b5.trans (bT.new (p:=p) (o:=.lst ([("?1" : Str),"?2"].map V.str)) G);have p6:=p5.but (o:=.lst ([("?1" : Str),"?2"].map V.str)) (p5.ne G);have lt:(zs.take (1+k.toNat)).length=1+k.toNat:=by rw[List.length_take];omega
  refine .inr ⟨_,A8 h56 h6 (Nat.le_trans (m:=12) (by rw[lt];show 1+k.toNat+2<=12;omega) (by decide)),fun o7 B=>?_⟩;refine q o7 _ _ (b6.trans (bT.new B)) (p6.but (p6.ne B)) (p6.ne B).symm upd_same (by rw[List.length_append];show 1<=_+2;omega) (by rw[List.length_append,lt];show 1+k.toNat+2<=12;omega) fun x hx=>?_;rcases List.mem_append.mp hx with h|h
  ·exact w3 x (List.mem_of_mem_take h)
  ·rcases List.mem_cons.mp h with e|h
   ·rw[e];exact OF
   ·rw[List.mem_singleton.mp h];exact OE
noncomputable def xF:Sp:=fun vs H Q _=>∃(t a b c:Addr) (sm:bM) (sv:List V) (fs:List (Str×D)) (kvs:List (bG×V)),vs=[.ref t,.ref c]/\H t=some (.tup [.ref a,.ref b])/\H b=some (.lst sv)/\d9 H sm sv/\(sm.map (·.1)).Nodup/\(∀r∈sm,r.2=("" : Str)∨Fl (.str r.2))/\sm.length<=3 /\
 H c=some (.dK kvs)/\cP H (kd fs) kvs/\(fs.map (·.1)).Nodup/\fs.length<=20/\(∀p∈fs,Tm p.2/\depD p.2<=11/\sz p.2<=64) /\
 ∀(l:Addr) (kvs':List (bG×V)) (H':Hp),aH H H'->H l=none->H' l=some (.dK kvs')->cP H' (kd (look sm fs)) kvs'->Q (.ref l) H'
structure SF (P:Program)(w:World)(t c l:Addr)(o:Obj)(kvs:List (bG×V))(fs:List (Str×D))(sm:bM)(H:Hp)(i:Nat)(σ:St)(H':Hp):Prop where
 st:∃o3 o4:Option V,σ=[some (.ref t),some (.ref c),some (.ref l),o3,o4]
 bt:KU c l H H'
 wd:H' c=some (wD P w c o kvs)
 re:∃acc,H' l=some (.dK acc)/\cP H' (kd (idle (flatF sm (fs.take i)))) acc/\acc.length<=i
theorem BN {j:List (bG×V)}{i:Nat}{k:bG}{v:V}(nd:(j.map (·.1)).Nodup)(h:j[i]?=some (k,v)):valV j k=some v:=by
 match j,i,nd,h with
 | [],_,_,h=>simp at h
 | a::l,0,_,h =>
  simp at h;subst h;exact jZ rfl
 | a::l,i+1,nd,h =>
  rw[List.getElem?_cons_succ]at h
  replace nd:=List.nodup_cons.mp (List.map_cons ▸ nd)
  rw[j4 (fun z=>nd.1 (by rw[z];exact List.mem_map_of_mem (f:=(·.1)) (List.mem_of_getElem? h)))];exact BN nd.2 h
theorem CK {α β:Type}{f:α->β}(j:∀x y,f x=f y->x=y):∀{l:List α},l.Nodup->(l.map f).Nodup
 | [],_=>List.nodup_nil
 | a::l,h=>by rw[List.nodup_cons]at h;rw[List.map_cons];refine List.nodup_cons.mpr ⟨fun z=>?_,CK j h.2⟩;obtain⟨b,q,e⟩:=List.mem_map.mp z;exact h.1 (by rw[←j b a e];exact q)
theorem JB {f:Addr}{fd:FuncData}(F:gU K "_law_looked" "_law_looked" dW f fd)(T:Txt mg)(O__law_flat:cK P w K mg base a0 14 "_law_flat" (oZ 11)):cA P w K mg base a0 15 f fd jV xF:=by
 refine F.ok gI (fun vs H Q E h=>?_) (fun cdv A outer s H vs Q E hr h=>?_)
 ·obtain⟨t,a,b,c,sm,sv,fs,j,rfl,_⟩:=h;rfl
 ·obtain⟨t,a,b,c,sm,sv,fs,j,rfl,ht,hb,rs,smn,nf,s3,hc,rep,nd,l20,fok,q⟩:=h;have hu:=hr.units
  refine⟨_,(aF (aY (i:=2) gI.nd rfl (Or.inl rfl) nY)
   (aF (D1 (eI PassesOwn.never rfl (LP (pv 1)) (bQ (i:=3) gI.nd rfl (Or.inl rfl)) (aF (aY (i:=4) gI.nd rfl (Or.inl rfl) (aM O__law_flat (hr.mono (by decide)) pass0 rfl (aA (pv 0) (aA (IM (pv 1) (pv 3) (fun _ _=>rfl)) aC))))
   (aG (bK (aV (fJ hu) (pv 4) (pv 3) (nomark _)) (aG (xP (Nat.lt_of_le_of_lt (Nat.add_le_add_left (by decide) _) hu) (pv 2) (pv 3) (pv 4) rfl)) aU)))))
   (aG (aQ (pv 2))))),?_⟩
  clear hr F T hu O__law_flat;simp only[nI];refine fun l hl=>?_;have I:c≠l:=aE hc hl;have U:aH H (upd H l (.dK [])):=aH.upd hl;have l1:upd H l (.dK []) l=some (.dK []):=upd_same;generalize upd H l (.dK [])=H1 at U l1⊢;have kl:=sX rep;have L:=U _ _ hc;refine⟨_,rfl,c,j,rfl,L,fun o=>?_⟩;have knd:(j.map (·.1)).Nodup:=by
   rw[pO rep];unfold kd;rw[List.map_map];have:((fun x:bG×D=>x.1) ∘ fun p:Str×D=>((Sum.inr p.1:bG),p.2))=fun p=>Sum.inr p.1:=rfl;rw[this];have B:fs.map (fun p=>(Sum.inr p.1:bG))=(fs.map (·.1)).map Sum.inr:=by rw[List.map_map];rfl
   rw[B];exact CK (fun x y e=>Sum.inr.inj e) nd
  have n1:∀xs,H1 c≠some (.tup xs)/\H1 c≠some (.lst xs):=fun xs=>⟨fun z=>(by rw[L]at z;cases z),fun z=>(by rw[L]at z;cases z)⟩
  have n2:∀xs,H1 l≠some (.tup xs)/\H1 l≠some (.lst xs):=fun xs=>⟨fun z=>(by rw[l1]at z;cases z),fun z=>(by rw[l1]at z;cases z)⟩
  refine GP (P:=P) (w:=w) (SF P w t c l o j fs sm H1) ⟨⟨_,_,rfl⟩,fun d u n _ e=>by rw[aB n];exact e,upd_same,[],by rw[aB I.symm];exact l1,.nil,Nat.zero_le _⟩ (fun i σ H' h=>h.wd) ?_ ?_
  ·rintro i k v σ H2 hk ⟨⟨o3,o4,rfl⟩,bt,S,N,l2,ra,la⟩;obtain⟨x,d,hf,rfl,rd⟩:=pR rep hk;have il:=(List.getElem?_eq_some_iff.mp hf).1;obtain⟨tmd,d11,s64⟩:Tm d/\depD d<=11/\sz d<=64:=fok _ (List.mem_of_getElem? hf);have up:∀{z:Addr} {u:HO},H z=some u->z≠c->H2 z=some u:=fun {z u} e n=>bt z u n (aE e hl) (U _ _ e);have rd2:bD H2 d v:=D0 bt n1 n2 (bD.same U rd);have ts:bC H H2:=fun z xs e=>up e fun y=>by rw[y,hc]at e;cases e
   refine⟨_,rfl,_,rfl,_,rfl,c,o,j,Sum.inr x,v,rfl,S,rfl,BN knd hk,?_⟩;refine⟨t,a,b,sm,sv,d,v,rfl,ts _ _ ht,up hb (fun y=>by rw[y,hc]at hb;cases hb),rs.same ts,smn,nf,s3,rd2,tmd,d11,by omega,s64,fun v' H3 s4 r4=>?_⟩;have l3:=s4 _ _ l2;have bt3:KU c l H1 H3:=fun z u e1 B e=>s4 _ _ (bt z u e1 B e);have h3:=s4 _ _ S;have G:=ra.same s4;have Z:=pT (flatF sm (fs.take i)) x (flt sm d);rw[←tH,←aZ hf]at Z;have fd':=rF sm d;refine⟨_,rfl,_,rfl,flt sm d,.str x,r4,rfl,by omega,_,rfl,lF (fun kk=>?_) fun kk=>?_⟩
   ·have e:eqD (flt sm d) (.str x)=false:=by simpa using kk
    rw[e,if_neg (by decide)]at Z
    have new:=yC nd hf (fun p' hp'=>by
     obtain⟨q1,hq1,e1⟩:=AV p' hp';obtain⟨q2,hq2,B⟩:=v9 q1 hq1
     exact⟨q2,hq2,B.trans e1⟩) G
    refine⟨_,rfl,_,rfl,_,rfl,l,_,rfl,DO.k (k:=Sum.inr x) l3 (Nat.lt_of_le_of_lt (m:=20) (by omega) (by decide)),⟨_,_,rfl⟩,fun z u e1 B e=>by rw[aB B];exact bt3 z u e1 B e,by rw[aB I];exact h3,_,upd_same,?_,?_⟩
    ·rw[putK_new new,Z,yE];exact cP.but (p:=l) (bT.upd _ _ _) (fun xs z=>by rw[l3]at z;cases z) (fun xs z=>by rw[l3]at z;cases z) (pN G r4)
    ·rw[putK_new new,List.length_append,List.length_singleton];omega
   ·have e:eqD (flt sm d) (.str x)=true:=by simpa using kk
    rw[e,if_pos rfl,List.append_nil]at Z;exact⟨⟨_,_,rfl⟩,bt3,h3,N,l3,by rw[Z];exact G,by omega⟩
  ·rintro σ H2 ⟨⟨o3,o4,rfl⟩,bt,S,N,l2,ra,la⟩;rw[kl,List.take_length]at ra;refine⟨_,.inr ⟨c,o,j,S,rfl⟩,_,rfl,?_⟩;refine q l N _ (fun z u e=>?_) hl (by rw[aB I.symm];exact l2) ?_
   ·by_cases y:z=c
    ·rw[y,upd_same,←hc,←y];exact e
    ·rw[aB y];exact bt z u y (aE e hl) (U _ _ e)
   ·exact cP.but (p:=c) (bT.upd _ _ _) (fun xs z=>by rw[S]at z;cases z) (fun xs z=>by rw[S]at z;cases z) ra
end
section
variable {P:Program}{w:World}{K:PySem.W.Frag}{mg:fM}{base:Heap}
noncomputable def R1 (G:Hp)(c:Addr)(H H':Hp):Prop:=∀b u,b≠c->(G b=none∨∀xs,u≠.lst xs)->H b=some u->H' b=some u
noncomputable def NN (G H:Hp)(n:Nat)(v:V):Prop:=(∃x,v = .str x)∨(∃q xs,v = .ref q/\H q=some (.tup xs))∨∃q xs,v = .ref q/\G q≠none/\H q=some (.lst xs)/\xs.length<=n
noncomputable def w6:Sp:=fun vs H Q _=>∃(c:Addr) (G:Hp) (fx:cL) (sm:bM) (os:aW) (fs:List (Str×D)) (kvs:List (bG×V)),vs=[.ref c]/\H c=some (.dK kvs)/\aH G H/\cP G (kd fs) kvs/\(fs.map (·.1)).Nodup/\fs.length<=20/\(∀p∈fs,bN fx sm os p.2/\lvs p.2<=60)/\∀H',R1 G c H H'->Q .non H'
structure R8 (c L:Addr)(G:Hp)(kvs:List (bG×V))(H:Hp)(i:Nat)(σ:St)(H':Hp):Prop where
 st:∃o1:Option V,σ=[some (.ref c),o1]
 hc:H' c=some (.dK kvs)
 hL:H' L=some (.lst (kvs.map fun p=>kV p.1))
 sp:R1 G c H H'
 tv:∀p∈kvs,NN G H' (100+i) p.2
theorem OO {G H:Hp}{L:cL}{sm:bM}{os:aW}{d:D}{v:V}(s:aH G H)(r:bD G d v)(tm:bN L sm os d)(l:lvs d<=60):NN G H 100 v:=by
 rcases BS tm with⟨x,rfl,_⟩|⟨nm,ds,hd,_,B⟩
 ·exact .inl ⟨x,r⟩
 ·rcases hd with rfl|rfl
  ·obtain⟨q,vs,rfl,j,_⟩:=r;exact .inr (.inl ⟨q,vs,rfl,s _ _ j⟩)
  ·obtain⟨q,vs,rfl,j,I⟩:=r;refine .inr (.inr ⟨q,vs,rfl,by rw[j];simp,s _ _ j,?_⟩);have:=Reps.len I;have:=lV B;rw[lvs]at l;rw[List.length_cons]at *;omega
theorem P9 {H:Hp}{x:Str}:isV H (.str x) (.ty "list")=some false:=rfl
theorem isV_tl {H:Hp}{q:Addr}{xs:List V}(h:H q=some (.tup xs)):isV H (.ref q) (.ty "list")=some false:=by
 have e:tyN H (.ref q)=some "tuple":=by unfold tyN;dsimp only;rw[h]
 unfold isV;rw[e];rfl
theorem MY {H:Hp}{q:Addr}{xs:List V}(h:H q=some (.lst xs)):isV H (.ref q) (.ty "list")=some true:=by
 have e:tyN H (.ref q)=some "list":=by unfold tyN;dsimp only;rw[h]
 unfold isV;rw[e];rfl
theorem IW {f:Addr}{fd:FuncData}(F:gU K "_law_spoil" "_law_spoil" eE f fd)(T:Txt mg):cA P w K mg base a0 1 f fd kL w6:=by
 refine F.ok mF (fun vs H Q E h=>?_) (fun cdv A outer s H vs Q E hr h=>?_)
 ·obtain⟨c,G,fx,sm,os,fs,j,rfl,_⟩:=h;rfl
 ·obtain⟨c,G,fx,sm,os,fs,j,rfl,hc,sG,rep,nd,l20,fok,q⟩:=h;have hu:=hr.units
  refine⟨_,(aF (eI PassesOwn.never rfl (dM K rfl (cC (DG rfl) rfl T.n_list rfl (aA (pv 0) aC))) (bQ (i:=1) mF.nd rfl (Or.inl rfl)) (aG (bK (aX K rfl (aK aL rfl T.n_isinstance rfl (aA (n5 (Nat.lt_of_le_of_lt (Nat.add_le_add_left (by decide) _) hu) (pv 0) (pv 1) (fun _ _=>rfl)) (aA (bU (v:=V.ty "list") rfl T.n_list rfl rfl) aC))) (fun _=>rfl)) (aF (cJ (jC PySem.F.plainAttrs_list PySem.F.slot_list_append PySem.F.type_list_append fF (n5 (Nat.lt_of_le_of_lt (Nat.add_le_add_left (by decide) _) hu) (pv 0) (pv 1) (fun _ _=>rfl)) (aA gM aC)))
   (aG (cJ (pF PySem.F.plainAttrs_list PySem.F.slot_list_reverse PySem.F.type_list_reverse CM (n5 (Nat.lt_of_le_of_lt (Nat.add_le_add_left (by decide) _) hu) (pv 0) (pv 1) (fun _ _=>rfl)))))) aU)))
   (aG (cJ (pF PySem.F.plainAttrs_dict PySem.F.slot_dict_clear PySem.F.type_dict_clear vL (pv 0))))),?_⟩
  clear hr F T hu;simp only[nI];have kl:=sX rep;have knd:(j.map (·.1)).Nodup:=by
   rw[pO rep];unfold kd;rw[List.map_map];have e2:fs.map ((fun x:bG×D=>x.1) ∘ fun p:Str×D=>((Sum.inr p.1:bG),p.2))=(fs.map (·.1)).map Sum.inr:=by rw[List.map_map];rfl
   rw[e2];exact CK (fun x y e=>Sum.inr.inj e) nd
  refine⟨_,rfl,c,j,rfl,hc,fun L hL=>?_⟩;have s1:aH H (upd H L (.lst (j.map fun p=>kV p.1))):=aH.upd hL;have L1:upd H L (.lst (j.map fun p=>kV p.1)) L=some (.lst (j.map fun p=>kV p.1)):=upd_same;generalize upd H L (.lst (j.map fun p=>kV p.1))=H1 at s1 L1⊢;have gL:G L=none:=sG.free hL;have ncL:c≠L:=aE hc hL;refine⟨L,_,rfl,.inl L1,fun J hJ=>?_⟩;refine jF hJ (R8 c L G j H1) ⟨⟨_,rfl⟩,s1 _ _ hc,L1,fun b u _ _ e=>e,fun p hp=>?_⟩ (fun i σ H' _ h=>by rw[L1];exact h.hL) ?_ ?_
  ·obtain⟨i,hi⟩:=List.getElem?_of_mem hp;obtain⟨x,d,hf,_,rd⟩:=pR rep hi;obtain⟨tm,lv⟩:=fok _ (List.mem_of_getElem? hf);exact OO (sG.trans s1) rd tm lv
  ·rintro i v σ H2 hv ⟨⟨o1,rfl⟩,B,U,N,I⟩;rw[List.getElem?_map]at hv;obtain⟨⟨k,u⟩,hk,rfl⟩:=Option.map_eq_some_iff.mp hv;obtain⟨x,d,hf,rfl,rd⟩:=pR rep hk;have hval:=BN knd hk;have get:∀{H3:Hp},H3 c=some (.dK j)->jY H3 c (.str x) (some u):=fun {H3} e=>.inl ⟨j,Sum.inr x,.inl e,rfl,hval.symm⟩;have il:=(List.getElem?_eq_some_iff.mp hk).1;have mono:∀{H3:Hp} {n:Nat} {v:V},NN G H3 n v->NN G H3 (n+1) v:=fun h=>h.imp id fun h=>h.imp id fun⟨q,xs,e,g,z,l⟩=>⟨q,xs,e,g,z,Nat.le_succ_of_le l⟩
   refine⟨_,rfl,_,rfl,c,u,rfl,get B,?_⟩;rcases I _ (List.mem_of_getElem? hk)with⟨y,e⟩|⟨q0,xs,e,S⟩|⟨q0,xs,e,gq,S,lx⟩
   ·cases (show u = .str y from e);refine⟨_,_,false,rfl,P9,false,rfl,⟨_,rfl⟩,B,U,N,fun p hp=>mono (I p hp)⟩
   ·cases (show u = .ref q0 from e);refine⟨_,_,false,rfl,isV_tl S,false,rfl,⟨_,rfl⟩,B,U,N,fun p hp=>mono (I p hp)⟩
   ·cases (show u = .ref q0 from e);refine⟨_,_,true,rfl,MY S,true,rfl,?_⟩;have nqc:q0≠c:=fun z=>by rw[z,B]at S;cases S
    have nqL:q0≠L:=fun z=>gq (by rw[z];exact gL);refine⟨_,rfl,_,rfl,c,_,rfl,get B,tyL S,q0,xs,_,rfl,rfl,S,Nat.lt_of_le_of_lt (m:=200) (by omega) (by decide),?_⟩;have hq3:upd H2 q0 (.lst (xs++[.str "?zz"])) q0=some (.lst (xs++[.str "?zz"])):=upd_same;have hc3:upd H2 q0 (.lst (xs++[.str "?zz"])) c=some (.dK j):=by rw[aB nqc.symm];exact B
    refine⟨_,rfl,_,rfl,c,_,rfl,get hc3,tyL hq3,q0,_,rfl,rfl,hq3,⟨_,rfl⟩,?_,?_,?_,fun p hp=>?_⟩
    ·rw[aB nqc.symm];exact hc3
    ·rw[aB nqL.symm,aB nqL.symm];exact U
    ·intro b u nb Z e;have e2:=N b u nb Z e;have nbq:b≠q0:=fun z=>by
      rcases Z with Z|Z
      ·exact gq (by rw[←z];exact Z)
      ·rw[z,S]at e2;cases e2;exact Z _ rfl
     rw[aB nbq,aB nbq];exact e2
    ·rcases I p hp with h|⟨q1,ys,e1,h1⟩|⟨q1,ys,e1,g1,h1,l1⟩
     ·exact .inl h
     ·refine .inr (.inl ⟨q1,ys,e1,?_⟩);have n1:q1≠q0:=fun z=>by rw[z,S]at h1;cases h1
      rw[aB n1,aB n1];exact h1
     ·by_cases z:q1=q0
      ·refine .inr (.inr ⟨q0,_,z ▸ e1,gq,upd_same,?_⟩);rw[List.length_reverse,List.length_append,List.length_singleton];omega
      ·refine .inr (.inr ⟨q1,ys,e1,g1,?_,by omega⟩);rw[aB z,aB z];exact h1
  ·rintro σ H2 ⟨⟨o1,rfl⟩,B,U,N,I⟩;refine⟨_,rfl,.inr (.inr (.inl ⟨rfl,.inl ⟨j,B⟩⟩)),c,j,rfl,rfl,B,q _ fun b u nb Z e=>?_⟩;rw[aB nb];exact N b u nb Z (s1 _ _ e)
end
section
variable {P:Program}{w:World}{K:PySem.W.Frag}{mg:fM}{base:Heap}
mutual
theorem HQ {L:cL}{sm:bM}{os:aW}:∀{d:D},bN L sm os d->nds d<=lvs d * (depD d+1)
 | .str x,_=>by
  have S:lvs (.str x)=1:=by rw[lvs] <;> simp
  have N:nds (.str x)=1:=by unfold nds;rfl
  rw[S,N];omega
 | .tup (.str n::ds),h=>by
  have q:=BR h;unfold bN at h;have I:=wT h.2;rw[lvs]at q;rw[lvs,nds,depD,depDs];show 1+ndss ds<=lvss ds * (max (depD (D.str n)) (depDs ds)+2);have j:depDs ds<=max (depD (D.str n)) (depDs ds):=Nat.le_max_right _ _;have G:=Nat.mul_le_mul_left (lvss ds) (Nat.add_le_add_right j 2);have B:lvss ds * (depDs ds+2)=lvss ds * (depDs ds+1)+lvss ds:=by rw[show depDs ds+2=(depDs ds+1)+1 from rfl,Nat.mul_succ]
  omega
 | .lst (.str n::ds),h=>by
  have q:=BR h;unfold bN at h;have I:=wT h.2;rw[lvs]at q;rw[lvs,nds,depD,depDs];show 1+ndss ds<=lvss ds * (max (depD (D.str n)) (depDs ds)+2);have j:depDs ds<=max (depD (D.str n)) (depDs ds):=Nat.le_max_right _ _;have G:=Nat.mul_le_mul_left (lvss ds) (Nat.add_le_add_right j 2);have B:lvss ds * (depDs ds+2)=lvss ds * (depDs ds+1)+lvss ds:=by rw[show depDs ds+2=(depDs ds+1)+1 from rfl,Nat.mul_succ]
  omega
theorem wT {j:cL}{sm:bM}{os:aW}:∀{ds:List D},IsTms j sm os ds->ndss ds<=lvss ds * (depDs ds+1)
 | [],_=>by rw[ndss];omega
 | d::ds,h=>by have B:=HQ h.1;have q:=wT h.2;rw[ndss,lvss,depDs,Nat.add_mul];have I:=Nat.mul_le_mul_left (lvs d) (Nat.add_le_add_right (Nat.le_max_left (depD d) (depDs ds)) 1);have G:=Nat.mul_le_mul_left (lvss ds) (Nat.add_le_add_right (Nat.le_max_right (depD d) (depDs ds)) 1);omega
end
theorem N1 {j:cL}{sm:bM}{os:aW}{d:D}(tm:bN j sm os d)(l:lvs d<=7)(dp:depD d<=8):nds d<=63:=Nat.le_trans (HQ tm) (Nat.mul_le_mul l (Nat.add_le_add_right dp 1))
theorem QW {j:cL}{sm:bM}{os:aW}{d:D}(so:bW j sm)(ho:∀x∈os,cF x)(tm:bN j sm os d)(l:lvs d<=7)(dp:depD d<=8):Q8 j sm os d :=
 ⟨so,ho,tm,by omega,by have:=N1 tm l dp;omega,by omega⟩
theorem vB {q:cL}{sm:bM}{os:aW}{fs:List (Str×D)}(so:bW q sm)(ho:∀x∈os,cF x)(nd:(fs.map (·.1)).Nodup)(ln:fs.length<=12)(s:oH q sm os fs):RY q sm os fs :=
 ⟨nd,fun p j=>⟨ho _ (s p j).1,QW so ho (s p j).2.1 (s p j).2.2.1 (s p j).2.2.2⟩,by omega⟩
theorem sQ {sm:bM}{fs:List (Str×D)}:∀p∈look sm fs,∃q∈fs,p=(q.1,flt sm q.2):=fun p B=>by obtain⟨q,j,e⟩:=List.mem_map.mp (List.mem_filter.mp B).1;exact⟨q,j,e.symm⟩
theorem CY {j:cL}{sm:bM}{os:aW}{fs:List (Str×D)}(so:bW j sm)(ho:∀x∈os,cF x)(s:oH j sm os fs):oH j sm os (look sm fs):=fun p I=>by obtain⟨q,G,rfl⟩:=sQ p I;obtain⟨L,B,S,N⟩:=s q G;have tf:=J1 so ho B;have:=(rQ so ho tf).2;have:=(rQ so ho B).2;have:=J3 sm q.2;have:=rF sm q.2;exact⟨L,tf,by show lvs (flt sm q.2)<=7;omega,by show depD (flt sm q.2)<=8;omega⟩
theorem GB {sm:bM}{fs:List (Str×D)}(nd:(fs.map (·.1)).Nodup)(ln:fs.length<=12):((look sm fs).map (·.1)).Nodup/\(look sm fs).length<=12:=by have j:(look sm fs).Sublist (flatF sm fs):=List.filter_sublist;refine⟨?_,Nat.le_trans j.length_le (by unfold flatF;rw[List.length_map];exact ln)⟩;have:=j.map (·.1);rw[tI]at this;exact nd.sublist this
theorem GA {j:cL}{sm:bM}{os:aW}{fs:List (Str×D)}(so:bW j sm)(ho:∀x∈os,cF x)(s:oH j sm os fs):look sm (look sm fs)=look sm fs:=by
 have e:flatF sm (look sm fs)=look sm fs:=by
  unfold flatF
  conv=>rhs;rw[←List.map_id (look sm fs)]
  refine List.map_congr_left fun p G=>?_;obtain⟨q,B,rfl⟩:=sQ p G;show(q.1,flt sm (flt sm q.2))=(q.1,flt sm q.2);rw[M9 so ho (s q B).2.1]
 unfold look at *;rw[e];unfold idle;rw[List.filter_filter];simp
theorem rW {I:cL}{sm:bM}{os:aW}:∀{fs:List (Str×D)},bW I sm->(∀x∈os,cF x)->oH I sm os fs->Q7 (kd fs)/\PyData.leavesShortKv 13 (kvPd (kd fs))=true/\PyData.weightKv (kvPd (kd fs))<=2000 * fs.length
 | [],_,_,_=>⟨fun p j=>(nomatch j),rfl,Nat.zero_le _⟩
 | (x,d)::fs,so,ho,s=>by
  obtain⟨a,b,c⟩:=rW (fs:=fs) so ho fun p j=>s p (List.mem_cons_of_mem _ j);obtain⟨U,G,S,B⟩:=s (x,d) List.mem_cons_self;have h4':depD d<=8:=B;obtain⟨t1,N,t3⟩:=wU so ho G;obtain⟨u1,q,L⟩:=wU so ho (d:=.str x) (by unfold bN;exact .inl U);have n1:nds d<=63:=N1 G S B;have n2:nds (.str x)=1:=by unfold nds;rfl
  have t3':(pdOf d).weight+1<=30 * nds d:=t3;have e:kvPd (kd ((x,d)::fs))=(.str x,pdOf d)::kvPd (kd fs):=rfl;have Z:pdOf (.str x) = .str x:=by unfold pdOf;rfl
  rw[Z]at q L;refine⟨fun p j=>?_,?_,?_⟩
  ·rcases List.mem_cons.mp j with z|z
   ·subst z;exact⟨⟨x,rfl⟩,t1,by show depD d<=50;omega⟩
   ·exact a p z
  ·rw[e,PyData.leavesShortKv,q,b]
   simpa using N
  ·rw[e,PyData.weightKv,List.length_cons];omega
theorem FD {q:cL}{sm:bM}{os:aW}{fs:List (Str×D)}(so:bW q sm)(ho:∀x∈os,cF x)(s:oH q sm os fs)(ln:fs.length<=12):(mT (kd fs)).length<=sizeLine:=by obtain⟨_,b,c⟩:=rW so ho s;have j:=PyData.shown_le 13 (by decide) (.dict (kvPd (kd fs))) (by rw[PyData.leavesShort];exact b);rw[PyData.shown,PyData.weight]at j;unfold mT;exact Nat.le_trans j (Nat.le_trans (m:=15 * 30000+13) (by omega) (by decide))
structure Ak (K:PySem.W.Frag)(C Pt g c:Addr)(fx:cL)(sm:bM)(fs:List (Str×D))(kvs:List (bG×V))(H:Hp):Prop where
 sg:iK K C fx sm (del H c) g
 hc:H c=some (.dK kvs)
 rep:cP H (kd fs) kvs
 lt:LT Pt H
theorem Ak.but {C Pt g c:Addr}{q:cL}{sm:bM}{fs:List (Str×D)}{j:List (bG×V)}{H H':Hp}(h:Ak K C Pt g c q sm fs j H)(b:bT Pt H H')(l:LT Pt H'):Ak K C Pt g c q sm fs j H':=by
 have n:c≠Pt:=h.lt.ne h.hc fun _=>by simp
 refine⟨(h.lt.butD (fun x u n z=>eZ z n) h.hc).sg (fun x u n z=>?_) h.sg,b _ _ n h.hc,h.lt.krep b h.rep,l⟩;obtain⟨G,B⟩:=dZ z;exact eZ (b x u n G) B
theorem Ak.same {C Pt g c:Addr}{q:cL}{sm:bM}{fs:List (Str×D)}{j:List (bG×V)}{H H':Hp}(h:Ak K C Pt g c q sm fs j H)(s:aH H H'):Ak K C Pt g c q sm fs j H':=h.but s.but (h.lt.same s)
structure Td (ds:List (bG×D))(l:Addr)(kvs:List (bG×V))(H:Hp):Prop where
 at_:H l=some (.dK kvs)
 rep:cP H ds kvs
theorem Td.but {Pt l:Addr}{ds:List (bG×D)}{j:List (bG×V)}{H H':Hp}(h:Td ds l j H)(lt:LT Pt H)(b:bT Pt H H'):Td ds l j H':=⟨b _ _ (lt.ne h.at_ fun _=>by simp) h.at_,lt.krep b h.rep⟩
noncomputable def spAsk (K:PySem.W.Frag)(C Pt:Addr):Sp:=fun vs H Q _=>∃(g t c a b:Addr) (G:Hp) (fx:cL) (sm:bM) (os:aW) (sv:List V) (fs:List (Str×D)) (kvs:List (bG×V)),vs=[.ref g,.ref t,.ref c]/\Ak K C Pt g c fx sm fs kvs H /\
 H t=some (.tup [.ref a,.ref b])/\H b=some (.lst sv)/\d9 H sm sv/\bW fx sm/\(∀x∈os,cF x)/\aH G H/\G Pt=none/\cP G (kd fs) kvs/\(fs.map (·.1)).Nodup/\fs.length<=12/\oH fx sm os fs /\
 ∀H',(∀x u,x≠c->x≠Pt->(G x=none∨∀xs,u≠.lst xs)->H x=some u->H' x=some u)->LT Pt H'->Q (.bl true) H'
theorem vS {H H':Hp}(ts:bC H H'){ds:List (bG×D)}{j:List (bG×V)}(f:∀d∈ds,Fl d.2)(h:cP H ds j):cP H' ds j:=by
 unfold cP at *
 induction h with
 | nil=>exact .nil
 | cons a _ q=>exact .cons ⟨a.1,bD.tups ts (f _ List.mem_cons_self) a.2⟩ (q fun d hd=>f d (List.mem_cons_of_mem _ hd))
theorem PR {f C Pt:Addr}{fd:FuncData}(F:gU K "_law_is_told" "_law_is_told" dI f fd)(T:Txt mg)(O__law_looked:cK P w K mg base a0 15 "_law_looked" xF)(O_looked_over:cK P w K mg base a0 10 "looked_over" (nN K C Pt))(O__law_spoil:cK P w K mg base a0 1 "_law_spoil" w6):uH P w K mg base a0 16 f fd iX (spAsk K C Pt):=by
 refine gU.okG F eL (fun vs H Q E h=>?_) (fun cdv A outer s H vs Q E hG hr h=>?_)
 ·obtain⟨g,t,c,a,b,G,fx,sm,os,sv,fs,N,rfl,_⟩:=h;rfl
 ·obtain⟨g,t,c,a,b,G,fx,sm,os,sv,fs,N,rfl,ak,ht,hb,rs,so,ho,sG,gP,repG,nd,ln,L,q⟩:=h;have hu:=hr.units
  refine⟨_,(aF (aY (i:=3) eL.nd rfl (Or.inl rfl) (aM O__law_looked (hr.mono (by decide)) pass0 rfl (aA (pv 1) (aA (pv 2) aC))))
   (aF (aY (i:=4) eL.nd rfl (Or.inl rfl) (aK (tQ hG hu) rfl T.n_repr rfl (aA (pv 2) aC)))
   (aF (aY (i:=5) eL.nd rfl (Or.inl rfl) (aM O_looked_over (hr.mono (by decide)) pass0 rfl (aA (pv 0) (aA (pv 2) aC))))
   (aF (aY (i:=6) eL.nd rfl (Or.inl rfl) (aM O_looked_over (hr.mono (by decide)) pass0 rfl (aA (pv 0) (aA (pv 5) aC))))
   (aF (bK (PW.pt (iU (dC (aX K rfl (aK aL rfl T.n_isinstance rfl (aA (pv 5) (aA (bU (v:=V.ty "dict") rfl T.n_dict rfl rfl) aC))) (fun _=>rfl))) (iU (aV (rB hu) (pv 5) (pv 3) (nomark _)) (iU (aV (rB hu) (pv 6) (pv 3) (nomark _)) (h8 (aV (fJ hu) (aK (tQ hG hu) rfl T.n_repr rfl (aA (pv 2) aC)) (pv 4) (nomark _))))))) (aG (aQ qH)) aU)
   (aF (cJ (pF PySem.F.plainAttrs_dict PySem.F.slot_dict_clear PySem.F.type_dict_clear vL (pv 6)))
   (aF (bK (PW.pt (iU (aV (rB hu) (pv 5) (pv 3) (nomark _)) (h8 (aV (rB hu) (aM O_looked_over (hr.mono (by decide)) pass0 rfl (aA (pv 0) (aA (pv 2) aC))) (pv 3) (nomark _))))) (aG (aQ qH)) aU)
   (aF (cJ (aM O__law_spoil (hr.mono (by decide)) pass0 rfl (aA (pv 2) aC)))
   (aG (aQ (dY (D5 hu) (pv 5) (pv 3) (nomark _)))))))))))),?_⟩
  clear hr F T hu O__law_looked O_looked_over O__law_spoil hG;have smn:(sm.map (·.1)).Nodup:=(List.nodup_append.mp so.nd).2.1;have fil:=vB so ho nd ln L;have sml2:=CY (fs:=fs) so ho L;obtain⟨nd2,ln2⟩:=GB (sm:=sm) nd ln;have fil2:=vB so ho nd2 ln2 sml2;have ll:=GA so ho L;obtain⟨txk,_,_⟩:=rW so ho L;have shk:=FD so ho L ln;have d50:∀d∈kd (look sm fs),depD d.2<=50:=fun d hd=>by obtain⟨p,hp,rfl⟩:=List.mem_map.mp hd;have:depD p.2<=8:=(sml2 p hp).2.2.2;show depD p.2<=50;omega
  have fls:∀d∈kd (look sm fs),Fl d.2:=fun d hd=>by obtain⟨p,hp,rfl⟩:=List.mem_map.mp hd;obtain⟨p',hp',rfl⟩:=sQ p hp;exact ON (fil.ok p' hp').2
  refine⟨_,rfl,_,rfl,t,a,b,c,sm,sv,fs,N,rfl,ht,hb,rs,smn,fV so,so.s2,ak.hc,ak.rep,nd,by omega,fun p hp=>?_,fun l1 j H1 s1 hl1 gl1 r1=>?_⟩
  ·obtain⟨_,h2,h3,h4⟩:=L p hp;have z:=rQ so ho h2;have h3':lvs p.2<=7:=h3;exact⟨z.1,by omega,by have:=z.2;omega⟩
  have B:=ak.same s1;have t1:Td (kd (look sm fs)) l1 j H1:=⟨gl1,r1⟩
  refine⟨_,rfl,c,N,kd fs,rfl,B.hc,B.rep,txk,shk,?_⟩;refine⟨_,rfl,_,rfl,g,c,fx,sm,os,fs,N,rfl,B.sg,B.hc,B.rep,fil,B.lt,fun l2 I H2 b2 Z hl2 gl2 r2=>?_⟩;have ak2:=B.but b2 Z;have t1_2:=t1.but B.lt b2;have t2:Td (kd (look sm fs)) l2 I H2:=⟨gl2,r2⟩
  have sg2:iK K C fx sm (del H2 l2) g:=B.lt.sg (fun x u n z=>eZ (b2 x u n z) (aE z hl2)) (B.sg.same (tN _ _));refine⟨_,rfl,_,rfl,g,l2,fx,sm,os,look sm fs,I,rfl,sg2,t2.at_,t2.rep,fil2,Z,fun l3 kvs3 H3 b3 lt3 hl3 gl3 r3=>?_⟩;rw[ll]at r3;have ak3:=ak2.but b3 lt3;have U:=t1_2.but Z b3;have t2_3:=t2.but Z b3;refine⟨_,rfl,_,_,true,rfl,JV t2_3.at_,true,rfl,?_⟩;refine⟨_,rfl,_,rfl,l2,l1,I,j,_,rfl,rfl,t2_3.at_,U.at_,t2_3.rep,U.rep,d50,_,rfl,?_⟩;refine⟨_,rfl,_,rfl,l3,l1,kvs3,j,_,rfl,rfl,gl3,U.at_,r3,U.rep,d50,_,rfl,?_⟩;refine⟨_,rfl,c,N,kd fs,rfl,ak3.hc,ak3.rep,txk,shk,_,rfl,.str (mT (kd fs)),.str (mT (kd fs)),rfl,rfl,Nat.zero_le _,_,rfl,lF (fun k=>?_) fun _=>?_⟩
  ·rw[hX]at k;cases k
  refine⟨_,rfl,.inr (.inr (.inl ⟨rfl,.inl ⟨kvs3,gl3⟩⟩)),l3,kvs3,rfl,rfl,gl3,?_⟩;have b24:bT Pt H2 (upd H3 l3 (.dK [])):=fun x u n z=>by rw[aB (aE z hl3)];exact b3 x u n z
  have lt4:LT Pt (upd H3 l3 (.dK [])):=lt3.butD (bT.upd _ _ _) gl3;generalize upd H3 l3 (.dK [])=H4 at b24 lt4⊢;have ak4:=ak2.but b24 lt4;have t1_4:=t1_2.but Z b24;have t2_4:=t2.but Z b24;refine⟨_,rfl,_,rfl,l2,l1,I,j,_,rfl,rfl,t2_4.at_,t1_4.at_,t2_4.rep,t1_4.rep,d50,_,rfl,?_⟩;refine⟨_,rfl,_,rfl,g,c,fx,sm,os,fs,N,rfl,ak4.sg,ak4.hc,ak4.rep,fil,ak4.lt,fun l5 kvs5 H5 b5 lt5 hl5 gl5 r5=>?_⟩;have ak5:=ak4.but b5 lt5;have S:=t1_4.but lt4 b5;have t2_5:=t2_4.but lt4 b5;refine⟨_,rfl,l5,l1,kvs5,j,_,rfl,rfl,gl5,S.at_,r5,S.rep,d50,_,rfl,?_⟩;have bA:bT Pt H H5:=fun x u n z=>b5 x u n (b24 x u n (b2 x u n (s1 _ _ z)));have sG5:aH G H5:=fun x u z=>bA x u (fun e=>by rw[e,gP]at z;cases z) (sG _ _ z);refine⟨_,rfl,c,G,fx,sm,os,fs,N,rfl,ak5.hc,sG5,repG,nd,by omega,fun p hp=>⟨(L p hp).2.1,Nat.le_trans (L p hp).2.2.1 (by decide)⟩,fun H6 sp=>?_⟩;have keep:∀{x:Addr} {u:HO},H5 x=some u->(∀ys,u≠.dK ys)->(∀xs,u≠.lst xs)->H6 x=some u:=fun {x u} e n1 n2=>sp x u (fun z=>by rw[z,ak5.hc]at e;cases e;exact n1 _ rfl) (.inr n2) e;have ts:bC H5 H6:=fun x xs e=>keep e (fun _=>by simp) fun _=>by simp
  have nl2:l2≠c:=fun z=>by rw[z,B.hc]at hl2;cases hl2
  have nl1:l1≠c:=fun z=>by rw[z,ak.hc]at hl1;cases hl1
  have a2:H6 l2=some (.dK I):=sp _ _ nl2 (.inr fun _=>by simp) t2_5.at_;have a1:H6 l1=some (.dK j):=sp _ _ nl1 (.inr fun _=>by simp) S.at_;refine⟨_,rfl,_,rfl,l2,l1,I,j,_,rfl,rfl,a2,a1,vS ts fls t2_5.rep,vS ts fls S.rep,d50,?_⟩;refine q H6 (fun x u n1 n2 ob z=>sp x u n1 ob (bA x u n2 z)) ?_;rcases lt5 with z|⟨c',oc',vsc,tq,z1,z2,z3⟩
  ·exact .inl (keep z (fun _=>by simp) fun _=>by simp)
  ·exact .inr ⟨c',oc',vsc,tq,keep z1 (fun _=>by simp) (fun _=>by simp),keep z2 (fun _=>by simp) (fun _=>by simp),z3⟩
end
end Lw
namespace L2
open PySem PySem.Spec PyProof.Rows
noncomputable def QK (P:Program)(w:World)(K:PySem.W.Frag)(mg:fM)(base:Heap)(CX:zB)(k:Nat)(x:Str)(sp:Sp):Prop :=
 ∃f j ps,uH P w K mg base CX k f j ps sp/\mg x=some (.ref f)/\PySem.W.keepIn K (.ref f)=true/\fN K j ps []
section
variable {X:Cx}{CX:zB}{k:Nat}{sp:Sp}{E:XK}{x:Str}{p pos:Pos}{e:Expr}{es:kU}{t:TA}
theorem LR (O:QK X.prog X.w X.K X.mg X.base CX k x sp)(hG:X.A.guards=some [])(hr:eK k X.A)(hx:jO CX X E)(hg:Gl X x)(ha:PA X (e::es) t)(S:(x == ("__debug__" : Str))=false:=by decide)
  (he:starEach (e::es) X.env=(false,eval e X.env)::starEach es X.env:=by rfl) (N:(backTo pos (starEach es X.env)).any (·.1)=false:=by rfl):PE X (.Call (.Name x p) (e::es) [] pos) (tCall sp [] E t):=by
 obtain⟨f,fd,ps,F,hm,hk,hb⟩:=O;intro j s σ H Q I h;refine wpAny_Call_Name_kw (n9 I hg hm ?_ S);refine PySem.W.callWith_K (h₀:=X.base) I.ok.mod.kin hk (thn (ha pos j s σ H _ I h) fun us L ⟨vs,U,G,r,q⟩=>⟨G.kIn,?_⟩) he N;have hl:(us++[]).length=ps.length:=by rw[List.append_nil,←r.length,←List.append_nil vs];exact F.len _ _ _ _ q
 have r2:aR (vs++[]) (us++[]):=r.append .nil;refine wpAny_call (codeAny_mono (F.run X.A X.stack L U ⟨us,[]⟩ (us++[]) (vs++[]) Q E hG hr G.env0 (hb L us G.kIn hl) r2 q) fun r Z B=>?_);cases r with
 | error e=>exact hx j σ U L e Z G B
 | ok fl =>
  cases fl with
  | ret u=>exact G.after B
  | next=>exact False.elim B
  | brk=>exact False.elim B
  | cont=>exact False.elim B
end
end L2
namespace Lw
open PySem L2
section
variable {P:Program}{w:World}{K:PySem.W.Frag}{mg:fM}{base:Heap}
structure Bs (K:PySem.W.Frag)(C g t o:Addr)(fx:cL)(sm:bM)(os:aW)(H:Hp):Prop where
 sg:iK K C fx sm H g
 ex:∃a b fv sv,H t=some (.tup [.ref a,.ref b])/\H a=some (.lst fv)/\H b=some (.lst sv)/\dX H fx fv/\d9 H sm sv
 so:bW fx sm
 ol:H o=some (.lst (os.map V.str))
 o1:1<=os.length
 o2:os.length<=12
 ho:∀x∈os,cF x
theorem Bs.lt {C g t o Pt:Addr}{j:cL}{sm:bM}{os:aW}{H H':Hp}(h:Bs K C g t o j sm os H)(l:LT Pt H)(b:bT Pt H H'):Bs K C g t o j sm os H':=by
 obtain⟨sg,⟨a,U,I,q,S,N,L,G,B⟩,so,ol,o1,o2,ho⟩:=h;have ne:∀{c:Addr} {u:HO},H c=some u->(∀ps,u≠.tbl ps)->H' c=some u:=fun {c u} e n=>b c u (l.ne e n) e;have ts:bC H H':=fun c xs e=>ne e fun _=>by simp
 exact⟨l.sg b sg,⟨a,U,I,q,ts _ _ S,ne N fun _=>by simp,ne L fun _=>by simp,G.same ts,B.same ts⟩,so,ne ol fun _=>by simp,o1,o2,ho⟩
theorem Bs.same {C g t o:Addr}{j:cL}{sm:bM}{os:aW}{H H':Hp}(h:Bs K C g t o j sm os H)(s:aH H H'):Bs K C g t o j sm os H':=by obtain⟨sg,⟨a,U,I,q,S,N,L,G,B⟩,so,ol,o1,o2,ho⟩:=h;exact⟨sg.same s,⟨a,U,I,q,s _ _ S,s _ _ N,s _ _ L,G.same (bC.of s),B.same (bC.of s)⟩,so,s _ _ ol,o1,o2,ho⟩
theorem K7 {H H':Hp}{a p:Addr}{xs:List V}(h:fA K H a xs)(b:bT p H H')(n:∀o,H p≠some (.frz o (.lst xs)))(n2:H p≠some (.lst xs)):fA K H' a xs:=by
 rcases h with(h|⟨o,h⟩)|h
 ·exact .inl (.inl (b _ _ (fun z=>n2 (z ▸ h)) h))
 ·exact .inl (.inr ⟨o,b _ _ (fun z=>n o (z ▸ h)) h⟩)
 ·exact .inr h
noncomputable def spLaw (K:PySem.W.Frag)(Pt:Addr):Sp:=fun vs H Q _=>∃(a:Addr) (ns:List Int),vs=[.ref a]/\fA K H a (ns.map V.int)/\(∀xs,H a≠some (.lst xs))/\ns.length<=63/\LT Pt H/\∀H',Q (.bl true) H'
noncomputable def RP (a g t o Pt:Addr)(Hb:Hp)(_:Nat)(σ:St)(H:Hp):Prop:=∃o1 j:Option V,σ=[some (.ref a),o1,some (.ref t),some (.ref g),some (.ref o),j]/\bT Pt Hb H/\LT Pt H
theorem PP {f C Pt:Addr}{fd:FuncData}(F:gU K "law" "law" mH f fd)(T:Txt mg)(O__law_pot:cK P w K mg base a0 2 "_law_pot" (spPot K))(O__law_signs:cK P w K mg base a0 3 "_law_signs" w8)(MK_Signs:QL P w K mg base a0 3 "Signs" C (BZ K C))(O__law_more:cK P w K mg base a0 3 "_law_more" xE)
  (O__law_filling:cK P w K mg base a0 13 "_law_filling" pA) (O__law_is_told:QK P w K mg base a0 16 "_law_is_told" (spAsk K C Pt)) (O_looked_over:cK P w K mg base a0 10 "looked_over" (nN K C Pt)):uH P w K mg base a0 17 f fd N6 (spLaw K Pt):=by
 refine gU.okG F pC (fun vs H Q E h=>?_) (fun cdv A outer s H vs Q E hG N h=>?_)
 ·obtain⟨a,ns,rfl,_⟩:=h;rfl
 ·obtain⟨a,ns,rfl,hs,na,n63,lt,q⟩:=h;have hu:=N.units
  refine⟨_,(aF (aY (i:=1) pC.nd rfl (Or.inl rfl) (aM O__law_pot (N.mono (by decide)) pass0 rfl (aA (pv 0) (aA aJ aC))))
   (aF (aY (i:=2) pC.nd rfl (Or.inl rfl) (aM O__law_signs (N.mono (by decide)) pass0 rfl (aA (pv 1) aC)))
   (aF (aY (i:=3) pC.nd rfl (Or.inl rfl) (QY MK_Signs (N.mono (by decide)) pass0 rfl (aA (bP dN (pv 2) aJ (fun _ _=>rfl)) (aA (bP dN (pv 2) aJ (fun _ _=>rfl)) aC))))
   (aF (aY (i:=4) pC.nd rfl (Or.inl rfl) (aM O__law_more (N.mono (by decide)) pass0 rfl (aA (pv 1) aC)))
   (aF (eI PassesOwn.never rfl (fZ rfl T.n_range (aA (aK (G0 rfl) rfl T.n_max rfl (aA aJ (aA (aK (wK rfl) rfl T.n_min rfl (aA aJ (aA (aK kH rfl T.n_len rfl (aA (pv 0) aC)) aC))) aC))) aC)) (bQ (i:=5) pC.nd rfl (Or.inl rfl)) (aG (bK (dC (aX K rfl (LR O__law_is_told hG (N.mono (by decide)) pass0 rfl (aA (pv 3) (aA (pv 2) (aA (aM O__law_filling (N.mono (by decide)) pass0 rfl (aA (aM O__law_pot (N.mono (by decide)) pass0 rfl (aA (pv 0) (aA (pv 5) aC))) (aA (pv 2) (aA (pv 4) aC)))) aC)))) (fun _=>rfl))) (aG (aQ qH)) aU)))
   (aG (aQ (dY (D5 hu) (aM O_looked_over (N.mono (by decide)) pass0 rfl (aA (pv 3) (@D4 _ _ _ _ aC))) nY (nomark _))))))))),?_⟩
  clear N F T hu O__law_pot O__law_signs MK_Signs O__law_more O__law_filling O__law_is_told O_looked_over hG;simp only[nI];refine⟨_,rfl,a,0,ns,rfl,hs,by omega,by omega,fun p x y L=>?_⟩;have s1:aH H (upd H p (.lst [.int x,.int y])):=aH.upd L;refine⟨_,rfl,p,rfl,⟨x,y,upd_same⟩,fun t a1 a2 fx sm fv sv H2 b2 p2 ht ha hb rf rs so na1 nb1=>?_⟩;refine⟨_,rfl,.ref a1,by rw[ixV_t ht];rfl,_,rfl,.ref a2,by rw[ixV_t ht];rfl,fun g dx hg hdx ng=>?_⟩;have s2:aH H2 (upd (upd H2 dx (.own g)) g (.ins C dx [])):=(aH.upd hdx).trans (aH.upd (by rw[aB (Ne.symm ng)];exact hg));refine⟨g,dx,a1,a2,fx,sm,fv,sv,rfl,upd_same,s2 _ _ ha,s2 _ _ hb,rf.same (bC.of s2),rs.same (bC.of s2),so,fun H3 b3 sg=>⟨rfl,?_⟩⟩;have Z:aH H2 H3:=fun c ob e=>b3 c ob (aE e hg) (s2 _ _ e);have p3:bE H3 p:=by obtain⟨x',y',e⟩:=p2;exact⟨x',y',Z _ _ e⟩
  refine⟨_,rfl,p,rfl,p3,fun o os H6 b6 p6 no ho o1 o2 hw=>?_⟩;have s6:aH H H6:=fun c ob e=>b6 c ob (aE e L) (Z _ _ (b2 c ob (aE e L) (s1 _ _ e)));have ts:=bC.ofBut b6 p3;have bs:Bs K C g t o fx sm os H6:=by
   obtain⟨x',y',ep⟩:=p3;obtain⟨c1,c2,c3,dx',fs,dm,dn,h1,h2,h3,h4,h5,h6,h7⟩:=sg
   exact⟨⟨c1,c2,c3,dx',fs,dm,dn,b6 _ _ (fun z=>by rw[z,ep]at h1;cases h1) h1,h2,h3,h4,h5,b6 _ _ (fun z=>by rw[z,ep]at h6;cases h6) h6,b6 _ _ (fun z=>by rw[z,ep]at h7;cases h7) h7⟩,
    ⟨a1,a2,fv,sv,ts _ _ (Z _ _ ht),b6 _ _ na1 (Z _ _ ha),b6 _ _ nb1 (Z _ _ hb),(rf.same (bC.of Z)).same ts,(rs.same (bC.of Z)).same ts⟩,so,ho,o1,o2,hw⟩
  have U:LT Pt H6:=lt.same s6;have sq6:fA K H6 a (ns.map V.int):=aH.seq s6 hs;clear b6 p6 sg ho o1 o2 hw no rf rs so ts ha hb ht na1 nb1 b2 p2 p3 s1 L s6 hs lt na hg hdx ng Z s2 b3;obtain⟨ps,hps⟩:=U.tbl;have hlen:((ns.map V.int).length:Int)<=63:=by rw[List.length_map];omega
  refine⟨_,rfl,a,_,rfl,.inl sq6,10,_,rfl,4,_,rfl,_,rfl,by split <;> split <;> omega,by split <;> split <;> omega,?_⟩;generalize hm:(if (if ((ns.map V.int).length:Int)<10 then((ns.map V.int).length:Int)else 10) > 4 then(if ((ns.map V.int).length:Int)<10 then((ns.map V.int).length:Int)else 10)else 4)=m;have hm10:m.toNat<=10:=by rw[←hm];split <;> split <;> omega
  clear hm hlen;refine fW (RP a g t o Pt H6) ⟨_,_,rfl,bT.refl _ _,U⟩ ?_ ?_
  ·rintro i σ I hi ⟨o1,o5,rfl,b7,S⟩;have j:=bs.lt U b7;have sq7:fA K I a (ns.map V.int):=K7 sq6 b7 (fun o' z=>by rw[hps]at z;cases z) (fun z=>by rw[hps]at z;cases z);refine⟨_,rfl,_,rfl,_,rfl,_,rfl,a,(0+i:Int),ns,rfl,sq7,by omega,by omega,fun p x y L=>?_⟩;have B:aH I (upd I p (.lst [.int x,.int y])):=aH.upd L;have p8:bE (upd I p (.lst [.int x,.int y])) p:=⟨x,y,upd_same⟩
   generalize upd I p (.lst [.int x,.int y])=H8 at B p8⊢;have bs8:=j.same B;obtain⟨ta,tb,fv,sv,f1,f2,f3,f4,f5⟩:=j.ex;refine⟨_,rfl,_,rfl,p,t,o,fx,sm,os,rfl,⟨p8,⟨ta,tb,fv,sv,B _ _ f1,B _ _ f2,B _ _ f3,f4.same (bC.of B),f5.same (bC.of B),aE f2 L,aE f3 L⟩,⟨B _ _ j.ol,aE j.ol L⟩,j.so,j.o1,j.o2⟩,fun l fs kvs H9 b9 hl gl repN nd ln sml=>?_⟩;have G:aH I H9:=fun c u e=>b9 c u (aE e L) (B _ _ e);have hl7:I l=none:=B.free hl;have sN:aH (nwB l H8 H9) H9:=fun c u e=>(fE.mp e).2;have old:∀{c:Addr} {u:HO},I c=some u->nwB l H8 H9 c=none:=fun {c u} e=>by
    cases z:nwB l H8 H9 c with
    | none=>rfl
    | some v =>
     have z1:=(fE.mp z).1.1;rw[B _ _ e]at z1;cases z1
   have lt9:=S.same G;obtain⟨ps7,hP7⟩:=S.tbl;refine⟨g,t,l,ta,tb,nwB l H8 H9,fx,sm,os,sv,fs,kvs,rfl,⟨j.sg.same (DC hl7 G),gl,repN.same sN,lt9⟩,G _ _ f1,G _ _ f3,f5.same (bC.of G),j.so,j.ho,sN,old hP7,repN,nd,ln,sml,fun H10 k10 lt10=>?_⟩;refine⟨true,rfl,_,_,rfl,fun c u n e=>?_,lt10⟩;have e7:=b7 c u n e;exact k10 c u (aE e7 hl7) n (.inl (old e7)) (G _ _ e7)
  ·rintro σ I ⟨o1,o5,rfl,b7,S⟩;have j:=bs.lt U b7;refine⟨_,rfl,fun e he=>?_⟩;have B:aH I (upd I e (.dK [])):=aH.upd he;have g8:upd I e (.dK []) e=some (.dK []):=upd_same;generalize upd I e (.dK [])=H8 at B g8⊢;refine⟨g,e,fx,sm,os,[],[],rfl,j.sg.same (DC he B),g8,.nil,⟨List.nodup_nil,fun p L=>(nomatch L),Nat.zero_le _⟩,S.same B,fun l kvs' H9 b9 lt9 hl gl r9=>fun e2 he2=>?_⟩;have r9':cP H9 [] kvs':=r9;cases r9';exact⟨l,e2,[],[],[],rfl,rfl,aH.upd he2 _ _ gl,upd_same,.nil,.nil,fun d hd=>(nomatch hd),q _⟩
end
end Lw
namespace Lw
open PySem PySem.Spec PyProof.Rows PySem.W L2
theorem DE {K:Frag}{h:Heap}{x:Str}{c Pt:Addr}(X:K.In h)(j:tabIn K x=some (c,Pt))(C:CodeHd h c Pt):∀h',K.In h'->CodeHd h' c Pt:=by
 have q:∃o,K.lookup c=some o:=by
  unfold tabIn at j;split at j
  ·split at j
   ·split at j
    ·split at j
     ·rename_i c2 _ _ _ _ _ hc;split at j
      ·cases j;exact⟨_,hc⟩
      ·cases j
     ·cases j
    ·cases j
   ·cases j
  ·cases j
 obtain⟨o,q⟩:=q;obtain⟨o',vs,r1,U,S,N,L,I,G,e,r⟩:=C;intro h' Z;have B:=X _ _ q;rw[e]at B;cases B;exact⟨_,vs,r1,U,S,N,L,I,G,Z _ _ q,r⟩
theorem GG {P:Program}{w:World}{K:Frag}{mg mb:fM}{k:Nat}{fa a c Pt:Addr}{fd:FuncData}{x:Str}{sp:Sp}{j:Shared}{vs:bZ}{ns:List Int}
  (KX:K.In j.heap) (hns:j.heap.Ns mainGlobals mg) (B:j.heap.Ns builtinsNs mb) (hbb:∀x:Str,x≠"__name__"->mb x=bootBuiltins x) (hlim:j.heap.NoLimit) (hg:j.gens = #[])
  (ha:j.heap.get? a=some {cls:=.type "list",data:=.seq vs.toArray}) (hi:IntsAre vs ns) (hl:ns.length<=sizeLine) (hr:eK k callerA)
  (hT:CodeHd j.heap c Pt) (Z:j.heap.get? Pt=some (tabObj #[])) (hKP:K.lookup Pt=none) (hB:Bm mg j.heap)
  (F:∀base:Heap,K.In base->base.Ns mainGlobals mg->Bm mg base->uH P w K mg base a0 k fa fd [x] sp) (U:∀(s:Shared) (u:Value),BindsTo s fd ⟨[u],[]⟩ [(x,u)])
  (hsp:∀H:Hp,(∀xs,H a≠some (.lst xs))->H Pt=some (.tbl #[])->fA K H a (ns.map V.int)->sp [.ref a] H (fun v _=>v = .bl true) fun _ _ _=>False) :
  codeAny (model P w) callerA (.call (.ref fa) ⟨[.ref a],[]⟩) (fun r G=>r = .ok (.ret (.bool true))/\OldK j.heap G.heap/\G.os=j.os/\AllBare G.gens) j:=by
 have rv:=uZ hi;have lenV:=hi.length;have S:Pt≠a:=fun z=>by rw[z,ha]at Z;cases Z
 have N:∀H:Hp,H Pt=some (.tbl #[])->(∀b,b≠Pt->H b≠none->b=a/\K.lookup a=none/\∃o xs,H a=some (.frz o (.lst xs)))->fA K H a (ns.map V.int)->gR P w H j.heap ->
   codeAny (model P w) callerA (.call (.ref fa) ⟨[.ref a],[]⟩) (fun r G=>r = .ok (.ret (.bool true))/\OldK j.heap G.heap/\G.os=j.os/\AllBare G.gens) j:=by
  intro H hH hA hS hok;have free:∀{b:Addr} {o:Obj},j.heap.get? b=some o->o≠tabObj #[]->(b=a->K.lookup a=none->False)->H b=none:=fun {b o} e n n2=>by
   cases q:H b with
   | none=>rfl
   | some u =>
    by_cases z:b=Pt
    ·rw[z,Z]at e;exact absurd (Option.some.inj e).symm n
    ·obtain⟨z1,z2,_⟩:=hA b z (by rw[q];simp);exact(n2 z1 z2).elim
  have I:∀{b:Addr} {m:fM},j.heap.Ns b m->(hidT j.heap H).Ns b m:=fun {b m} ⟨o,es,ep,e,d,r⟩=>⟨o,es,ep,tF e (free e (fun z=>by rw[z]at d;cases d) (fun z _=>by rw[z,ha]at e;cases e;cases d)),d,r⟩
  have hKb:K.In (hidT j.heap H):=fun b o e=>tF (KX b o e) (by
   cases q:H b with
   | none=>rfl
   | some u =>
    by_cases z:b=Pt
    ·rw[z,hKP]at e;cases e
    ·obtain⟨z1,z2,_⟩:=hA b z (by rw[q];simp)
     rw[z1,z2]at e;cases e)
  have hM:Mod K mg (hidT j.heap H):=⟨hKb,I hns,⟨mb,I B,hbb⟩,let⟨mc,h1,h2⟩:=hlim;⟨mc,I h1,h2⟩⟩
  have hB':Bm mg (hidT j.heap H):=by obtain⟨bm,o,e1,e2,e3,e4,e5,e6,e7⟩:=hB;exact⟨bm,o,e1,e2,e3,tF e4 (free e4 (fun z=>by rw[z]at e5;cases e5) (fun z _=>by rw[z,ha]at e4;cases e4;cases e7)),e5,e6,e7⟩
  have e0:uS P w K mg (hidT j.heap H) callerA [] j H:=⟨rfl,hM,fun b o e=>MP e,Nat.le_of_eq (GJ _ _),trivial,fun b B=>absurd (show b∈([]:List Addr)from B) (by simp),hok,.of_eq hg⟩
  have nl:∀xs,H a≠some (.lst xs):=fun xs z=>by obtain⟨_,_,o,ys,e⟩:=hA a (Ne.symm S) (by rw[z];simp);rw[z]at e;cases e
  refine codeAny_mono ((F _ hKb (I hns) hB').run callerA [] j H ⟨[.ref a],[]⟩ [.ref a] [.ref a] _ _ rfl hr e0 (U j (.ref a)) (.cons rfl .nil) (hsp H nl hH hS)) fun r G h=>?_;cases r with
  | error e=>exact False.elim h
  | ok fl =>
   cases fl with
   | next=>exact False.elim h
   | brk=>exact False.elim h
   | cont=>exact False.elim h
   | ret u =>
    obtain⟨v,H',os,bare,un,L,r',q⟩:=h;have q':v = .bl true:=q;subst q';obtain rfl:u=Value.bool true:=r';have keep:∀b o,b≠Pt->j.heap.get? b=some o->G.heap.get? b=some o:=fun b o n e=>by
     cases q:H b with
     | none=>exact un.keep b o e q (by intro z;exact absurd (show b∈([]:List Addr)from z) (by simp)) (by simp)
     | some u =>
      obtain⟨rfl,_,ob,xs,z⟩:=hA b n (by rw[q];simp);have z2:=un.frzs b ob _ z;obtain⟨e1,_⟩:=hok b _ z;obtain⟨e2,_⟩:=L b _ z2;rw[e]at e1;cases e1;exact e2
    obtain⟨more,hm⟩:=un.tbls Pt #[] hH;have gP:G.heap.get? Pt=some (tabObj (#[]++more)):=L Pt _ hm;refine⟨rfl,⟨fun b o e=>?_,fun b o e=>?_⟩,os,bare⟩
    ·by_cases z:b=Pt
     ·subst z;rw[Z]at e;cases e;exact .inr (.inl ⟨(hT.tab Z).isCodeTable,rfl,#[],more,rfl,gP⟩)
     ·exact .inl (keep b o z e)
    ·by_cases z:b=Pt
     ·subst z;exact⟨_,gP⟩
     ·exact⟨o,keep b o z e⟩
 cases hk:K.lookup a with
 | some o =>
  have e:=KX a o hk;rw[ha]at e;cases e;refine N (fun b=>if b=Pt then some (.tbl #[])else none) (if_pos rfl) (fun b n z=>absurd (if_neg n) z) (.inr ⟨_,vs.toArray,_,hk,rfl,rfl,rfl,by rw[List.size_toArray,lenV];exact hl,by simpa using rv⟩) fun b u z=>?_;by_cases B:b=Pt
  ·have z':=(if_pos B).symm.trans z;cases z';subst B;exact Z
  ·have z':=(if_neg B).symm.trans z;cases z'
 | none =>
  refine N (fun b=>if b=Pt then some (.tbl #[])else if b=a then some (.frz {cls:=.type "list",data:=.seq vs.toArray} (.lst (ns.map V.int)))else none) (if_pos rfl) (fun b n z=>?_) (.inl (.inr ⟨{cls:=.type "list",data:=.seq vs.toArray},(if_neg (Ne.symm S)).trans (if_pos rfl)⟩)) (fun b u z=>?_)
  ·by_cases B:b=a
   ·exact⟨B,hk,_,_,(if_neg (Ne.symm S)).trans (if_pos rfl)⟩
   ·exact absurd ((if_neg n).trans (if_neg B)) z
  ·by_cases hp:b=Pt
   ·have z':=(if_pos hp).symm.trans z;cases z';subst hp;exact Z
   ·by_cases B:b=a
    ·have z':=((if_neg hp).trans (if_pos B)).symm.trans z;cases z';subst B;exact⟨ha,by rw[List.length_map];exact hl,vs,_,rv,ha⟩
    ·have z':=((if_neg hp).trans (if_neg B)).symm.trans z;cases z'
theorem walkT {l:PySem.W.OpenLaw}{q:Program}{loose:aW}{XP:(fM)->Heap->Prop}{YP:World->Heap->Prop}{d dp:DefRec}{K:Params->PySem.W.Frag}(hn:l.most=some 63)(S:d.params.defaults=[])
  (hY:∀(w:World) (h:Heap),YP w h->(K w.params).In h) (hq:(recsOf q).find? (fun e=>e.name == ("put_in" : Str))=some dp)
  (F:∀(w:World) (mg:fM) (L:Addr) (h:Heap),(K w.params).In h->h.Ns mainGlobals mg->mg d.name=some (.ref L) ->
   ∃(Z:FuncData) (c Pt:Addr),tabIn (K w.params) "put_in" = some (c,Pt)/\(K w.params).lookup Pt=none/\(∀(s:Shared) (u:Value),BindsTo s Z ⟨[u],[]⟩ [("_law_script",u)]) /\
    ∀base:Heap,(K w.params).In base->base.Ns mainGlobals mg->Bm mg base->(∀h,(K w.params).In h->CodeHd h c Pt)->uH l.prog w (K w.params) mg base a0 17 L Z ["_law_script"] (spLaw (K w.params) Pt)) :
  PySem.W.WalkO q loose XP YP l.row.toRowW d [] (fun f vs=>PySem.call f vs):=by
 refine Att.A9 hn S fun w s0 s1 mg mb L o pm cd doc a vs ns G Y ho hd hcd N I B j hg=>?_;have KX:=hY w _ Y;obtain⟨Z,c,Pt,ht,U,hb,hF⟩:=F w mg L _ KX G.T.g N;obtain⟨hC,hP⟩:=tab_of G.T KX hq ht;have hB:Bm mg s1.heap:=by obtain⟨bm,ob,e1,e2,e3,e4,e5,e6⟩:=G.T.bmain;refine⟨bm,ob,e1,e2,fun z=>?_,e3,e4,e5,e6⟩;obtain⟨o',es,ep,g1,g2,_⟩:=G.T.g;rw[z,g1]at e3;cases e3;rw[e6]at g2;cases g2
 exact GG KX G.T.g G.T.b G.T.builtins G.T.nolimit hg I B (Nat.le_trans j (by decide)) ⟨rfl,by decide,by decide⟩ hC hP U hB (fun base kb nb bb=>hF base kb nb bb (DE KX ht hC)) hb
  fun H nl hH hS=>⟨a,ns,rfl,hS,nl,j,.inl hH,fun _=>rfl⟩
theorem len1 {us:bZ}{P:bZ->Prop}(h:us.length=1)(k:∀a,P [a]):P us:=match us,h with | [a],_=>k a
theorem len2 {us:bZ}{P:bZ->Prop}(h:us.length=2)(k:∀a b,P [a,b]):P us:=match us,h with | [a,b],_=>k a b
theorem len3 {us:bZ}{P:bZ->Prop}(h:us.length=3)(k:∀a b c,P [a,b,c]):P us:=match us,h with | [a,b,c],_=>k a b c
theorem len5 {us:bZ}{P:bZ->Prop}(h:us.length=5)(k:∀a b c d e,P [a,b,c,d,e]):P us:=match us,h with | [a,b,c,d,e],_=>k a b c d e
theorem QD {l:PySem.W.OpenLaw}{w:World}{K:PySem.W.Frag}{h:Heap}{mg:fM}{fa C cc Pt f1 f2 f3 f4 f5 f6 f7 f8 f9 f10 f11 f12 f13 f14 I B f17 f18 f19 f20 f21 f22 f23 f24 f25 f26 f27 f28 f29 f30 f31 f32 f33 f34 f35 f36 f37 q f39 f40 Z U S N f45:Addr}(X:K.In h)(G:h.Ns mainGlobals mg)(hfa:mg "law" = some (.ref fa))
  {od1 an1 od2 an2 od3 an3 od4 an4 od5 an5 od6 an6 od7 an7 od8 an8 od9 an9 od10 an10 od11 an11 od12 an12 od13 an13 od14 an14 od15 an15 od16 an16 od17 an17 od18 an18 od19 an19 od20 an20 od21 an21 od22 an22 od23 an23 od24 an24 od25 an25 od26 an26 od27 an27 od28 an28 od29 an29 od30 an30 od31 an31 od32 an32 od33 an33 od34 an34 od35 an35 od36 an36 od37 an37 od38 an38 od39 an39 od40 an40 od41 an41 od42 an42 od43 an43 od44 an44 od45 an45:Option Addr} {sl1 sl2 sl3 sl4 sl5 sl6 sl7 sl8 sl9 sl10 sl11 sl12 sl13 sl14 sl15 sl16 sl17 sl18 sl19 sl20 sl21 sl22 sl23 sl24 sl25 sl26 sl27 sl28 sl29 sl30 sl31 sl32 sl33 sl34 sl35 sl36 sl37 sl38 sl39 sl40 sl41 sl42 sl43 sl44 sl45:Array (Option Value)} {oc1 kV1 dc1 pm1 ct1 cd1 oc2 kV2 dc2 pm2 ct2 cd2 oc3 kV3 dc3 pm3 ct3 cd3 oc4 kV4 dc4 pm4 ct4 cd4 oc5 kV5 dc5 pm5 ct5 cd5 oc6 kV6 dc6 pm6 ct6 cd6 oc7 kV7 dc7 pm7 ct7 cd7 oc8 kV8 dc8 pm8 ct8 cd8 oc9 kV9 dc9 pm9 ct9 cd9 oc10 kV10 dc10 pm10 ct10 cd10 oc11 kV11 dc11 pm11 ct11 cd11 oc12 kV12 dc12 pm12 ct12 cd12 oc13 kV13 dc13 pm13 ct13 cd13 oc14 kV14 dc14 pm14 ct14 cd14 oc15 kV15 dc15 pm15 ct15 cd15 oc16 kV16 dc16 pm16 ct16 cd16 oc17 kV17 dc17 pm17 ct17 cd17 oc18 kV18 dc18 pm18 ct18 cd18 oc19 kV19 dc19 pm19 ct19 cd19 oc20 kV20 dc20 pm20 ct20 cd20 oc21 kV21 dc21 pm21 ct21 cd21 oc22 kV22 dc22 pm22 ct22 cd22 oc23 kV23 dc23 pm23 ct23 cd23 oc24 kV24 dc24 pm24 ct24 cd24 oc25 kV25 dc25 pm25 ct25 cd25 oc26 kV26 dc26 pm26 ct26 cd26 oc27 kV27 dc27 pm27 ct27 oc28 kV28 dc28 pm28 ct28 cd28 oc29 kV29 dc29 pm29 ct29 cd29 oc30 kV30 dc30 pm30 ct30 cd30 oc31 kV31 dc31 pm31 ct31 cd31 oc32 kV32 dc32 pm32 ct32 cd32 oc33 kV33 dc33 pm33 ct33 cd33 oc34 kV34 dc34 pm34 ct34 cd34 oc35 kV35 dc35 pm35 ct35 cd35 oc36 kV36 dc36 pm36 ct36 cd36 oc37 kV37 dc37 pm37 ct37 cd37 oc38 kV38 dc38 pm38 ct38 cd38 oc39 kV39 dc39 pm39 ct39 cd39 oc40 kV40 dc40 pm40 ct40 cd40 oc41 kV41 dc41 pm41 ct41 cd41 oc42 kV42 dc42 pm42 ct42 cd42 oc43 kV43 dc43 pm43 ct43 cd43 oc44 kV44 dc44 pm44 ct44 cd44 oc45 kV45 dc45 pm45 ct45 L:Value} {tk0 tk1 tk2 tk3 tk4 tk5 tk6 tk7:Tok} {odq:Option Addr} {ocq:Value} {vq:i4} {slq:Array (Option Value)}
  (m0:nsIn K mainGlobals "Signs" = some (some (.ref C)))
  (a1:nsIn K mainGlobals "_law_cell" = some (some (.ref f1)))
  (l1:K.lookup f1=some ⟨oc1,od1,.func (PySem.W.fnOf "_law_cell" "_law_cell" (aP eY) (aN eY) (aD eY) .none kV1 dc1 pm1 an1 cd1 ct1),sl1⟩)
  (c1:codeIn K cd1 "_law_cell" = true)
  (k1:keepIn K (.ref f1)=true)
  (a2:nsIn K mainGlobals "_law_pot" = some (some (.ref f2)))
  (l2:K.lookup f2=some ⟨oc2,od2,.func (PySem.W.fnOf "_law_pot" "_law_pot" (aP fT) (aN fT) (aD fT) .none kV2 dc2 pm2 an2 cd2 ct2),sl2⟩)
  (c2:codeIn K cd2 "_law_pot" = true)
  (k2:keepIn K (.ref f2)=true)
  (a3:nsIn K mainGlobals "_law_take" = some (some (.ref f3)))
  (l3:K.lookup f3=some ⟨oc3,od3,.func (PySem.W.fnOf "_law_take" "_law_take" (aP eU) (aN eU) (aD eU) .none kV3 dc3 pm3 an3 cd3 ct3),sl3⟩)
  (c3:codeIn K cd3 "_law_take" = true)
  (k3:keepIn K (.ref f3)=true)
  (a4:nsIn K mainGlobals "_law_word" = some (some (.ref f4)))
  (l4:K.lookup f4=some ⟨oc4,od4,.func (PySem.W.fnOf "_law_word" "_law_word" (aP eT) (aN eT) (aD eT) .none kV4 dc4 pm4 an4 cd4 ct4),sl4⟩)
  (c4:codeIn K cd4 "_law_word" = true)
  (k4:keepIn K (.ref f4)=true)
  (a5:nsIn K mainGlobals "_law_names" = some (some (.ref f5)))
  (l5:K.lookup f5=some ⟨oc5,od5,.func (PySem.W.fnOf "_law_names" "_law_names" (aP eF) (aN eF) (aD eF) .none kV5 dc5 pm5 an5 cd5 ct5),sl5⟩)
  (c5:codeIn K cd5 "_law_names" = true)
  (k5:keepIn K (.ref f5)=true)
  (a6:nsIn K mainGlobals "_law_signs" = some (some (.ref f6)))
  (l6:K.lookup f6=some ⟨oc6,od6,.func (PySem.W.fnOf "_law_signs" "_law_signs" (aP cZ) (aN cZ) (aD cZ) .none kV6 dc6 pm6 an6 cd6 ct6),sl6⟩)
  (c6:codeIn K cd6 "_law_signs" = true)
  (k6:keepIn K (.ref f6)=true)
  (a7:nsIn K mainGlobals "_law_wishes" = some (some (.ref f7)))
  (l7:K.lookup f7=some ⟨oc7,od7,.func (PySem.W.fnOf "_law_wishes" "_law_wishes" (aP dS) (aN dS) (aD dS) .none kV7 dc7 pm7 an7 cd7 ct7),sl7⟩)
  (c7:codeIn K cd7 "_law_wishes" = true)
  (k7:keepIn K (.ref f7)=true)
  (a8:nsIn K mainGlobals "_law_leaf" = some (some (.ref f8)))
  (l8:K.lookup f8=some ⟨oc8,od8,.func (PySem.W.fnOf "_law_leaf" "_law_leaf" (aP eB) (aN eB) (aD eB) .none kV8 dc8 pm8 an8 cd8 ct8),sl8⟩)
  (c8:codeIn K cd8 "_law_leaf" = true)
  (k8:keepIn K (.ref f8)=true)
  (a9:nsIn K mainGlobals "_law_heads" = some (some (.ref f9)))
  (l9:K.lookup f9=some ⟨oc9,od9,.func (PySem.W.fnOf "_law_heads" "_law_heads" (aP dA) (aN dA) (aD dA) .none kV9 dc9 pm9 an9 cd9 ct9),sl9⟩)
  (c9:codeIn K cd9 "_law_heads" = true)
  (k9:keepIn K (.ref f9)=true)
  (a10:nsIn K mainGlobals "_law_term" = some (some (.ref f10)))
  (l10:K.lookup f10=some ⟨oc10,od10,.func (PySem.W.fnOf "_law_term" "_law_term" (aP dR) (aN dR) (aD dR) .none kV10 dc10 pm10 an10 cd10 ct10),sl10⟩)
  (c10:codeIn K cd10 "_law_term" = true)
  (k10:keepIn K (.ref f10)=true)
  (a11:nsIn K mainGlobals "_law_sort" = some (some (.ref f11)))
  (l11:K.lookup f11=some ⟨oc11,od11,.func (PySem.W.fnOf "_law_sort" "_law_sort" (aP eV) (aN eV) (aD eV) .none kV11 dc11 pm11 an11 cd11 ct11),sl11⟩)
  (c11:codeIn K cd11 "_law_sort" = true)
  (k11:keepIn K (.ref f11)=true)
  (a12:nsIn K mainGlobals "_law_ahead" = some (some (.ref f12)))
  (l12:K.lookup f12=some ⟨oc12,od12,.func (PySem.W.fnOf "_law_ahead" "_law_ahead" (aP dB) (aN dB) (aD dB) .none kV12 dc12 pm12 an12 cd12 ct12),sl12⟩)
  (c12:codeIn K cd12 "_law_ahead" = true)
  (k12:keepIn K (.ref f12)=true)
  (a13:nsIn K mainGlobals "_law_opened" = some (some (.ref f13)))
  (l13:K.lookup f13=some ⟨oc13,od13,.func (PySem.W.fnOf "_law_opened" "_law_opened" (aP dU) (aN dU) (aD dU) .none kV13 dc13 pm13 an13 cd13 ct13),sl13⟩)
  (c13:codeIn K cd13 "_law_opened" = true)
  (k13:keepIn K (.ref f13)=true)
  (a14:nsIn K mainGlobals "_law_flat" = some (some (.ref f14)))
  (l14:K.lookup f14=some ⟨oc14,od14,.func (PySem.W.fnOf "_law_flat" "_law_flat" (aP dG) (aN dG) (aD dG) .none kV14 dc14 pm14 an14 cd14 ct14),sl14⟩)
  (c14:codeIn K cd14 "_law_flat" = true)
  (k14:keepIn K (.ref f14)=true)
  (a15:findIn K (.ref C) "many" = some (some (.ref I)))
  (l15:K.lookup I=some ⟨oc15,od15,.func (PySem.W.fnOf "many" "Signs.many" (aP eG) (aN eG) (aD eG) .none kV15 dc15 pm15 an15 cd15 ct15),sl15⟩)
  (c15:codeIn K cd15 "Signs.many" = true)
  (k15:keepIn K (.ref I)=true)
  (n15:isFn K (.ref I)=true)
  (a16:findIn K (.ref C) "nought" = some (some (.ref B)))
  (l16:K.lookup B=some ⟨oc16,od16,.func (PySem.W.fnOf "nought" "Signs.nought" (aP dL) (aN dL) (aD dL) .none kV16 dc16 pm16 an16 cd16 ct16),sl16⟩)
  (c16:codeIn K cd16 "Signs.nought" = true)
  (k16:keepIn K (.ref B)=true)
  (n16:isFn K (.ref B)=true)
  (a17:nsIn K mainGlobals "is_wish" = some (some (.ref f17)))
  (l17:K.lookup f17=some ⟨oc17,od17,.func (PySem.W.fnOf "is_wish" "is_wish" (aP fX) (aN fX) (aD fX) .none kV17 dc17 pm17 an17 cd17 ct17),sl17⟩)
  (c17:codeIn K cd17 "is_wish" = true)
  (k17:keepIn K (.ref f17)=true)
  (a18:nsIn K mainGlobals "is_built" = some (some (.ref f18)))
  (l18:K.lookup f18=some ⟨oc18,od18,.func (PySem.W.fnOf "is_built" "is_built" (aP fR) (aN fR) (aD fR) .none kV18 dc18 pm18 an18 cd18 ct18),sl18⟩)
  (c18:codeIn K cd18 "is_built" = true)
  (k18:keepIn K (.ref f18)=true)
  (a19:nsIn K mainGlobals "check_term" = some (some (.ref f19)))
  (l19:K.lookup f19=some ⟨oc19,od19,.func (PySem.W.fnOf "check_term" "check_term" (aP dQ) (aN dQ) (aD dQ) .none kV19 dc19 pm19 an19 cd19 ct19),sl19⟩)
  (c19:codeIn K cd19 "check_term" = true)
  (k19:keepIn K (.ref f19)=true)
  (a20:nsIn K mainGlobals "walked" = some (some (.ref f20)))
  (l20:K.lookup f20=some ⟨oc20,od20,.func (PySem.W.fnOf "walked" "walked" (aP iS) (aN iS) (aD iS) .none kV20 dc20 pm20 an20 cd20 ct20),sl20⟩)
  (c20:codeIn K cd20 "walked" = true)
  (k20:keepIn K (.ref f20)=true)
  (a21:nsIn K mainGlobals "order_mark" = some (some (.ref f21)))
  (l21:K.lookup f21=some ⟨oc21,od21,.func (PySem.W.fnOf "order_mark" "order_mark" (aP eD) (aN eD) (aD eD) .none kV21 dc21 pm21 an21 cd21 ct21),sl21⟩)
  (c21:codeIn K cd21 "order_mark" = true)
  (k21:keepIn K (.ref f21)=true)
  (a22:nsIn K mainGlobals "order_key" = some (some (.ref f22)))
  (l22:K.lookup f22=some ⟨oc22,od22,.func (PySem.W.fnOf "order_key" "order_key" (aP eA) (aN eA) (aD eA) .none kV22 dc22 pm22 an22 cd22 ct22),sl22⟩)
  (c22:codeIn K cd22 "order_key" = true)
  (k22:keepIn K (.ref f22)=true)
  (a23:nsIn K mainGlobals "opened" = some (some (.ref f23)))
  (l23:K.lookup f23=some ⟨oc23,od23,.func (PySem.W.fnOf "opened" "opened" (aP iT) (aN iT) (aD iT) .none kV23 dc23 pm23 an23 cd23 ct23),sl23⟩)
  (c23:codeIn K cd23 "opened" = true)
  (k23:keepIn K (.ref f23)=true)
  (a24:nsIn K mainGlobals "flat_sum" = some (some (.ref f24)))
  (l24:K.lookup f24=some ⟨oc24,od24,.func (PySem.W.fnOf "flat_sum" "flat_sum" (aP fS) (aN fS) (aD fS) .none kV24 dc24 pm24 an24 cd24 ct24),sl24⟩)
  (c24:codeIn K cd24 "flat_sum" = true)
  (k24:keepIn K (.ref f24)=true)
  (a25:nsIn K mainGlobals "flat_of_parts" = some (some (.ref f25)))
  (l25:K.lookup f25=some ⟨oc25,od25,.func (PySem.W.fnOf "flat_of_parts" "flat_of_parts" (aP cU) (aN cU) (aD cU) .none kV25 dc25 pm25 an25 cd25 ct25),sl25⟩)
  (c25:codeIn K cd25 "flat_of_parts" = true)
  (k25:keepIn K (.ref f25)=true)
  (a26:nsIn K mainGlobals "from_within" = some (some (.ref f26)))
  (l26:K.lookup f26=some ⟨oc26,od26,.func (PySem.W.fnOf "from_within" "from_within" (aP dE) (aN dE) (aD dE) .none kV26 dc26 pm26 an26 cd26 ct26),sl26⟩)
  (c26:codeIn K cd26 "from_within" = true)
  (k26:keepIn K (.ref f26)=true)
  (a27:nsIn K mainGlobals "put_in" = some (some (.ref f27)))
  (l27:K.lookup f27=some ⟨oc27,od27,.func (PySem.W.fnOf "put_in" "put_in" (aP cX) (aN cX) (aD cX) .none kV27 dc27 pm27 an27 (.ref cc) ct27),sl27⟩)
  (c27:codeIn K (.ref cc) "put_in" = true)
  (k27:keepIn K (.ref f27)=true)
  (t2:K.lookup cc=some ⟨ocq,odq,.fields vq,slq⟩)
  (t3:vq[11]?=some (.ref Pt))
  (t0:tabIn K "put_in" = some (cc,Pt))
  (t1:K.lookup Pt=none)
  (a28:nsIn K mainGlobals "is_term" = some (some (.ref f28)))
  (l28:K.lookup f28=some ⟨oc28,od28,.func (PySem.W.fnOf "is_term" "is_term" (aP gY) (aN gY) (aD gY) .none kV28 dc28 pm28 an28 cd28 ct28),sl28⟩)
  (c28:codeIn K cd28 "is_term" = true)
  (k28:keepIn K (.ref f28)=true)
  (a29:nsIn K mainGlobals "check_filling" = some (some (.ref f29)))
  (l29:K.lookup f29=some ⟨oc29,od29,.func (PySem.W.fnOf "check_filling" "check_filling" (aP cV) (aN cV) (aD cV) .none kV29 dc29 pm29 an29 cd29 ct29),sl29⟩)
  (c29:codeIn K cd29 "check_filling" = true)
  (k29:keepIn K (.ref f29)=true)
  (a30:nsIn K mainGlobals "without_idle" = some (some (.ref f30)))
  (l30:K.lookup f30=some ⟨oc30,od30,.func (PySem.W.fnOf "without_idle" "without_idle" (aP cQ) (aN cQ) (aD cQ) .none kV30 dc30 pm30 an30 cd30 ct30),sl30⟩)
  (c30:codeIn K cd30 "without_idle" = true)
  (k30:keepIn K (.ref f30)=true)
  (a31:nsIn K mainGlobals "looked_over" = some (some (.ref f31)))
  (l31:K.lookup f31=some ⟨oc31,od31,.func (PySem.W.fnOf "looked_over" "looked_over" (aP dD) (aN dD) (aD dD) .none kV31 dc31 pm31 an31 cd31 ct31),sl31⟩)
  (c31:codeIn K cd31 "looked_over" = true)
  (k31:keepIn K (.ref f31)=true)
  (a32:nsIn K mainGlobals "is_name" = some (some (.ref f32)))
  (l32:K.lookup f32=some ⟨oc32,od32,.func (PySem.W.fnOf "is_name" "is_name" (aP fY) (aN fY) (aD fY) .none kV32 dc32 pm32 an32 cd32 ct32),sl32⟩)
  (c32:codeIn K cd32 "is_name" = true)
  (k32:keepIn K (.ref f32)=true)
  (a33:nsIn K mainGlobals "is_whole" = some (some (.ref f33)))
  (l33:K.lookup f33=some ⟨oc33,od33,.func (PySem.W.fnOf "is_whole" "is_whole" (aP fQ) (aN fQ) (aD fQ) .none kV33 dc33 pm33 an33 cd33 ct33),sl33⟩)
  (c33:codeIn K cd33 "is_whole" = true)
  (k33:keepIn K (.ref f33)=true)
  (a34:nsIn K mainGlobals "checked_pairs" = some (some (.ref f34)))
  (l34:K.lookup f34=some ⟨oc34,od34,.func (PySem.W.fnOf "checked_pairs" "checked_pairs" (aP cG) (aN cG) (aD cG) .none kV34 dc34 pm34 an34 cd34 ct34),sl34⟩)
  (c34:codeIn K cd34 "checked_pairs" = true)
  (k34:keepIn K (.ref f34)=true)
  (a35:nsIn K mainGlobals "check_names" = some (some (.ref f35)))
  (l35:K.lookup f35=some ⟨oc35,od35,.func (PySem.W.fnOf "check_names" "check_names" (aP cN) (aN cN) (aD cN) .none kV35 dc35 pm35 an35 cd35 ct35),sl35⟩)
  (c35:codeIn K cd35 "check_names" = true)
  (k35:keepIn K (.ref f35)=true)
  (a36:nsIn K mainGlobals "check_parts" = some (some (.ref f36)))
  (l36:K.lookup f36=some ⟨oc36,od36,.func (PySem.W.fnOf "check_parts" "check_parts" (aP dF) (aN dF) (aD dF) .none kV36 dc36 pm36 an36 cd36 ct36),sl36⟩)
  (c36:codeIn K cd36 "check_parts" = true)
  (k36:keepIn K (.ref f36)=true)
  (a37:nsIn K mainGlobals "check_noughts" = some (some (.ref f37)))
  (l37:K.lookup f37=some ⟨oc37,od37,.func (PySem.W.fnOf "check_noughts" "check_noughts" (aP cH) (aN cH) (aD cH) .none kV37 dc37 pm37 an37 cd37 ct37),sl37⟩)
  (c37:codeIn K cd37 "check_noughts" = true)
  (k37:keepIn K (.ref f37)=true)
  (a38:findIn K (.ref C) "__init__" = some (some (.ref q)))
  (l38:K.lookup q=some ⟨oc38,od38,.func (PySem.W.fnOf "__init__" "Signs.__init__" (aP cB) (aN cB) (aD cB) .none kV38 dc38 pm38 an38 cd38 ct38),sl38⟩)
  (c38:codeIn K cd38 "Signs.__init__" = true)
  (k38:keepIn K (.ref q)=true)
  (n38:isFn K (.ref q)=true)
  (a39:nsIn K mainGlobals "_law_own" = some (some (.ref f39)))
  (l39:K.lookup f39=some ⟨oc39,od39,.func (PySem.W.fnOf "_law_own" "_law_own" (aP eW) (aN eW) (aD eW) .none kV39 dc39 pm39 an39 cd39 ct39),sl39⟩)
  (c39:codeIn K cd39 "_law_own" = true)
  (k39:keepIn K (.ref f39)=true)
  (a40:nsIn K mainGlobals "_law_filling" = some (some (.ref f40)))
  (l40:K.lookup f40=some ⟨oc40,od40,.func (PySem.W.fnOf "_law_filling" "_law_filling" (aP dJ) (aN dJ) (aD dJ) .none kV40 dc40 pm40 an40 cd40 ct40),sl40⟩)
  (c40:codeIn K cd40 "_law_filling" = true)
  (k40:keepIn K (.ref f40)=true)
  (a41:nsIn K mainGlobals "_law_more" = some (some (.ref Z)))
  (l41:K.lookup Z=some ⟨oc41,od41,.func (PySem.W.fnOf "_law_more" "_law_more" (aP eX) (aN eX) (aD eX) .none kV41 dc41 pm41 an41 cd41 ct41),sl41⟩)
  (c41:codeIn K cd41 "_law_more" = true)
  (k41:keepIn K (.ref Z)=true)
  (a42:nsIn K mainGlobals "_law_looked" = some (some (.ref U)))
  (l42:K.lookup U=some ⟨oc42,od42,.func (PySem.W.fnOf "_law_looked" "_law_looked" (aP dW) (aN dW) (aD dW) .none kV42 dc42 pm42 an42 cd42 ct42),sl42⟩)
  (c42:codeIn K cd42 "_law_looked" = true)
  (k42:keepIn K (.ref U)=true)
  (a43:nsIn K mainGlobals "_law_spoil" = some (some (.ref S)))
  (l43:K.lookup S=some ⟨oc43,od43,.func (PySem.W.fnOf "_law_spoil" "_law_spoil" (aP eE) (aN eE) (aD eE) .none kV43 dc43 pm43 an43 cd43 ct43),sl43⟩)
  (c43:codeIn K cd43 "_law_spoil" = true)
  (k43:keepIn K (.ref S)=true)
  (a44:nsIn K mainGlobals "_law_is_told" = some (some (.ref N)))
  (l44:K.lookup N=some ⟨oc44,od44,.func (PySem.W.fnOf "_law_is_told" "_law_is_told" (aP dI) (aN dI) (aD dI) .none kV44 dc44 pm44 an44 cd44 ct44),sl44⟩)
  (c44:codeIn K cd44 "_law_is_told" = true)
  (k44:keepIn K (.ref N)=true)
  (a45:nsIn K mainGlobals "law" = some (some (.ref f45)))
  (l45:K.lookup f45=some ⟨oc45,od45,.func (PySem.W.fnOf "law" "law" (aP mH) (aN mH) (aD mH) .none kV45 dc45 pm45 an45 L ct45),sl45⟩)
  (c45:codeIn K L "law" = true)
  (k45:keepIn K (.ref f45)=true)
  (g1:plainGet K C Str.empty=true)
  (g2:hasDictIn K C=true)
  (g3:plainOver K C=true)
  (g4:findIn K (.ref C) "__setattr__" = some (some (.builtin "object.__setattr__")))
  (h0:findIn K (.ref C) "fixed_rows" = some none)
  (h1:findIn K (.ref C) "sum_rows" = some none)
  (h2:findIn K (.ref C) "many_by_name" = some none)
  (h3:findIn K (.ref C) "nought_by_name" = some none)
  (g5:makesIn K C=true)
  (g6:keepIn K (.ref C)=true)
  (v0:nsIn K mainGlobals "WISH_SIGNS" = some (some (.str "abcdefghijklmnopqrstuvwxyz0123456789" tk0)))
  (v1:nsIn K mainGlobals "LETTERS" = some (some (.str "abcdefghijklmnopqrstuvwxyz" tk1)))
  (v2:nsIn K mainGlobals "LONGEST_WISH" = some (some (.int 9 tk2)))
  (v3:nsIn K mainGlobals "DEEPEST" = some (some (.int 1000 tk3)))
  (v4:nsIn K mainGlobals "LONGEST_NAME" = some (some (.int 6 tk4)))
  (v5:nsIn K mainGlobals "MOST_FIXED" = some (some (.int 12 tk5)))
  (v6:nsIn K mainGlobals "MOST_SUMS" = some (some (.int 3 tk6)))
  (v7:nsIn K mainGlobals "MOST_PARTS" = some (some (.int 3 tk7)))
  (z0:nsIn K mainGlobals "len" = some none)
  (z1:nsIn K mainGlobals "range" = some none)
  (z2:nsIn K mainGlobals "int" = some none)
  (z3:nsIn K mainGlobals "abs" = some none)
  (z4:nsIn K mainGlobals "min" = some none)
  (z5:nsIn K mainGlobals "max" = some none)
  (z6:nsIn K mainGlobals "tuple" = some none)
  (z7:nsIn K mainGlobals "list" = some none)
  (z8:nsIn K mainGlobals "dict" = some none)
  (z9:nsIn K mainGlobals "set" = some none)
  (z10:nsIn K mainGlobals "isinstance" = some none)
  (z11:nsIn K mainGlobals "str" = some none)
  (z12:nsIn K mainGlobals "bool" = some none)
  (z13:nsIn K mainGlobals "sorted" = some none)
  (z14:nsIn K mainGlobals "reversed" = some none)
  (z15:nsIn K mainGlobals "all" = some none)
  (z16:nsIn K mainGlobals "any" = some none)
  (z17:nsIn K mainGlobals "zip" = some none)
  (z18:nsIn K mainGlobals "repr" = some none)
  : ∃(fd:FuncData) (c Pt:Addr),tabIn K "put_in" = some (c,Pt)/\K.lookup Pt=none/\(∀(s:Shared) (v:Value),BindsTo s fd ⟨[v],[]⟩ [("_law_script",v)]) /\
   ∀base:Heap,K.In base->base.Ns mainGlobals mg->Bm mg base->(∀h,K.In h->CodeHd h c Pt)->uH l.prog w K mg base a0 17 fa fd ["_law_script"] (spLaw K Pt):=by
 have e:=hfa.symm.trans (PySem.W.mg_of X G a45);cases e;have T:Txt mg:=⟨PySem.W.mg_none_of X G z0,PySem.W.mg_none_of X G z1,PySem.W.mg_none_of X G z2,PySem.W.mg_none_of X G z3,PySem.W.mg_none_of X G z4,PySem.W.mg_none_of X G z5,PySem.W.mg_none_of X G z6,PySem.W.mg_none_of X G z7,PySem.W.mg_none_of X G z8,PySem.W.mg_none_of X G z9,PySem.W.mg_none_of X G z10,PySem.W.mg_none_of X G z11,PySem.W.mg_none_of X G z12,PySem.W.mg_none_of X G z13,PySem.W.mg_none_of X G z14,PySem.W.mg_none_of X G z15,PySem.W.mg_none_of X G z16,PySem.W.mg_none_of X G z17,PySem.W.mg_none_of X G z18,⟨_,PySem.W.mg_of X G v0,⟨_,rfl⟩⟩,⟨_,PySem.W.mg_of X G v1,⟨_,rfl⟩⟩,⟨_,PySem.W.mg_of X G v2,⟨_,rfl⟩⟩,⟨_,PySem.W.mg_of X G v3,⟨_,rfl⟩⟩,⟨_,PySem.W.mg_of X G v4,⟨_,rfl⟩⟩,⟨_,PySem.W.mg_of X G v5,⟨_,rfl⟩⟩,⟨_,PySem.W.mg_of X G v6,⟨_,rfl⟩⟩,⟨_,PySem.W.mg_of X G v7,⟨_,rfl⟩⟩⟩
 have cl:HA K C:=⟨g1,g2,g3,g4⟩
 have co:OB K C:=⟨cl,h0,h1,h2,h3⟩
 have F1:=bB (st:=eY) l1 c1 k1;have b1:=F1.binds (ps:=lO) fun _ _ _ _ _ _ us j=>by apply len2 j;intros;rfl
 have F2:=bB (st:=fT) l2 c2 k2;have b2:=F2.binds (ps:=nE) fun _ _ _ _ _ _ us j=>by apply len2 j;intros;rfl
 have F3:=bB (st:=eU) l3 c3 k3;have b3:=F3.binds (ps:=lK) fun _ _ _ _ _ _ us j=>by apply len2 j;intros;rfl
 have F4:=bB (st:=eT) l4 c4 k4;have b4:=F4.binds (ps:=lJ) fun _ _ _ _ _ _ us j=>by apply len2 j;intros;rfl
 have F5:=bB (st:=eF) l5 c5 k5;have b5:=F5.binds (ps:=kN) fun _ _ _ _ _ _ us j=>by apply len2 j;intros;rfl
 have F6:=bB (st:=cZ) l6 c6 k6;have b6:=F6.binds (ps:=kM) fun _ _ _ _ _ _ us j=>by apply len1 j;intros;rfl
 have F7:=bB (st:=dS) l7 c7 k7;have b7:=F7.binds (ps:=jT) fun _ _ _ _ _ _ us j=>by apply len1 j;intros;rfl
 have F8:=bB (st:=eB) l8 c8 k8;have b8:=F8.binds (ps:=lN) fun _ _ _ _ _ _ us j=>by apply len3 j;intros;rfl
 have F9:=bB (st:=dA) l9 c9 k9;have b9:=F9.binds (ps:=kO) fun _ _ _ _ _ _ us j=>by apply len2 j;intros;rfl
 have F10:=bB (st:=dR) l10 c10 k10;have b10:=F10.binds (ps:=gC) fun _ _ _ _ _ _ us j=>by apply len5 j;intros;rfl
 have F11:=bB (st:=eV) l11 c11 k11;have b11:=F11.binds (ps:=lL) fun _ _ _ _ _ _ us j=>by apply len1 j;intros;rfl
 have F12:=bB (st:=dB) l12 c12 k12;have b12:=F12.binds (ps:=fH) fun _ _ _ _ _ _ us j=>by apply len2 j;intros;rfl
 have F13:=bB (st:=dU) l13 c13 k13;have b13:=F13.binds (ps:=jU) fun _ _ _ _ _ _ us j=>by apply len3 j;intros;rfl
 have F14:=bB (st:=dG) l14 c14 k14;have b14:=F14.binds (ps:=gE) fun _ _ _ _ _ _ us j=>by apply len2 j;intros;rfl
 have F15:=bB (st:=eG) l15 c15 k15;have b15:=F15.binds (ps:=kP) fun _ _ _ _ _ _ us j=>by apply len2 j;intros;rfl
 have F16:=bB (st:=dL) l16 c16 k16;have b16:=F16.binds (ps:=iZ) fun _ _ _ _ _ _ us j=>by apply len2 j;intros;rfl
 have F17:=bB (st:=fX) l17 c17 k17;have b17:=F17.binds (ps:=p9) fun _ _ _ _ _ _ us j=>by apply len1 j;intros;rfl
 have F18:=bB (st:=fR) l18 c18 k18;have b18:=F18.binds (ps:=nB) fun _ _ _ _ _ _ us j=>by apply len2 j;intros;rfl
 have F19:=bB (st:=dQ) l19 c19 k19;have b19:=F19.binds (ps:=kK) fun _ _ _ _ _ _ us j=>by apply len2 j;intros;rfl
 have F20:=bB (st:=iS) l20 c20 k20;have b20:=F20.binds (ps:=tX) fun _ _ _ _ _ _ us j=>by apply len1 j;intros;rfl
 have F21:=bB (st:=eD) l21 c21 k21;have b21:=F21.binds (ps:=kJ) fun _ _ _ _ _ _ us j=>by apply len1 j;intros;rfl
 have F22:=bB (st:=eA) l22 c22 k22;have b22:=F22.binds (ps:=lI) fun _ _ _ _ _ _ us j=>by apply len1 j;intros;rfl
 have F23:=bB (st:=iT) l23 c23 k23;have b23:=F23.binds (ps:=tZ) fun _ _ _ _ _ _ us j=>by apply len2 j;intros;rfl
 have F24:=bB (st:=fS) l24 c24 k24;have b24:=F24.binds (ps:=nC) fun _ _ _ _ _ _ us j=>by apply len3 j;intros;rfl
 have F25:=bB (st:=cU) l25 c25 k25;have b25:=F25.binds (ps:=iA) fun _ _ _ _ _ _ us j=>by apply len3 j;intros;rfl
 have F26:=bB (st:=dE) l26 c26 k26;have b26:=F26.binds (ps:=jQ) fun _ _ _ _ _ _ us j=>by apply len3 j;intros;rfl
 have F27:=bB (st:=cX) l27 c27 k27;have b27:=F27.binds (ps:=tY) fun _ _ _ _ _ _ us j=>by apply len3 j;intros;rfl
 have F28:=bB (st:=gY) l28 c28 k28;have b28:=F28.binds (ps:=qA) fun _ _ _ _ _ _ us j=>by apply len2 j;intros;rfl
 have F29:=bB (st:=cV) l29 c29 k29;have b29:=F29.binds (ps:=iD) fun _ _ _ _ _ _ us j=>by apply len2 j;intros;rfl
 have F30:=bB (st:=cQ) l30 c30 k30;have b30:=F30.binds (ps:=iW) fun _ _ _ _ _ _ us j=>by apply len1 j;intros;rfl
 have F31:=bB (st:=dD) l31 c31 k31;have b31:=F31.binds (ps:=jP) fun _ _ _ _ _ _ us j=>by apply len2 j;intros;rfl
 have F32:=bB (st:=fY) l32 c32 k32;have b32:=F32.binds (ps:=qB) fun _ _ _ _ _ _ us j=>by apply len1 j;intros;rfl
 have F33:=bB (st:=fQ) l33 c33 k33;have b33:=F33.binds (ps:=nA) fun _ _ _ _ _ _ us j=>by apply len1 j;intros;rfl
 have F34:=bB (st:=cG) l34 c34 k34;have b34:=F34.binds (ps:=iB) fun _ _ _ _ _ _ us j=>by apply len3 j;intros;rfl
 have F35:=bB (st:=cN) l35 c35 k35;have b35:=F35.binds (ps:=jS) fun _ _ _ _ _ _ us j=>by apply len1 j;intros;rfl
 have F36:=bB (st:=dF) l36 c36 k36;have b36:=F36.binds (ps:=jR) fun _ _ _ _ _ _ us j=>by apply len1 j;intros;rfl
 have F37:=bB (st:=cH) l37 c37 k37;have b37:=F37.binds (ps:=iC) fun _ _ _ _ _ _ us j=>by apply len2 j;intros;rfl
 have F38:=bB (st:=cB) l38 c38 k38;have b38:=F38.binds (ps:=gZ) fun _ _ _ _ _ _ us j=>by apply len3 j;intros;rfl
 have F39:=bB (st:=eW) l39 c39 k39;have b39:=F39.binds (ps:=nF) fun _ _ _ _ _ _ us j=>by apply len3 j;intros;rfl
 have F40:=bB (st:=dJ) l40 c40 k40;have b40:=F40.binds (ps:=iY) fun _ _ _ _ _ _ us j=>by apply len3 j;intros;rfl
 have F41:=bB (st:=eX) l41 c41 k41;have b41:=F41.binds (ps:=lM) fun _ _ _ _ _ _ us j=>by apply len1 j;intros;rfl
 have F42:=bB (st:=dW) l42 c42 k42;have b42:=F42.binds (ps:=jV) fun _ _ _ _ _ _ us j=>by apply len2 j;intros;rfl
 have F43:=bB (st:=eE) l43 c43 k43;have b43:=F43.binds (ps:=kL) fun _ _ _ _ _ _ us j=>by apply len1 j;intros;rfl
 have F44:=bB (st:=dI) l44 c44 k44;have b44:=F44.binds (ps:=iX) fun _ _ _ _ _ _ us j=>by apply len3 j;intros;rfl
 have F45:=bB (st:=mH) l45 c45 k45;refine⟨PySem.W.fnOf "law" "law" (aP mH) (aN mH) (aD mH) .none kV45 dc45 pm45 an45 L ct45,cc,Pt,t0,t1,fun s v=>.of_eq rfl,fun base _ _ hB hC=>?_⟩;have O__law_cell:cK l.prog w K mg base a0 1 "_law_cell" (B3 K):=⟨f1,_,_,MO F1 T,PySem.W.mg_of X G a1,k1,b1⟩
 have O__law_pot:cK l.prog w K mg base a0 2 "_law_pot" (spPot K):=⟨f2,_,_,PN F2 T O__law_cell,PySem.W.mg_of X G a2,k2,b2⟩
 have O__law_take:cK l.prog w K mg base a0 1 "_law_take" fP:=⟨f3,_,_,MD F3 T,PySem.W.mg_of X G a3,k3,b3⟩
 have O__law_word:cK l.prog w K mg base a0 1 "_law_word" BT:=⟨f4,_,_,MA F4 T,PySem.W.mg_of X G a4,k4,b4⟩
 have O__law_names:cK l.prog w K mg base a0 2 "_law_names" xD:=⟨f5,_,_,I9 F5 T O__law_take O__law_word,PySem.W.mg_of X G a5,k5,b5⟩
 have O__law_signs:cK l.prog w K mg base a0 3 "_law_signs" w8:=⟨f6,_,_,IX F6 T O__law_take O__law_names,PySem.W.mg_of X G a6,k6,b6⟩
 have O__law_wishes:cK l.prog w K mg base a0 2 "_law_wishes" xG:=⟨f7,_,_,JD F7 T O__law_take,PySem.W.mg_of X G a7,k7,b7⟩
 have O__law_leaf:cK l.prog w K mg base a0 2 "_law_leaf" oX:=⟨f8,_,_,MJ F8 T O__law_take,PySem.W.mg_of X G a8,k8,b8⟩
 have O__law_heads:cK l.prog w K mg base a0 1 "_law_heads" nO:=⟨f9,_,_,JC F9 T,PySem.W.mg_of X G a9,k9,b9⟩
 have O__law_term:cK l.prog w K mg base a0 12 "_law_term" (mQ 8):=IP F10 T O__law_take O__law_leaf O__law_heads (PySem.W.mg_of X G a10) k10 b10 8;have O__law_sort:cK l.prog w K mg base a0 1 "_law_sort" rS:=⟨f11,_,_,ME F11 T,PySem.W.mg_of X G a11,k11,b11⟩
 have O__law_aheadN:=fun m=>FN (P:=l.prog) (w:=w) (base:=base) F12 T O__law_sort (PySem.W.mg_of X G a12) k12 b12 m;have O__law_ahead:cK l.prog w K mg base a0 13 "_law_ahead" (i9 11):=O__law_aheadN 11;have O__law_opened:cK l.prog w K mg base a0 1 "_law_opened" kW:=⟨f13,_,_,FR F13 T,PySem.W.mg_of X G a13,k13,b13⟩
 have O__law_flat:cK l.prog w K mg base a0 14 "_law_flat" (oZ 11):=IQ F14 T O__law_aheadN O__law_opened (PySem.W.mg_of X G a14) k14 b14 11;have O_Signs_many:G8 l.prog w K mg base a0 1 C "many" (BX K C):=⟨I,_,_,MI F15 T,⟨a15,n15,k15⟩,b15,cl⟩
 have O_Signs_nought:G8 l.prog w K mg base a0 1 C "nought" (nM K C):=⟨B,_,_,FS F16 T,⟨a16,n16,k16⟩,b16,cl⟩
 have O_is_wish:cK l.prog w K mg base a0 1 "is_wish" w4:=⟨f17,_,_,MB F17 T,PySem.W.mg_of X G a17,k17,b17⟩
 have O_is_built:cK l.prog w K mg base a0 2 "is_built" (xI K C):=⟨f18,_,_,JF F18 T O_is_wish O_Signs_many O_Signs_nought,PySem.W.mg_of X G a18,k18,b18⟩
 have O_check_term:cK l.prog w K mg base a0 3 "check_term" (xH K C):=⟨f19,_,_,JE F19 T O_is_built,PySem.W.mg_of X G a19,k19,b19⟩
 have O_walked:cK l.prog w K mg base a0 1 "walked" nL:=⟨f20,_,_,FQ F20 T,PySem.W.mg_of X G a20,k20,b20⟩
 have O_order_mark:cK l.prog w K mg base a0 1 "order_mark" BW:=⟨f21,_,_,MH F21 T,PySem.W.mg_of X G a21,k21,b21⟩
 have O_order_key:cK l.prog w K mg base a0 2 "order_key" spKey:=⟨f22,_,_,PQ F22 T O_order_mark O_walked,PySem.W.mg_of X G a22,k22,b22⟩
 have O_opened:cK l.prog w K mg base a0 1 "opened" oW:=⟨f23,_,_,CF F23 T,PySem.W.mg_of X G a23,k23,b23⟩
 have O_flat_sum:cK l.prog w K mg base a0 5 "flat_sum" oY:=⟨f24,_,_,CH F24 T O_opened O_order_key,PySem.W.mg_of X G a24,k24,b24⟩
 have O_flat_of_parts:cK l.prog w K mg base a0 6 "flat_of_parts" (gW K C):=⟨f25,_,_,CG F25 T O_Signs_nought O_flat_sum,PySem.W.mg_of X G a25,k25,b25⟩
 have O_from_within:cK l.prog w K mg base a0 8 "from_within" (spFW K C):=⟨f26,_,_,Q1 F26 T O_walked O_flat_of_parts,PySem.W.mg_of X G a26,k26,b26⟩
 have O_put_in:cK l.prog w K mg base a0 9 "put_in" (xA K C Pt):=⟨f27,_,_,IY l27 c27 hC hB O_from_within,PySem.W.mg_of X G a27,k27,b27⟩
 have O_is_term:cK l.prog w K mg base a0 4 "is_term" (BY K C):=⟨f28,_,_,MK F28 T O_check_term,PySem.W.mg_of X G a28,k28,b28⟩
 have O_check_filling:cK l.prog w K mg base a0 5 "check_filling" (rV K C):=⟨f29,_,_,FV F29 T O_is_wish O_is_term,PySem.W.mg_of X G a29,k29,b29⟩
 have O_without_idle:cK l.prog w K mg base a0 1 "without_idle" B2:=⟨f30,_,_,MM F30 T,PySem.W.mg_of X G a30,k30,b30⟩
 have O_looked_over:cK l.prog w K mg base a0 10 "looked_over" (nN K C Pt):=⟨f31,_,_,FU F31 T O_check_filling O_put_in O_without_idle,PySem.W.mg_of X G a31,k31,b31⟩
 have O_is_name:cK l.prog w K mg base a0 1 "is_name" BV:=⟨f32,_,_,MG F32 T,PySem.W.mg_of X G a32,k32,b32⟩
 have O_is_whole:cK l.prog w K mg base a0 1 "is_whole" w5:=⟨f33,_,_,IV F33 T,PySem.W.mg_of X G a33,k33,b33⟩
 have O_checked_pairs:cK l.prog w K mg base a0 1 "checked_pairs" xC:=⟨f34,_,_,I8 F34 T,PySem.W.mg_of X G a34,k34,b34⟩
 have O_check_names:cK l.prog w K mg base a0 2 "check_names" rT:=⟨f35,_,_,FT F35 T O_is_name,PySem.W.mg_of X G a35,k35,b35⟩
 have O_check_parts:cK l.prog w K mg base a0 2 "check_parts" xB:=⟨f36,_,_,IZ F36 T O_is_whole,PySem.W.mg_of X G a36,k36,b36⟩
 have O_check_noughts:cK l.prog w K mg base a0 1 "check_noughts" mR:=⟨f37,_,_,zY F37 T,PySem.W.mg_of X G a37,k37,b37⟩
 have O_Signs___init__:QL l.prog w K mg base a0 3 "Signs" C (BZ K C):=⟨q,_,_,ML F38 T co O_checked_pairs O_check_names O_check_parts O_check_noughts,PySem.W.mg_of X G m0,⟨g5,a38,n38,g6⟩,b38⟩
 have O__law_own:cK l.prog w K mg base a0 2 "_law_own" BU:=⟨f39,_,_,MF F39 T O__law_take,PySem.W.mg_of X G a39,k39,b39⟩
 have O__law_filling:cK l.prog w K mg base a0 13 "_law_filling" pA:=⟨f40,_,_,CJ F40 T O__law_take O__law_own O__law_term,PySem.W.mg_of X G a40,k40,b40⟩
 have O__law_more:cK l.prog w K mg base a0 3 "_law_more" xE:=⟨Z,_,_,JA F41 T O__law_wishes O__law_take,PySem.W.mg_of X G a41,k41,b41⟩
 have O__law_looked:cK l.prog w K mg base a0 15 "_law_looked" xF:=⟨U,_,_,JB F42 T O__law_flat,PySem.W.mg_of X G a42,k42,b42⟩
 have O__law_spoil:cK l.prog w K mg base a0 1 "_law_spoil" w6:=⟨S,_,_,IW F43 T,PySem.W.mg_of X G a43,k43,b43⟩
 have O__law_is_told:QK l.prog w K mg base a0 16 "_law_is_told" (spAsk K C Pt):=⟨N,_,_,PR F44 T O__law_looked O_looked_over O__law_spoil,PySem.W.mg_of X G a44,k44,b44⟩
 exact PP F45 T O__law_pot O__law_signs O_Signs___init__ O__law_more O__law_filling O__law_is_told O_looked_over
end Lw
open PySem PySem.W PyProof.Rows
set_option maxRecDepth 100000 in
set_option maxHeartbeats 0 in
theorem PySem.Challenge.cw_likefill_k21_fillings_looked_over_holds : PySem.Challenge.rw_likefill_k21_fillings_looked_over.Holds := by
 w_on
 refine holds_law (by kernel_rfl) fun said=>?_;refine holds_open (q:=Lw.q0) (loose:=[]) (Xt:=Lw.R0) (XP:=XL Lw.q0 []) (YP:=InK Lw.K0) Lw.left0 (InK.of Lw.keys0) InK.keeps (fun s e=>xl_of s (Bool.and_eq_true_iff.mp e).1) XL.keeps (by rfl) (by rfl) (by rfl) (fun s e=>recFacts_of (Bool.and_eq_true_iff.mp e).2) (by rfl) said (by decide +kernel) ⟨rfl,rfl,rfl,rfl,rfl,by decide +kernel⟩ (by w_witness2) ?_
 k_fill
 refine Lw.walkT (l:=PySem.Challenge.rw_likefill_k21_fillings_looked_over) rfl rfl (fun w h Y=>Y) rfl ?F
 case F =>
  intro w mg fa h KX G hmg
  refine' Lw.QD KX G hmg ?_ ?_ ?_ ?_ ?_ ?_ ?_ ?_ ?_ ?_ ?_ ?_ ?_ ?_ ?_ ?_ ?_ ?_ ?_ ?_ ?_ ?_ ?_ ?_ ?_ ?_ ?_ ?_ ?_ ?_ ?_ ?_ ?_ ?_ ?_ ?_ ?_ ?_ ?_ ?_ ?_ ?_ ?_ ?_ ?_ ?_ ?_ ?_ ?_ ?_ ?_ ?_ ?_ ?_ ?_ ?_ ?_ ?_ ?_ ?_ ?_ ?_ ?_ ?_ ?_ ?_ ?_ ?_ ?_ ?_ ?_ ?_ ?_ ?_ ?_ ?_ ?_ ?_ ?_ ?_ ?_ ?_ ?_ ?_ ?_ ?_ ?_ ?_ ?_ ?_ ?_ ?_ ?_ ?_ ?_ ?_ ?_ ?_ ?_ ?_ ?_ ?_ ?_ ?_ ?_ ?_ ?_ ?_ ?_ ?_ ?_ ?_ ?t3 ?t0 ?t1 ?_ ?_ ?_ ?_ ?_ ?_ ?_ ?_ ?_ ?_ ?_ ?_ ?_ ?_ ?_ ?_ ?_ ?_ ?_ ?_ ?_ ?_ ?_ ?_ ?_ ?_ ?_ ?_ ?_ ?_ ?_ ?_ ?_ ?_ ?_ ?_ ?_ ?_ ?_ ?_ ?_ ?_ ?_ ?_ ?_ ?_ ?_ ?_ ?_ ?_ ?_ ?_ ?_ ?_ ?_ ?_ ?_ ?_ ?_ ?_ ?_ ?_ ?_ ?_ ?_ ?_ ?_ ?_ ?_ ?_ ?_ ?_ ?_ ?_ ?_ ?_ ?_ ?_ ?_ ?_ ?_ ?_ ?_ ?_ ?_ ?_ ?_ ?_ ?_ ?_ ?_ ?_ ?_ ?_ ?_ ?_ ?_ ?_ ?_ ?_ ?_ ?_ ?_ ?_ ?_ ?_ ?_ ?_ ?_ ?_
  all_goals try k_is
  (case t3=>rfl);(case t0=>kernel_rfl);(case t1=>kernel_rfl)
end
