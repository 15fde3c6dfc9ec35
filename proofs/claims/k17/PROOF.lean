import PyProof.Rows.All
import Wide.All
import OpenK.AllK
import Wide.FinOn
import Lean
import PyProof.EqAt
import PyProof.EqKinds
import PyProof.TupleCall
import PyProof.NeKinds
import KE.LcSums
import PyProof.ZipIter
import PyProof.Rows.SumAny
import PyProof.ExcClass3
import PyProof.ExcBaseAll.ValueError
import OpenK.KOwn
import PyProof.EnumFor
import PyProof.EnumMake
import PyProof.TupleIter
import KE.KIsAll
import PyProof.ExcArgsOwn
import KE.KDictOf
import PyProof.AttrMissHeap
import PyProof.AutoSeq1
import KE.KRevIter
import PyProof.TupleOfSeq
import PyProof.CollectIter
import PyProof.TupleOfStr
import PyProof.SliceStr2
import PyProof.StrWalks
import KE.KSortTup
import KE.KLam
import PyProof.Rows.SetFrom
import PyProof.ReprRoads
import PyProof.CallFns
import PyProof.StrCalls2
import PyProof.StrBlock
import PyProof.ReprLen
import PySem.Challenge.RW_likefill_k17_whole_text_and_back
set_option Elab.async false
set_option linter.all false
set_option maxRecDepth 100000
set_option maxHeartbeats 4000000
namespace L2
open PySem
noncomputable def zhO (s:Stmt)(j:Nat):Stmt:=match s with
 | .ClassDef _ _ _ body _ _ _ _ _ _ _=>body.getD j (.Pass ⟨0,0,0,0⟩)
 | _=>.Pass ⟨0,0,0,0⟩
noncomputable def zam (s:Stmt):Arguments:=match s with
 | .FunctionDef _ a _ _ _ _ _ _ _ _=>a
 | _=>{ posonlyargs:=[],args:=[],vararg:=none,kwonlyargs:=[],kw_defaults:=[],kwarg:=none,defaults:=[] }
noncomputable def zak (s:Stmt):List Stmt:=match s with
 | .FunctionDef _ _ b _ _ _ _ _ _ _=>b
 | _=>[]
noncomputable def zad (s:Stmt):Scope:=match s with
 | .FunctionDef _ _ _ _ _ _ sc _ _ _=>sc
 | _=>{ kind:=.function,names:=[],isGenerator:=false,isCoroutine:=false }
end L2
namespace Lw
open PySem L2
noncomputable def top (i:Nat):Stmt:=PySem.Challenge.pw_likefill_k17_whole_text_and_back.main.body.getD i (.Pass ⟨0,0,0,0⟩)
noncomputable abbrev zbn:Stmt:=top 41
noncomputable abbrev zbw:Stmt:=top 42
noncomputable abbrev zbm:Stmt:=top 43
noncomputable abbrev zbl:Stmt:=top 44
noncomputable abbrev za7:Stmt:=top 45
noncomputable abbrev zaK:Stmt:=top 46
noncomputable abbrev za9:Stmt:=top 47
noncomputable abbrev za8:Stmt:=top 48
noncomputable abbrev zaL:Stmt:=top 49
noncomputable abbrev zaZ:Stmt:=top 50
noncomputable abbrev zeX:Stmt:=top 54
noncomputable abbrev zbE:Stmt:=top 9
noncomputable abbrev zbu:Stmt:=top 10
noncomputable abbrev zaW:Stmt:=top 11
noncomputable abbrev zck:Stmt:=top 13
noncomputable abbrev za5:Stmt:=top 14
noncomputable abbrev za6:Stmt:=top 15
noncomputable abbrev zcm:Stmt:=top 16
noncomputable abbrev zbv:Stmt:=top 17
noncomputable abbrev zaF:Stmt:=top 18
noncomputable abbrev zaI:Stmt:=top 19
noncomputable abbrev zaS:Stmt:=top 20
noncomputable abbrev zer:Stmt:=top 21
noncomputable abbrev zbF:Stmt:=top 34
noncomputable abbrev zbt:Stmt:=top 35
noncomputable abbrev zaA:Stmt:=top 36
noncomputable abbrev zaE:Stmt:=top 37
noncomputable abbrev zaJ:Stmt:=top 38
noncomputable abbrev zaB:Stmt:=top 39
noncomputable abbrev zaw:Stmt:=zhO (top 33) 0
noncomputable abbrev zba:Stmt:=zhO (top 33) 3
noncomputable abbrev zaO:Stmt:=zhO (top 33) 4
noncomputable abbrev zc3:Stmt:=top 23
noncomputable abbrev zcl:Stmt:=top 24
noncomputable abbrev zeq:Stmt:=top 25
noncomputable abbrev zaY:Stmt:=top 26
noncomputable abbrev zbR:Stmt:=top 12
noncomputable abbrev zau:Stmt:=top 51
noncomputable abbrev zaz:Stmt:=top 52
noncomputable abbrev zax:Stmt:=top 53
end Lw
namespace Lw
open PySem PySem.W L2
noncomputable def eO (P:Params)(x:Str)(t:Tok)(v:Value):DictEntry:=⟨PyData.keyHash P x,.str x t,v⟩
noncomputable def eR (P:Params)(x:Str)(t:Tok)(a:Addr):DictEntry:=eO P x t (.ref a)
noncomputable def dO (es:List DictEntry)(n:Nat):Obj:=⟨.type "dict",none,.dict es.toArray n,#[]⟩
noncomputable def fO (x q:Str)(st:Stmt)(m:Str)(t:Tok)(c:Addr):Obj:=⟨.type "function",none,.func (fnOf x q (zam st) (zak st) (zad st) .none .none .none (.str m t) none (.ref c) .none),#[]⟩
noncomputable def cO (x q:Str)(t1 t2 t3:Tok)(l n f:Int)(r1:Addr)(b:Bool)(i6:Int)(r2:Addr)(u v w:Value)(r3:Addr)(i7:Int)(t4:Tok):Obj :=
 ⟨.type "code",none,.fields #[.str x t1,.str q t2,.str "/claim/cut.py" t3,.int l 0,.int n 0,.int 0 0,.int 0 0,.int f 0,.ref r1,.bool b,.int i6 0,.ref r2,u,v,w,.ref r3,.int i7 0,.int l 0,.str "/claim/cut.py" t4],#[]⟩
noncomputable def K0 (P:Params):PySem.W.Frag :=
 (nat_lit 3,dO [eO P "__name__" 165 (.str "law_likefill_k17_whole_text_and_back" 517),eO P "__doc__" 166 .none,eO P "__package__" 167 .none,eO P "__loader__" 168 (.builtin "__main__.__loader__#opaque"),eO P "__spec__" 169 .none,eR P "__annotations__" 170 6,eR P "__builtins__" 171 4,eO P "__file__" 173 (.str "/claim/cut.py" 172),eO P "__cached__" 174 .none,eR P "LikeError" 206 24,eR P "NoSigns" 222 37,eR P "NoTerm" 238 49,eR P "NoText" 254 61,eO P "WISH_SIGNS" 258 (.str "abcdefghijklmnopqrstuvwxyz0123456789" 257),eO P "LONGEST_WISH" 260 (.int 9 259),eO P "DEEPEST" 262 (.int 1000 261),eR P "is_wish" 268 68,eR P "is_built" 276 75,eR P "check_term" 282 80,eR P "is_term" 290 87,eR P "walked" 300 94,eR P "order_mark" 307 101,eR P "order_key" 313 106,eR P "opened" 321 113,eR P "flat_sum" 332 120,eR P "flat_of_parts" 342 127,eR P "from_within" 348 132,eR P "put_in" 358 139,eR P "flat" 366 146,eR P "write" 379 153,eR P "pieces" 388 160,eR P "read" 397 167,eR P "unbracketed" 407 174,eO P "LETTERS" 411 (.str "abcdefghijklmnopqrstuvwxyz" 410),eO P "LONGEST_NAME" 413 (.int 6 412),eO P "MOST_FIXED" 415 (.int 12 414),eO P "MOST_SUMS" 417 (.int 3 416),eO P "MOST_PARTS" 419 (.int 3 418),eR P "Signs" 479 217,eR P "is_name" 485 226,eR P "is_whole" 492 233,eR P "checked_pairs" 498 238,eR P "check_names" 504 243,eR P "check_parts" 510 248,eR P "check_noughts" 516 253,eR P "_law_cell" 526 260,eR P "_law_pot" 535 267,eR P "_law_take" 544 274,eR P "_law_word" 554 281,eR P "_law_names" 566 288,eR P "_law_signs" 572 293,eR P "_law_drawn" 583 300,eR P "_law_leaf" 589 305,eR P "_law_heads" 595 310,eR P "_law_term" 613 317,eR P "_law_written" 619 322,eR P "_law_tupled" 625 327,eR P "_law_goes_round" 635 334,eR P "law" 648 341] 59) ::
 (nat_lit 23,dO [eO P "__module__" 196 (.str "likefill.errors" 187),eO P "__firstlineno__" 200 (.int 2 199),eR P "__static_attributes__" 201 22,eR P "__weakref__" 203 25,eO P "__doc__" 204 .none] 3) ::
 (nat_lit 24,⟨.type "type",none,.cls ⟨"LikeError",[(.type "ValueError")],[(.ref 24),(.type "ValueError"),(.type "Exception"),(.type "BaseException"),(.type "object")],23,"LikeError",true,[],[(.ref 37),(.ref 49),(.ref 61)],false,none,false⟩,#[some (.ref 15),none,some (.str "LikeError" 189),some (.str "LikeError" 197),some (.builtin "ValueError.__new__"),some (.bool true)]⟩) ::
 (nat_lit 36,dO [eO P "__module__" 214 (.str "likefill.errors" 187),eO P "__firstlineno__" 218 (.int 4 217),eR P "__static_attributes__" 219 35,eO P "__doc__" 220 .none] 2) ::
 (nat_lit 37,⟨.type "type",none,.cls ⟨"NoSigns",[(.ref 24)],[(.ref 37),(.ref 24),(.type "ValueError"),(.type "Exception"),(.type "BaseException"),(.type "object")],36,"NoSigns",true,[],[],false,none,false⟩,#[some (.ref 28),none,some (.str "NoSigns" 207),some (.str "NoSigns" 215),some (.builtin "ValueError.__new__"),some (.bool true)]⟩) ::
 (nat_lit 48,dO [eO P "__module__" 230 (.str "likefill.errors" 187),eO P "__firstlineno__" 234 (.int 6 233),eR P "__static_attributes__" 235 47,eO P "__doc__" 236 .none] 2) ::
 (nat_lit 49,⟨.type "type",none,.cls ⟨"NoTerm",[(.ref 24)],[(.ref 49),(.ref 24),(.type "ValueError"),(.type "Exception"),(.type "BaseException"),(.type "object")],48,"NoTerm",true,[],[],false,none,false⟩,#[some (.ref 40),none,some (.str "NoTerm" 223),some (.str "NoTerm" 231),some (.builtin "ValueError.__new__"),some (.bool true)]⟩) ::
 (nat_lit 60,dO [eO P "__module__" 246 (.str "likefill.errors" 187),eO P "__firstlineno__" 250 (.int 8 249),eR P "__static_attributes__" 251 59,eO P "__doc__" 252 .none] 2) ::
 (nat_lit 61,⟨.type "type",none,.cls ⟨"NoText",[(.ref 24)],[(.ref 61),(.ref 24),(.type "ValueError"),(.type "Exception"),(.type "BaseException"),(.type "object")],60,"NoText",true,[],[],false,none,false⟩,#[some (.ref 52),none,some (.str "NoText" 239),some (.str "NoText" 247),some (.builtin "ValueError.__new__"),some (.bool true)]⟩) ::
 (nat_lit 67,cO "is_wish" "is_wish" 263 264 265 14 1 3 64 true 181 65 .none .none .none 66 266 267) ::
 (nat_lit 68,fO "is_wish" "is_wish" zbE "likefill.terms" 255 67) ::
 (nat_lit 74,cO "is_built" "is_built" 269 270 271 18 2 3 69 true 181 70 .none (.ref 71) (.ref 72) 73 274 275) ::
 (nat_lit 75,fO "is_built" "is_built" zbu "likefill.terms" 255 74) ::
 (nat_lit 79,cO "check_term" "check_term" 277 278 279 26 2 3 76 true 181 77 .none .none .none 78 280 281) ::
 (nat_lit 80,fO "check_term" "check_term" zaW "likefill.terms" 255 79) ::
 (nat_lit 86,cO "is_term" "is_term" 283 284 285 34 2 3 81 true 181 82 .none (.ref 83) (.ref 84) 85 288 289) ::
 (nat_lit 87,fO "is_term" "is_term" zbR "likefill.terms" 255 86) ::
 (nat_lit 93,cO "walked" "walked" 291 292 293 40 1 3 88 true 181 89 .none (.ref 90) (.ref 91) 92 298 299) ::
 (nat_lit 94,fO "walked" "walked" zck "likefill.terms" 255 93) ::
 (nat_lit 100,cO "order_mark" "order_mark" 301 302 303 49 1 3 95 true 181 96 .none (.ref 97) (.ref 98) 99 305 306) ::
 (nat_lit 101,fO "order_mark" "order_mark" za5 "likefill.terms" 255 100) ::
 (nat_lit 105,cO "order_key" "order_key" 308 309 310 53 1 3 102 true 181 103 .none .none .none 104 311 312) ::
 (nat_lit 106,fO "order_key" "order_key" za6 "likefill.terms" 255 105) ::
 (nat_lit 112,cO "opened" "opened" 314 315 316 57 2 3 107 true 181 108 .none (.ref 109) (.ref 110) 111 319 320) ::
 (nat_lit 113,fO "opened" "opened" zcm "likefill.terms" 255 112) ::
 (nat_lit 119,cO "flat_sum" "flat_sum" 322 323 324 61 3 3 114 true 181 115 .none (.ref 116) (.ref 117) 118 330 331) ::
 (nat_lit 120,fO "flat_sum" "flat_sum" zbv "likefill.terms" 255 119) ::
 (nat_lit 126,cO "flat_of_parts" "flat_of_parts" 333 334 335 71 3 3 121 true 181 122 .none (.ref 123) (.ref 124) 125 340 341) ::
 (nat_lit 127,fO "flat_of_parts" "flat_of_parts" zaF "likefill.terms" 255 126) ::
 (nat_lit 131,cO "from_within" "from_within" 343 344 345 76 3 3 128 true 181 129 .none .none .none 130 346 347) ::
 (nat_lit 132,fO "from_within" "from_within" zaI "likefill.terms" 255 131) ::
 (nat_lit 138,cO "put_in" "put_in" 349 350 351 85 3 3 133 true 181 134 .none (.ref 135) (.ref 136) 137 356 357) ::
 (nat_lit 139,fO "put_in" "put_in" zaS "likefill.terms" 255 138) ::
 (nat_lit 145,cO "flat" "flat" 359 360 361 87 2 3 140 true 181 141 .none (.ref 142) (.ref 143) 144 364 365) ::
 (nat_lit 146,fO "flat" "flat" zer "likefill.terms" 255 145) ::
 (nat_lit 152,cO "write" "write" 369 370 371 91 2 3 147 true 181 148 .none (.ref 149) (.ref 150) 151 377 378) ::
 (nat_lit 153,fO "write" "write" zc3 "likefill.texts" 367 152) ::
 (nat_lit 159,cO "pieces" "pieces" 380 381 382 102 1 3 154 true 181 155 .none (.ref 156) (.ref 157) 158 386 387) ::
 (nat_lit 160,fO "pieces" "pieces" zcl "likefill.texts" 367 159) ::
 (nat_lit 166,cO "read" "read" 389 390 391 108 2 3 161 true 181 162 .none (.ref 163) (.ref 164) 165 395 396) ::
 (nat_lit 167,fO "read" "read" zeq "likefill.texts" 367 166) ::
 (nat_lit 173,cO "unbracketed" "unbracketed" 398 399 400 115 1 3 168 true 181 169 .none (.ref 170) (.ref 171) 172 405 406) ::
 (nat_lit 174,fO "unbracketed" "unbracketed" zaY "likefill.texts" 367 173) ::
 (nat_lit 185,cO "__init__" "Signs.__init__" 432 433 434 140 3 3 182 true 181 183 .none .none .none 184 435 436) ::
 (nat_lit 186,fO "__init__" "Signs.__init__" zaw "likefill.signs" 408 185) ::
 (nat_lit 206,cO "many" "Signs.many" 452 453 454 157 2 3 201 true 181 202 .none (.ref 203) (.ref 204) 205 457 458) ::
 (nat_lit 207,fO "many" "Signs.many" zba "likefill.signs" 408 206) ::
 (nat_lit 213,cO "nought" "Signs.nought" 460 461 462 160 2 3 208 true 181 209 .none (.ref 210) (.ref 211) 212 465 466) ::
 (nat_lit 214,fO "nought" "Signs.nought" zaO "likefill.signs" 408 213) ::
 (nat_lit 216,dO [eO P "__module__" 427 (.str "likefill.signs" 408),eO P "__firstlineno__" 431 (.int 138 430),eR P "__init__" 437 186,eR P "fixed" 444 193,eR P "sums" 451 200,eR P "many" 459 207,eR P "nought" 467 214,eR P "__static_attributes__" 472 215,eR P "__dict__" 474 218,eR P "__weakref__" 476 219,eO P "__doc__" 477 .none] 4) ::
 (nat_lit 217,⟨.type "type",none,.cls ⟨"Signs",[(.type "object")],[(.ref 217),(.type "object")],216,"Signs",true,[],[],false,none,false⟩,#[none,none,some (.str "Signs" 420),some (.str "Signs" 428),some (.builtin "object.__new__"),some (.bool true)]⟩) ::
 (nat_lit 225,cO "is_name" "is_name" 480 481 482 162 1 3 222 true 181 223 .none .none .none 224 483 484) ::
 (nat_lit 226,fO "is_name" "is_name" zbF "likefill.signs" 408 225) ::
 (nat_lit 232,cO "is_whole" "is_whole" 486 487 488 166 1 3 227 true 181 228 .none (.ref 229) (.ref 230) 231 490 491) ::
 (nat_lit 233,fO "is_whole" "is_whole" zbt "likefill.signs" 408 232) ::
 (nat_lit 237,cO "checked_pairs" "checked_pairs" 493 494 495 168 3 3 234 true 181 235 .none .none .none 236 496 497) ::
 (nat_lit 238,fO "checked_pairs" "checked_pairs" zaA "likefill.signs" 408 237) ::
 (nat_lit 242,cO "check_names" "check_names" 499 500 501 175 1 3 239 true 181 240 .none .none .none 241 502 503) ::
 (nat_lit 243,fO "check_names" "check_names" zaE "likefill.signs" 408 242) ::
 (nat_lit 247,cO "check_parts" "check_parts" 505 506 507 181 1 3 244 true 181 245 .none .none .none 246 508 509) ::
 (nat_lit 248,fO "check_parts" "check_parts" zaJ "likefill.signs" 408 247) ::
 (nat_lit 252,cO "check_noughts" "check_noughts" 511 512 513 187 2 3 249 true 181 250 .none .none .none 251 514 515) ::
 (nat_lit 253,fO "check_noughts" "check_noughts" zaB "likefill.signs" 408 252) ::
 (nat_lit 259,cO "_law_cell" "_law_cell" 519 520 521 195 2 3 254 true 181 255 .none (.ref 256) (.ref 257) 258 524 525) ::
 (nat_lit 260,fO "_law_cell" "_law_cell" zbn "law_likefill_k17_whole_text_and_back" 517 259) ::
 (nat_lit 266,cO "_law_pot" "_law_pot" 527 528 529 199 2 3 261 true 181 262 .none (.ref 263) (.ref 264) 265 533 534) ::
 (nat_lit 267,fO "_law_pot" "_law_pot" zbw "law_likefill_k17_whole_text_and_back" 517 266) ::
 (nat_lit 273,cO "_law_take" "_law_take" 536 537 538 202 2 3 268 true 181 269 .none (.ref 270) (.ref 271) 272 542 543) ::
 (nat_lit 274,fO "_law_take" "_law_take" zbm "law_likefill_k17_whole_text_and_back" 517 273) ::
 (nat_lit 280,cO "_law_word" "_law_word" 545 546 547 209 2 3 275 true 181 276 .none (.ref 277) (.ref 278) 279 552 553) ::
 (nat_lit 281,fO "_law_word" "_law_word" zbl "law_likefill_k17_whole_text_and_back" 517 280) ::
 (nat_lit 287,cO "_law_names" "_law_names" 555 556 557 215 2 3 282 true 181 283 .none (.ref 284) (.ref 285) 286 564 565) ::
 (nat_lit 288,fO "_law_names" "_law_names" za7 "law_likefill_k17_whole_text_and_back" 517 287) ::
 (nat_lit 292,cO "_law_signs" "_law_signs" 567 568 569 224 1 3 289 true 181 290 .none .none .none 291 570 571) ::
 (nat_lit 293,fO "_law_signs" "_law_signs" zaK "law_likefill_k17_whole_text_and_back" 517 292) ::
 (nat_lit 299,cO "_law_drawn" "_law_drawn" 573 574 575 238 1 3 294 true 181 295 .none (.ref 296) (.ref 297) 298 581 582) ::
 (nat_lit 300,fO "_law_drawn" "_law_drawn" za9 "law_likefill_k17_whole_text_and_back" 517 299) ::
 (nat_lit 304,cO "_law_leaf" "_law_leaf" 584 585 586 246 3 3 301 true 181 302 .none .none .none 303 587 588) ::
 (nat_lit 305,fO "_law_leaf" "_law_leaf" za8 "law_likefill_k17_whole_text_and_back" 517 304) ::
 (nat_lit 309,cO "_law_heads" "_law_heads" 590 591 592 250 2 3 306 true 181 307 .none .none .none 308 593 594) ::
 (nat_lit 310,fO "_law_heads" "_law_heads" zaL "law_likefill_k17_whole_text_and_back" 517 309) ::
 (nat_lit 316,cO "_law_term" "_law_term" 596 597 598 255 5 3 311 true 181 312 .none (.ref 313) (.ref 314) 315 611 612) ::
 (nat_lit 317,fO "_law_term" "_law_term" zaZ "law_likefill_k17_whole_text_and_back" 517 316) ::
 (nat_lit 321,cO "_law_written" "_law_written" 614 615 616 269 1 3 318 true 181 319 .none .none .none 320 617 618) ::
 (nat_lit 322,fO "_law_written" "_law_written" zau "law_likefill_k17_whole_text_and_back" 517 321) ::
 (nat_lit 326,cO "_law_tupled" "_law_tupled" 620 621 622 273 1 3 323 true 181 324 .none .none .none 325 623 624) ::
 (nat_lit 327,fO "_law_tupled" "_law_tupled" zaz "law_likefill_k17_whole_text_and_back" 517 326) ::
 (nat_lit 333,cO "_law_goes_round" "_law_goes_round" 626 627 628 277 2 3 328 true 181 329 .none (.ref 330) (.ref 331) 332 633 634) ::
 (nat_lit 334,fO "_law_goes_round" "_law_goes_round" zax "law_likefill_k17_whole_text_and_back" 517 333) ::
 (nat_lit 340,cO "law" "law" 636 637 638 283 1 3 335 true 181 336 .none (.ref 337) (.ref 338) 339 646 647) ::
 (nat_lit 341,fO "law" "law" zeX "law_likefill_k17_whole_text_and_back" 517 340) :: []
noncomputable def as0:List Addr:=[3,23,24,36,37,48,49,60,61,67,68,74,75,79,80,86,87,93,94,100,101,105,106,112,113,119,120,126,127,131,132,138,139,145,146,152,153,159,160,166,167,173,174,185,186,206,207,213,214,216,217,225,226,232,233,237,238,242,243,247,248,252,253,259,260,266,267,273,274,280,281,287,288,292,293,299,300,304,305,309,310,316,317,321,322,326,327,333,334,340,341]
noncomputable def without (ks:List Nat):Nat->List Stmt->List Stmt
 | _,[]=>[]
 | i,s :: r=>if i ∈ ks then without ks (i + 1) r else s :: without ks (i + 1) r
noncomputable def q0:Program:={ PySem.Challenge.pw_likefill_k17_whole_text_and_back with main:={ PySem.Challenge.pw_likefill_k17_whole_text_and_back.main with body:=without [0,5,22,27,40] 0 PySem.Challenge.pw_likefill_k17_whole_text_and_back.main.body } }
noncomputable def Xt0:Shared->Bool:=fun s=>xlAt q0 [] s && recOk (RowW.records PySem.Challenge.rw_likefill_k17_whole_text_and_back.row.toRowW) s
theorem znY {p q:Program}{Xt:Shared->Bool}{α:Type}{Yf:Shared->α}{Ya:World->α}{N:Nat}
  (e:opening p=plainProg p.main.scope.names) (n:Nat.ble 600 N=true) (fm:∀ s,fenceModules? p s=some s)
  (h:∀ w os,(topFrom treeTable p w N ⟨boot_heap w.params,⟨[]⟩,boot_drawn,boot_toks,os⟩).map (fun s=>(openSeen q [] (importedModules p.main.body) Xt true s,Yf s))=some (openGood q [],Ya w)):LeftO p q [] Xt Yf Ya N:=fun w=>by
 obtain ⟨s,e1,e2⟩:=Option.map_eq_some_iff.mp (boot_open e n fm w)
 obtain ⟨h1,h2,h3,h4,os⟩:=s
 cases e2
 unfold openEnds
 rw [e1]
 exact h w os
theorem left0:LeftO PySem.Challenge.rw_likefill_k17_whole_text_and_back.row.prog q0 [] Xt0 (fun s=>as0.map s.heap.get?) (fun w=>(K0 w.params).map fun p=>some p.2) 4896 :=
 znY (by kernel_rfl) (by kernel_rfl) (fun s=>by kernel_rfl) (fun w os=>by unfold topFrom;rw [PySem.W.Fast.te14082659384304107361,PySem.W.Fast.te4187177175401517315,PySem.W.Fast.te14364793385576792824];kernel_rfl)
theorem keys0:∀ P,as0=(K0 P).map (·.1):=fun P=>by kernel_rfl
end Lw
namespace L2
open PySem PySem.Spec PyProof.Rows
noncomputable abbrev Key:=Sum Int Str
noncomputable def keyIs:Key->Value->Bool
 | .inl k,v=>Value.isInt k v
 | .inr x,v=>Value.isStrOf x v
noncomputable def keyH (w:World):Key->Int
 | .inl k=>hashInt k
 | .inr x=>hashStr w x
theorem za0:∀ {k:Key} {v:Value},keyIs k v=true->(∃ i t,k=Sum.inl i/\v=Value.int i t)∨(∃ x t,k=Sum.inr x/\v=Value.str x t)
 | .inl i,v,h=>by
  obtain ⟨t,e⟩:=Value.isInt_shape (k:=i) (v:=v) h
  exact .inl ⟨i,t,rfl,e⟩
 | .inr x,v,h=>by
  obtain ⟨t,e⟩:=Value.isStrOf_shape (x:=x) (v:=v) h
  exact .inr ⟨x,t,rfl,e⟩
theorem zkM (i:Int)(t:Tok):keyIs (.inl i) (.int i t)=true:=by simp [keyIs,Value.isInt]
theorem zgI (x:Str)(t:Tok):keyIs (.inr x) (.str x t)=true:=by simp [keyIs,Value.isStrOf]
theorem zpb (a b:Int):decide ((Sum.inl a:Key)=Sum.inl b)=(a == b):=by
 by_cases e:a=b
 ·subst e;simp
 ·have h:¬ (Sum.inl a:Key)=Sum.inl b:=fun q=>e (Sum.inl.inj q)
  rw [decide_eq_false h]
  exact (beq_eq_false_iff_ne.mpr e).symm
theorem zo8 (a b:Str):decide ((Sum.inr a:Key)=Sum.inr b)=decide (a=b):=by
 by_cases e:a=b
 ·subst e;simp
 ·have h:¬ (Sum.inr a:Key)=Sum.inr b:=fun q=>e (Sum.inr.inj q)
  rw [decide_eq_false h,decide_eq_false e]
theorem zpa (a:Int)(b:Str):decide ((Sum.inl a:Key)=Sum.inr b)=false:=decide_eq_false (fun q=>nomatch q)
theorem zo9 (a:Str)(b:Int):decide ((Sum.inr a:Key)=Sum.inl b)=false:=decide_eq_false (fun q=>nomatch q)
noncomputable def zaV (prog:Program)(w:World):PySem.KeyKind prog w Key where
 is:=keyIs
 hash:=keyH w
 inj:=fun v a b ha hb=>by
  rcases za0 ha with ⟨i,t,rfl,rfl⟩ | ⟨x,t,rfl,rfl⟩
  ·rcases za0 hb with ⟨j,u,rfl,e⟩ | ⟨y,u,rfl,e⟩
   ·injection e with e1 _;rw [e1]
   ·exact nomatch e
  ·rcases za0 hb with ⟨j,u,rfl,e⟩ | ⟨y,u,rfl,e⟩
   ·exact nomatch e
   ·injection e with e1 _;rw [e1]
 byValue:=fun k v h=>by
  rcases za0 h with ⟨i,t,rfl,rfl⟩ | ⟨x,t,rfl,rfl⟩ <;> rfl
 pyHash:=fun hv h=>by
  rcases za0 hv with ⟨i,t,rfl,rfl⟩ | ⟨x,t,rfl,rfl⟩
  ·exact wpAny_pyHash_int h
  ·exact wpAny_pyHash_str h
 eqBool:=fun hu hv h=>by
  rcases za0 hu with ⟨i,t,rfl,rfl⟩ | ⟨x,t,rfl,rfl⟩
  ·rcases za0 hv with ⟨j,u,rfl,rfl⟩ | ⟨y,u,rfl,rfl⟩
   ·rw [zpb] at h;exact wpAny_eqBool_int h
   ·rw [zpa] at h;exact SeqAt.EqAt.int_str i t y u _ _ _ _ h
  ·rcases za0 hv with ⟨j,u,rfl,rfl⟩ | ⟨y,u,rfl,rfl⟩
   ·rw [zo9] at h;exact SeqAt.EqAt.str_int x t j u _ _ _ _ h
   ·rw [zo8] at h;exact wpAny_eqBool_str h
 «strs»:=fun k x t v h=>by
  rcases za0 h with ⟨i,u,rfl,e⟩ | ⟨y,u,rfl,e⟩
  ·exact nomatch e
  ·injection e with e1 _
   subst e1
   cases v <;> rfl
theorem zhF (prog:Program)(w:World)(i:Int)(t:Tok):(zaV prog w).is (.inl i) (.int i t)=true:=zkM i t
theorem zhE (prog:Program)(w:World)(x:Str)(t:Tok):(zaV prog w).is (.inr x) (.str x t)=true:=zgI x t
end L2
namespace L2
open PySem PySem.Spec PyProof.Rows
inductive V where
 | non | bl (b:Bool) | int (i:Int) | str (x:Str) | byt (b:Array UInt8) | flt (b:UInt64) | ref (a:Addr) | ty (n:String)
 deriving DecidableEq
noncomputable def RelV:V->Value->Prop
 | .non,u=>u=Value.none
 | .bl b,u=>u=Value.bool b
 | .int i,u=>∃ t,u=Value.int i t
 | .str x,u=>∃ t,u=Value.str x t
 | .byt b,u=>∃ t,u=Value.bytes b t
 | .flt b,u=>∃ t,u=Value.float b t
 | .ref a,u=>u=Value.ref a
 | .ty n,u=>u=Value.type n
noncomputable abbrev Vals:List V->List Value->Prop:=Paired RelV
theorem Vals.length {xs:List V}{us:List Value}(r:Vals xs us):xs.length=us.length:=Paired.length r
theorem Vals.get:∀ {xs:List V} {us:List Value} {i:Nat} {x:V},Vals xs us->xs[i]?=some x->∃ u,us[i]?=some u/\RelV x u
 | _,_,_,_,.nil,e=>by simp at e
 | _,_,0,_,.cons r _,e=>by simp at e;subst e;exact ⟨_,rfl,r⟩
 | _,_,i + 1,x,.cons _ t,e=>by
  obtain ⟨u,h1,h2⟩:=Vals.get (i:=i) (x:=x) t (by simpa using e)
  exact ⟨u,by simpa using h1,h2⟩
theorem Vals.set {x:V}{u:Value}(r:RelV x u):∀ {xs:List V} {us:List Value} (i:Nat),Vals xs us->Vals (xs.set i x) (us.set i u)
 | _,_,_,.nil=>.nil
 | _,_,0,.cons _ t=>.cons r t
 | _,_,i + 1,.cons q t=>.cons q (Vals.set r i t)
theorem Vals.append:∀ {xs ys:List V} {us ws:List Value},Vals xs us->Vals ys ws->Vals (xs ++ ys) (us ++ ws)
 | _,_,_,_,.nil,s=>s
 | _,_,_,_,.cons r t,s=>.cons r (Vals.append t s)
theorem Vals.take:∀ {xs:List V} {us:List Value} (n:Nat),Vals xs us->Vals (xs.take n) (us.take n)
 | _,_,0,_=>.nil
 | _,_,_ + 1,.nil=>.nil
 | _,_,n + 1,.cons r t=>.cons r (Vals.take n t)
theorem Vals.drop:∀ {xs:List V} {us:List Value} (n:Nat),Vals xs us->Vals (xs.drop n) (us.drop n)
 | _,_,0,r=>r
 | _,_,_ + 1,.nil=>.nil
 | _,_,n + 1,.cons _ t=>Vals.drop n t
noncomputable def RelO:Option V->Option Value->Prop
 | some v,some u=>RelV v u
 | none,none=>True
 | _,_=>False
noncomputable def KV {κ:Type}:List (κ×V)->List (κ×Value)->Prop:=Paired fun (p:κ×V) (q:κ×Value)=>p.1=q.1/\RelV p.2 q.2
noncomputable def kV:Key->V
 | .inl i=>.int i
 | .inr x=>.str x
inductive HO where
 /-- a list -/
 | lst (xs:List V)
 /-- a tuple (never changes) -/
 | tup (xs:List V)
 /-- a dict whose keys are ints and texts;one whose keys are tuples of ints and texts (the empty one is both) -/
 | dK (kvs:List (Key×V)) | dT (kvs:List (List Key×V))
 /-- a set of ints: its members,its size -/
 | set (S:Int->Bool) (n:Nat)
 /-- an instance of the class at C,its dict at dx,its attributes -/
 | ins (C dx:Addr) (fs:List (Str×V))
 /-- the dict of the instance at x -/
 | own (x:Addr)
 /-- the dict of an exception -/
 | xd (fs:List (Str×V))
 /-- a bound method,f of x -/
 | met (f x:Addr)
 /-- a range object lo,lo + 1,.. below hi -/
 | rng (lo hi:Int)
 /-- a thing that is known to the object (the script;a dict while a loop walks it): read,never written while it is so -/
 | frz (o:Obj) (u:HO)
 /-- a code object's table -/
 | tbl (ps:Array Value)
 /-- any other thing,by what is true of its one object (a def of one's own: SetO a S n:=HO.ext fun h=>..) -/
 | ext (φ:Heap->Prop)
noncomputable abbrev Hp:=Addr->Option HO
noncomputable def upd (H:Hp)(a:Addr)(o:HO):Hp:=fun b=>if b=a then some o else H b
theorem upd_same {H:Hp}{a:Addr}{o:HO}:upd H a o a=some o:=by unfold upd;rw [if_pos rfl]
theorem zac {H:Hp}{a b:Addr}{o:HO}(h:b≠a):upd H a o b=H b:=by unfold upd;rw [if_neg h]
theorem upd_upd {H:Hp}{a:Addr}{o u:HO}:upd (upd H a o) a u=upd H a u:=by
 funext b;unfold upd;split <;> rfl
theorem zab {H:Hp}{a b:Addr}{o:HO}(h:H a=some o)(h':H b=none):a≠b:=by
 intro e;subst e;rw [h] at h';cases h'
section
variable (P:Program)(w:World)
noncomputable def ObjOk (H:Hp)(h:Heap)(a:Addr):HO->Prop
 | .lst xs=>xs.length<=sizeLine/\∃ (its:List Value) (n:Nat),Vals xs its/\h.get? a=some { cls:=.type "list",data:=.seq its.toArray n }
 | .tup xs=>xs.length<=sizeLine/\∃ its:List Value,Vals xs its/\IsTup h a its.toArray
 | .dK kvs=>kvs.length<=sizeLine/\(a == sysModules)=false/\∃ vs,KV kvs vs/\h.DictOf (zaV P w) a vs
 | .dT kvs=>kvs.length<=sizeLine/\(a == sysModules)=false/\∃ xs:List (List Key×Addr×Value),
   Paired (fun (p:List Key×V) (q:List Key×Addr×Value)=>p.1=q.1/\H q.2.1=some (.tup (p.1.map kV))/\RelV p.2 q.2.2) kvs xs /\
   ∃ o es ep,h.get? a=some o/\o.ExactDict/\o.data = .dict es ep/\es.toList=xs.map (entryOfKey (tupleKind (zaV P w)))/\(xs.map (·.1)).Nodup
 | .set S n=>h.SetOf (intKind P w) a S n
 | .ins C dx fs=>H dx=some (.own a)/\fs.length<=1000/\dx≠a/\h.get? a=some (PySem.W.instObj C dx) /\
   ∃ mA,h.Ns1 dx mA/\(∀ f,RelO (fs.lookup f) (mA f))/\PySem.Within mA (fs.map (·.1))
 | .own _=>∃ o,h.get? a=some o
 | .xd fs=>∃ mA,h.Ns1 a mA/\∀ f,RelO (fs.lookup f) (mA f)
 | .rng lo hi=>∃ t u v,h.get? a=some { cls:=.type "range",data:=.fields #[.int lo t,.int hi u,.int 1 v] }
 | .frz o u=>h.get? a=some o/\ObjOk H h a u
 | .tbl ps=>h.get? a=some { cls:=.none,data:=.fields ps }
 | .met f x=>h.get? a=some (PySem.W.methodObj (.ref f) (.ref x))
 | .ext φ=>φ h/\(∃ o,h.get? a=some o)/\∀ h1 h2:Heap,φ h1->(∀ o,h1.get? a=some o->h2.get? a=some o)->φ h2
noncomputable def HOk (H:Hp)(h:Heap):Prop:=∀ a o,H a=some o->ObjOk P w H h a o
end
section
variable {P:Program}{w:World}{H H':Hp}{h h':Heap}{a:Addr}{o:HO}
theorem ObjOk.lt (x:ObjOk P w H h a o):a < h.objs.size:=by
 cases o with
 | lst xs=>obtain ⟨_,_,_,_,e⟩:=x;exact Heap.lt_size e
 | tup xs=>obtain ⟨_,_,_,p⟩:=x;exact p.lt
 | dK kvs=>obtain ⟨_,_,_,_,o,_,_,e,_⟩:=x;exact Heap.lt_size e
 | dT kvs=>obtain ⟨_,_,_,_,o,_,_,e,_⟩:=x;exact Heap.lt_size e
 | set S n=>obtain ⟨o,_,_,_,e,_⟩:=x;exact Heap.lt_size e
 | ins C dx fs=>obtain ⟨_,_,_,e,_⟩:=x;exact Heap.lt_size e
 | own y=>obtain ⟨_,e⟩:=x;exact Heap.lt_size e
 | xd fs=>obtain ⟨_,⟨_,_,_,e,_⟩,_⟩:=x;exact Heap.lt_size e
 | rng lo hi=>obtain ⟨_,_,_,e⟩:=x;exact Heap.lt_size e
 | frz ob u=>obtain ⟨e,_⟩:=x;exact Heap.lt_size e
 | tbl ps=>exact Heap.lt_size (show h.get? a=some _ from x)
 | met f y=>exact Heap.lt_size (show h.get? a=some _ from x)
 | ext φ=>obtain ⟨_,⟨_,e⟩,_⟩:=x;exact Heap.lt_size e
theorem Paired.mapP {α β:Type}{F G:α->β->Prop}:∀ {l₁:List α} {l₂:List β},Paired F l₁ l₂->(∀ a b,F a b->G a b)->Paired G l₁ l₂
 | _,_,.nil,_=>.nil
 | _,_,.cons r t,f=>.cons (f _ _ r) (Paired.mapP t f)
theorem ObjOk.stay (x:ObjOk P w H h a o)(k:∀ b u,(b=a∨H b=some (.own a))->h.get? b=some u->h'.get? b=some u)
  (ho:∀ b,H b=some (.own a)->H' b=some (.own a)) (ht:∀ b xs,H b=some (.tup xs)->H' b=some (.tup xs)):ObjOk P w H' h' a o:=by
 induction o with
 | lst xs=>obtain ⟨z,its,n,r,e⟩:=x;exact ⟨z,its,n,r,k _ _ (.inl rfl) e⟩
 | tup xs=>obtain ⟨z,its,r,ob,e,c⟩:=x;exact ⟨z,its,r,ob,k _ _ (.inl rfl) e,c⟩
 | dK kvs=>obtain ⟨z,y,vs,r,ob,es,ep,e,c⟩:=x;exact ⟨z,y,vs,r,ob,es,ep,k _ _ (.inl rfl) e,c⟩
 | dT kvs =>
  obtain ⟨z,y,xs,r,ob,es,ep,e,c⟩:=x
  exact ⟨z,y,xs,Paired.mapP r fun p q z=>⟨z.1,ht _ _ z.2.1,z.2.2⟩,ob,es,ep,k _ _ (.inl rfl) e,c⟩
 | set S n=>obtain ⟨ob,es,ep,t,e,c⟩:=x;exact ⟨ob,es,ep,t,k _ _ (.inl rfl) e,c⟩
 | ins C dx fs =>
  obtain ⟨d,z,ne,e,mA,⟨od,es,ep,e2,c⟩,r⟩:=x
  exact ⟨ho _ d,z,ne,k _ _ (.inl rfl) e,mA,⟨od,es,ep,k _ _ (.inr d) e2,c⟩,r⟩
 | own y=>obtain ⟨ob,e⟩:=x;exact ⟨ob,k _ _ (.inl rfl) e⟩
 | xd fs=>obtain ⟨mA,⟨od,es,ep,e,c⟩,r⟩:=x;exact ⟨mA,⟨od,es,ep,k _ _ (.inl rfl) e,c⟩,r⟩
 | rng lo hi=>obtain ⟨t,u,v,e⟩:=x;exact ⟨t,u,v,k _ _ (.inl rfl) e⟩
 | frz ob u ih=>obtain ⟨e,q⟩:=x;exact ⟨k _ _ (.inl rfl) e,ih q⟩
 | tbl ps =>
  have e:h.get? a=some { cls:=.none,data:=.fields ps }:=x
  show h'.get? a=some { cls:=.none,data:=.fields ps }
  exact k a _ (.inl rfl) e
 | met f y =>
  have e:h.get? a=some (PySem.W.methodObj (.ref f) (.ref y)):=x
  show h'.get? a=some (PySem.W.methodObj (.ref f) (.ref y))
  exact k a _ (.inl rfl) e
 | ext φ=>obtain ⟨p,⟨o,e⟩,st⟩:=x;exact ⟨st _ _ p fun o q=>k _ _ (.inl rfl) q,⟨o,k _ _ (.inl rfl) e⟩,st⟩
theorem HOk.lt (x:HOk P w H h)(e:H a=some o):a < h.objs.size:=(x a o e).lt
theorem HOk.fresh (x:HOk P w H h)(e:h.objs.size<=a):H a=none:=by
 cases q:H a with
 | none=>rfl
 | some u=>exact absurd (Nat.lt_of_lt_of_le (x.lt q) e) (Nat.lt_irrefl _)
theorem HOk.kept (x:HOk P w H h)(k:∀ b u,h.get? b=some u->h'.get? b=some u):HOk P w H h':=fun a o e =>
 (x a o e).stay (fun b u _ q=>k b u q) (fun _ q=>q) fun _ _ q=>q
theorem HOk.laid (x:HOk P w H h)(k:∀ b u,h.get? b=some u->h'.get? b=some u)(hp:h.objs.size<=a)(new:ObjOk P w (upd H a o) h' a o):HOk P w (upd H a o) h':=fun b u e=>by
 have hn:=x.fresh hp
 by_cases hb:b=a
 ·subst hb;rw [upd_same] at e;cases e;exact new
 ·rw [zac hb] at e
  exact (x b u e).stay (fun c v _ q=>k c v q) (fun c q=>by rw [zac (zab q hn)];exact q) fun c xs q=>by rw [zac (zab q hn)];exact q
end
noncomputable def Rd (H:Hp)(a:Addr)(u:HO):Prop:=H a=some u∨∃ o,H a=some (.frz o u)
theorem Rd.ok {P:Program}{w:World}{H:Hp}{h:Heap}{a:Addr}{u:HO}(r:Rd H a u)(x:HOk P w H h):ObjOk P w H h a u:=by
 rcases r with r | ⟨o,r⟩
 ·exact x a u r
 ·obtain ⟨_,q⟩:=x a _ r
  exact q
noncomputable def Mut:Option HO->Prop
 | some (.lst _)=>True
 | some (.dK _)=>True
 | some (.dT _)=>True
 | some (.set _ _)=>True
 | some (.ins _ _ _)=>True
 | some (.ext _)=>True
 | _=>False
section
variable {P:Program}{w:World}{H:Hp}{h h':Heap}{x e:Addr}{o':HO}
theorem HOk.write (ok:HOk P w H h)(mu:Mut (H x))(he:e=x∨H e=some (.own x))(k:∀ b u,b≠e->h.get? b=some u->h'.get? b=some u)(heo:∃ u,h'.get? e=some u)
  (new:ObjOk P w (upd H x o') h' x o'):HOk P w (upd H x o') h':=fun b u q=>by
 have nown:∀ c y,H c=some (.own y)->c≠x:=fun c y r z=>by subst z;rw [r] at mu;exact mu
 have ntup:∀ c xs,H c=some (.tup xs)->c≠x:=fun c xs r z=>by subst z;rw [r] at mu;exact mu
 by_cases hb:b=x
 ·subst hb;rw [upd_same] at q;cases q;exact new
 ·rw [zac hb] at q
  by_cases hbe:b=e
  ·have q':H b=some (.own x):=by
    rcases he with z | z
    ·exact absurd (hbe.trans z) hb
    ·rw [hbe];exact z
   rw [q] at q';cases q'
   obtain ⟨v,hv⟩:=heo
   exact ⟨v,by rw [hbe];exact hv⟩
  ·refine (ok b u q).stay (fun c v hc r=>k c v ?_ r) (fun c r=>by rw [zac (nown c b r)];exact r) fun c xs r=>by rw [zac (ntup c xs r)];exact r
   rcases hc with rfl | hc
   ·exact hbe
   ·rintro rfl
    rcases he with z | z
    ·exact nown c b hc z
    ·rw [hc] at z;cases z;exact hb rfl
end
structure Un (fs ex:List Addr)(H H':Hp)(h h':Heap):Prop where
 keep:∀ b o,h.get? b=some o->H b=none->b ∉ fs->b ∉ ex->h'.get? b=some o
 slot:∀ b o,h.get? b=some o->H b=none->b ∈ fs->b ∉ ex->∃ sl,h'.get? b=some { o with slots:=sl }
 free:∀ b o,h.get? b=some o->H b=none->b ∉ ex->H' b=none
 there:∀ b o,h.get? b=some o->b ∉ ex->∃ o',h'.get? b=some o'
 tups:∀ b xs,H b=some (.tup xs)->H' b=some (.tup xs)
 frzs:∀ b o u,H b=some (.frz o u)->H' b=some (.frz o u)
 tbls:∀ b ps,H b=some (.tbl ps)->∃ more,H' b=some (.tbl (ps ++ more))
section
variable {fs fs' ex ex':List Addr}{H H1 H2:Hp}{h h1 h2 h':Heap}{a x e:Addr}{o:HO}
theorem Un.any (u:Un fs ex H H1 h h1){b:Addr}{ob:Obj}(q:h.get? b=some ob)(n:H b=none)(hx:b ∉ ex):∃ sl,h1.get? b=some { ob with slots:=sl }:=by
 by_cases hb:b ∈ fs
 ·exact u.slot b ob q n hb hx
 ·exact ⟨ob.slots,u.keep b ob q n hb hx⟩
theorem Un.kept (k:∀ b u,h.get? b=some u->h'.get? b=some u):Un fs ex H H h h' :=
 ⟨fun b ob q _ _ _=>k b ob q,fun b ob q _ _ _=>⟨ob.slots,k b ob q⟩,fun _ _ _ n _=>n,fun b ob q _=>⟨ob,k b ob q⟩,fun _ _ q=>q,fun _ _ _ q=>q,fun _ ps q=>⟨#[],by rw [q];simp⟩⟩
theorem Un.refl:Un fs ex H H h h:=Un.kept fun _ _ q=>q
theorem Un.laid (k:∀ b u,h.get? b=some u->h'.get? b=some u)(hp:h.objs.size<=a)(hn:H a=none):Un fs ex H (upd H a o) h h' where
 keep:=fun b u q _ _ _=>k b u q
 slot:=fun b u q _ _ _=>⟨u.slots,k b u q⟩
 free:=fun b u q n _=>by rw [zac (Nat.ne_of_lt (Nat.lt_of_lt_of_le (Heap.lt_size q) hp))];exact n
 there:=fun b u q _=>⟨u,k b u q⟩
 tups:=fun b xs q=>by rw [zac (zab q hn)];exact q
 frzs:=fun b u xs q=>by rw [zac (zab q hn)];exact q
 tbls:=fun b ps q=>⟨#[],by rw [zac (zab q hn),q];simp⟩
theorem Un.write (mu:Mut (H x))(he:e=x∨H e=some (.own x))(k:∀ b u,b≠e->h.get? b=some u->h'.get? b=some u)(heo:∃ u,h'.get? e=some u):Un fs ex H (upd H x o) h h':=by
 have hx:∀ b,H b=none->b≠x:=fun b n z=>by subst z;rw [n] at mu;exact mu
 have hb:∀ b,H b=none->b≠e:=fun b n z=>by
  subst z
  rcases he with r | r
  ·exact hx b n r
  ·rw [n] at r;cases r
 have hm:∀ b u,H b=some u->¬ Mut (some u)->b≠x:=fun b u q nm z=>by subst z;rw [q] at mu;exact nm mu
 refine ⟨fun b u q n _ _=>k b u (hb b n) q,fun b u q n _ _=>⟨u.slots,k b u (hb b n) q⟩,fun b u q n _=>by rw [zac (hx b n)];exact n,fun b u q _=>?_,
  fun b xs q=>by rw [zac (hm b _ q fun z=>z)];exact q,fun b u xs q=>by rw [zac (hm b _ q fun z=>z)];exact q,fun b ps q=>⟨#[],by rw [zac (hm b _ q fun z=>z),q];simp⟩⟩
 by_cases hbe:b=e
 ·subst hbe;exact heo
 ·exact ⟨u,k b u hbe q⟩
end
noncomputable def trk (h:Heap)(H:Hp):List Addr:=(List.range h.objs.size).filter fun a=>(H a).isSome
noncomputable def hidT (h:Heap)(H:Hp):Heap:=PySem.W.hideAll h (trk h H)
theorem zkT (h:Heap)(H:Hp):(hidT h H).objs.size=h.objs.size:=PySem.W.hideAll_size _ _
theorem zfT {h:Heap}{H:Hp}{b:Addr}{o:Obj}(e:h.get? b=some o)(n:H b=none):(hidT h H).get? b=some o :=
 PySem.W.hideAll_get _ e fun hm=>by
  have q:(H b).isSome=true:=(List.mem_filter.mp hm).2
  rw [n] at q;simp at q
theorem znT {h:Heap}{H:Hp}{b:Addr}{o:Obj}(e:(hidT h H).get? b=some o):h.get? b=some o/\H b=none:=by
 have e':h.get? b=some o:=PySem.W.of_hideAll (trk h H) e
 refine ⟨e',?_⟩
 cases q:H b with
 | none=>rfl
 | some x =>
  have hm:b ∈ trk h H:=List.mem_filter.mpr ⟨List.mem_range.mpr (Heap.lt_size e'),by simp [q]⟩
  have z:(hidT h H).get? b=none:=PySem.W.hideAll_none (trk h H) hm
  rw [z] at e;cases e
noncomputable def zoi (g h:Heap)(L:Addr):List (Addr×Obj):=(List.range h.objs.size).filterMap fun a=>if a=L∨(g.get? a).isSome=true then none else (h.get? a).map fun o=>(a,o)
noncomputable def rest (g h:Heap)(L d:Addr):List (Addr×Obj):=(zoi g h L).filter fun p=>decide (p.1≠d)
end L2
namespace L2
open PySem PySem.Spec PyProof.Rows
structure Mod (K:PySem.W.Frag)(mg:Str->Option Value)(base:Heap):Prop where
 kin:K.In base
 glob:base.Ns mainGlobals mg
 blt:∃ mb,base.Ns builtinsNs mb/\∀ x:Str,x≠"__name__"->mb x=bootBuiltins x
 nolimit:base.NoLimit
structure Cx where
 prog:Program
 w:World
 K:PySem.W.Frag
 mg:Str->Option Value
 base:Heap
 A:Around
 N:List Str
 s₀:Shared
 H₀:Hp
 env:Env
 outer:List Env
 stack:List Env
 ex:List Addr
 fn:Str->Bool
 calm:Bool
 pn:List (Addr×Obj)
 xe:Value->Shared->Prop
noncomputable def frs (l:List Env):List Addr:=l.filterMap (·.frame)
noncomputable abbrev Cx.fs (X:Cx):List Addr:=frs X.outer
noncomputable def Vis (sc:Scope)(x:Str):Prop:=sc.names.lookup x=some .local∨sc.names.lookup x=some .cell∨sc.names.lookup x=some .free
noncomputable def Loc (sc:Scope)(x:Str):Prop:=sc.names.lookup x=some .local∨sc.names.lookup x=some .cell
noncomputable def Look (env:Env)(h:Heap)(m:Str->Option Value)(x:Str)(u:Value):Prop :=
 (env.kindOf x=some .local/\m x=some u)∨((env.kindOf x=some .cell∨env.kindOf x=some .free)/\∃ c,env.cells.lookup x=some c/\h.IsCell c (some u))
structure Cx.Ok (X:Cx):Prop where
 mod:Mod X.K X.mg X.base
 kind:X.env.scope.kind = .function
 glob:X.env.globals=mainGlobals
 blt:X.env.builtins=builtinsNs
 above:X.s₀.heap.objs.size<=X.env.locals
 inj:∀ x y c,X.env.cells.lookup x=some c->X.env.cells.lookup y=some c->x=y
 has:∀ x,(X.env.kindOf x=some .cell∨X.env.kindOf x=some .free)->∃ c,X.env.cells.lookup x=some c
 cab:∀ x c,X.fn x=true->X.env.cells.lookup x=some c->X.s₀.heap.objs.size<=c
 hd:X.calm=true->X.A.handled=none
 frames:X.A.frames=some X.stack
 stk:X.stack=X.outer∨(X.stack=X.env :: X.outer/\X.env.frame=some X.env.locals)
 exf:∀ b ∈ X.ex,b≠X.env.locals/\∀ x c,X.env.cells.lookup x=some c->c≠b
 bs:∀ b o,X.base.get? b=some o->X.s₀.heap.get? b=some o/\X.H₀ b=none
 bsz:X.base.objs.size<=X.s₀.heap.objs.size
 noex:∀ b o,X.base.get? b=some o->b ∉ X.ex
 exfs:∀ b ∈ X.ex,b ∉ X.fs
 funs:X.s₀.heap.FunFrames X.base X.outer
 frf:∀ b ∈ X.fs,X.H₀ b=none
structure Inv (X:Cx)(pins:List (Addr×Obj))(σ:List (Option V))(H:Hp)(s:Shared):Prop where
 ok:X.Ok
 os:s.os=X.s₀.os
 bare:AllBare s.gens
 base:Un X.fs X.ex X.H₀ H X.s₀.heap s.heap
 loc:∃ m,s.heap.Ns X.env.locals m/\∀ (i:Nat) (x:Str) (v:V),X.N[i]?=some x->σ[i]?=some (some v)->Vis X.env.scope x->∃ u,RelV v u/\Look X.env s.heap m x u
 cell:∀ x c,X.env.cells.lookup x=some c->∃ v,s.heap.IsCell c v
 free:H X.env.locals=none
 freeC:∀ x c,X.env.cells.lookup x=some c->H c=none
 pin:∀ p ∈ X.pn ++ pins,s.heap.get? p.1=some p.2/\H p.1=none/\p.1≠X.env.locals/\p.1 ∉ X.fs/\∀ v,p.2.data≠.cell v
 hok:HOk X.prog X.w H s.heap
 len:σ.length=X.N.length
section
variable {X:Cx}{pins:List (Addr×Obj)}{σ:List (Option V)}{H H':Hp}{s:Shared}{h':Heap}
theorem Cx.Ok.nofr (ok:X.Ok){b:Addr}{o:Obj}(e:X.base.get? b=some o):b ∉ X.fs:=fun hb=>by
 have:=(ok.funs.mem hb).1
 rw [e] at this;cases this
theorem Inv.bs (I:Inv X pins σ H s):∀ b o,X.base.get? b=some o->s.heap.get? b=some o/\H b=none:=fun b o e =>
 ⟨I.base.keep b o (I.ok.bs b o e).1 (I.ok.bs b o e).2 (I.ok.nofr e) (I.ok.noex b o e),I.base.free b o (I.ok.bs b o e).1 (I.ok.bs b o e).2 (I.ok.noex b o e)⟩
theorem Inv.bk (I:Inv X pins σ H s):∀ b o,X.base.get? b=some o->s.heap.get? b=some o:=fun b o e=>(I.bs b o e).1
theorem Inv.mod (I:Inv X pins σ H s):Mod X.K X.mg X.base:=I.ok.mod
theorem Inv.kIn (I:Inv X pins σ H s):X.K.In s.heap:=I.ok.mod.kin.keeps I.bk
theorem Inv.lt (I:Inv X pins σ H s):X.env.locals < s.heap.objs.size:=let ⟨_,hn,_⟩:=I.loc;hn.lt
theorem Inv.sz (I:Inv X pins σ H s):X.s₀.heap.objs.size<=s.heap.objs.size:=Nat.le_trans I.ok.above (Nat.le_of_lt I.lt)
theorem Inv.nofs (I:Inv X pins σ H s){a:Addr}(h:s.heap.objs.size<=a):a ∉ X.fs:=fun hb=>by
 obtain ⟨_,o,ho,_⟩:=I.ok.funs.mem hb
 exact absurd (Nat.lt_of_lt_of_le (Heap.lt_size ho) (Nat.le_trans I.sz h)) (Nat.lt_irrefl _)
theorem Inv.cne (I:Inv X pins σ H s):∀ x c,X.env.cells.lookup x=some c->c≠X.env.locals:=fun x c e z=>by
 obtain ⟨v,o,ho,hd⟩:=I.cell x c e
 obtain ⟨m,⟨o',es,ep,ho',hd',_⟩,_⟩:=I.loc
 rw [z,ho'] at ho;cases ho;rw [hd'] at hd;cases hd
theorem Inv.funs (I:Inv X pins σ H s):s.heap.FunFrames X.base X.outer:=by
 have all:∀ (l:List Env),(∀ b ∈ frs l,b ∈ X.fs)->X.s₀.heap.FunFrames X.base l->s.heap.FunFrames X.base l:=by
  intro l
  induction l with
  | nil=>intro _ _;trivial
  | cons env r ih =>
   intro hs hl
   obtain ⟨hk,⟨L,o,hf,hn,ho,hd⟩,hr⟩:=hl
   have hL:L ∈ X.fs:=hs L (by unfold frs;rw [List.filterMap_cons,hf];exact List.mem_cons_self)
   obtain ⟨sl,e⟩:=I.base.slot L o ho (I.ok.frf L hL) hL fun z=>I.ok.exfs L z hL
   exact ⟨hk,⟨L,_,hf,hn,e,hd⟩,ih (fun b hb=>hs b (by unfold frs;rw [List.filterMap_cons,hf];exact List.mem_cons_of_mem _ hb)) hr⟩
 exact all X.outer (fun _ hb=>hb) I.ok.funs
theorem Inv.stack (I:Inv X pins σ H s):s.heap.FunFrames X.base X.stack:=by
 rcases I.ok.stk with e | ⟨e,hf⟩
 ·rw [e];exact I.funs
 ·rw [e]
  obtain ⟨m,hn,_⟩:=I.loc
  refine .cons (by rw [I.ok.kind];decide) hf hn ?_ I.funs
  exact Heap.get?_none_of_le (Nat.le_trans I.ok.bsz I.ok.above)
theorem Inv.stkSub (I:Inv X pins σ H s):∀ b ∈ frs X.stack,b ∈ X.env.locals :: X.fs:=fun b hb=>by
 rcases I.ok.stk with e | ⟨e,hf⟩
 ·rw [e] at hb;exact List.mem_cons_of_mem _ hb
 ·rw [e] at hb
  unfold frs at hb
  rw [List.filterMap_cons,hf] at hb
  exact hb
theorem Inv.stkFree (I:Inv X pins σ H s):∀ b ∈ frs X.stack,H b=none:=fun b hb=>by
 rcases List.mem_cons.mp (I.stkSub b hb) with e | hb
 ·rw [e];exact I.free
 ·obtain ⟨_,o,ho,_⟩:=I.ok.funs.mem hb
  exact I.base.free b o ho (I.ok.frf b hb) fun z=>I.ok.exfs b z hb
theorem Inv.step {g':Array GenState}{t':Nat}{d':Drawn}{ch:List Addr}(I:Inv X pins σ H s)
  (hch:∀ b ∈ ch,(b ∈ X.ex∨X.s₀.heap.objs.size<=b)/\b≠X.env.locals/\(∀ x c,X.env.cells.lookup x=some c->c≠b)/\∀ p ∈ X.pn ++ pins,p.1≠b)
  (keep:∀ b o,b≠X.env.locals->b ∉ X.fs->b ∉ ch->s.heap.get? b=some o->H b=none->h'.get? b=some o)
  (slot:∀ b o,b≠X.env.locals->b ∈ X.fs->b ∉ ch->s.heap.get? b=some o->H b=none->∃ sl,h'.get? b=some { o with slots:=sl }) (free:∀ b o,b ∉ ch->s.heap.get? b=some o->H b=none->H' b=none)
  (there:∀ b o,b ∉ ch->s.heap.get? b=some o->∃ o',h'.get? b=some o')
  (tups:∀ b xs,H b=some (.tup xs)->H' b=some (.tup xs)) (frzs:∀ b o u,H b=some (.frz o u)->H' b=some (.frz o u)) (tbls:∀ b ps,H b=some (.tbl ps)->∃ more,H' b=some (.tbl (ps ++ more)))
  (ns:∀ m,s.heap.Ns X.env.locals m->h'.Ns X.env.locals m) (hok:HOk X.prog X.w H' h') (hg:AllBare g') :
  Inv X pins σ H' { s with heap:=h',gens:=g',drawn:=d',toks:=t' }:=by
 have neL:∀ b o,X.s₀.heap.get? b=some o->b≠X.env.locals:=fun b o e=>Nat.ne_of_lt (Nat.lt_of_lt_of_le (Heap.lt_size e) I.ok.above)
 have neC:∀ b o,X.s₀.heap.get? b=some o->b ∉ X.ex->b ∉ ch:=fun b o e hx hb=>by
  rcases (hch b hb).1 with z | z
  ·exact hx z
  ·exact absurd (Nat.lt_of_lt_of_le (Heap.lt_size e) z) (Nat.lt_irrefl _)
 have cellK:∀ x c,X.env.cells.lookup x=some c->∀ v,s.heap.IsCell c v->h'.IsCell c v:=fun x c e v ⟨o,ho,hd⟩=>by
  have nch:c ∉ ch:=fun z=>(hch c z).2.2.1 x c e rfl
  by_cases hc:c ∈ X.fs
  ·obtain ⟨sl,q⟩:=slot c o (I.cne x c e) hc nch ho (I.freeC x c e)
   exact ⟨_,q,hd⟩
  ·exact ⟨o,keep c o (I.cne x c e) hc nch ho (I.freeC x c e),hd⟩
 refine ⟨I.ok,I.os,hg,⟨fun b o e n hb hx=>?_,fun b o e n hb hx=>?_,fun b o e n hx=>?_,fun b o e hx=>?_,fun b xs e=>tups b xs (I.base.tups b xs e),fun b o xs e=>frzs b o xs (I.base.frzs b o xs e),fun b ps e=>?_⟩,?_,fun x c e=>?_,?_,fun x c e=>?_,fun p hp=>?_,hok,I.len⟩
 ·exact keep b o (neL b o e) hb (neC b o e hx) (I.base.keep b o e n hb hx) (I.base.free b o e n hx)
 ·obtain ⟨sl,e1⟩:=I.base.slot b o e n hb hx
  obtain ⟨sl',e2⟩:=slot b _ (neL b o e) hb (neC b o e hx) e1 (I.base.free b o e n hx)
  exact ⟨sl',e2⟩
 ·obtain ⟨o',e1⟩:=I.base.there b o e hx
  exact free b o' (neC b o e hx) e1 (I.base.free b o e n hx)
 ·obtain ⟨o',e1⟩:=I.base.there b o e hx
  exact there b o' (neC b o e hx) e1
 ·obtain ⟨m1,e1⟩:=I.base.tbls b ps e
  obtain ⟨m2,e2⟩:=tbls b _ e1
  exact ⟨m1 ++ m2,by rw [e2,Array.append_assoc]⟩
 ·obtain ⟨m,hn,hl⟩:=I.loc
  refine ⟨m,ns m hn,fun i x v e1 e2 e3=>?_⟩
  obtain ⟨u,r,l⟩:=hl i x v e1 e2 e3
  refine ⟨u,r,?_⟩
  rcases l with l | ⟨k,c,e,z⟩
  ·exact .inl l
  ·exact .inr ⟨k,c,e,cellK x c e _ z⟩
 ·obtain ⟨v,z⟩:=I.cell x c e
  exact ⟨v,cellK x c e v z⟩
 ·obtain ⟨m,⟨o,_,_,ho,_⟩,_⟩:=I.loc
  exact free _ o (fun z=>(hch _ z).2.1 rfl) ho I.free
 ·obtain ⟨v,o,ho,hd⟩:=I.cell x c e
  exact free c o (fun z=>(hch c z).2.2.1 x c e rfl) ho (I.freeC x c e)
 ·obtain ⟨e,n,ne,nf,d⟩:=I.pin p hp
  have nch:p.1 ∉ ch:=fun z=>(hch p.1 z).2.2.2 p hp rfl
  exact ⟨keep p.1 p.2 ne nf nch e n,free p.1 p.2 nch e n,ne,nf,d⟩
theorem Inv.un {t':Nat}(I:Inv X pins σ H s)(u:Un X.fs [] H H' s.heap h')(hok:HOk X.prog X.w H' h'):Inv X pins σ H' { s with heap:=h',toks:=t' }:=by
 obtain ⟨m,⟨o,es,ep,ho,r⟩,_⟩:=id I.loc
 obtain ⟨sl,hL⟩:=u.any ho I.free (by simp)
 exact I.step (g':=s.gens) (d':=s.drawn) (ch:=[]) (fun _ z=>nomatch z) (fun b o _ hb _ e n=>u.keep b o e n hb (by simp)) (fun b o _ hb _ e n=>u.slot b o e n hb (by simp)) (fun b o _ e n=>u.free b o e n (by simp)) (fun b o _ e=>u.there b o e (by simp)) u.tups u.frzs u.tbls (fun m' hm=>by
  obtain ⟨o',es',ep',ho',r'⟩:=hm
  rw [ho] at ho';cases ho'
  exact ⟨_,es',ep',hL,r'⟩) hok I.bare
theorem Inv.call {g':Array GenState}{t':Nat}{d':Drawn}{ch:List Addr}(I:Inv X pins σ H s)(u:Un (frs X.stack) ch H H' s.heap h')(hok:HOk X.prog X.w H' h')(hg:AllBare g')
  (hch:∀ b ∈ ch,(b ∈ X.ex∨X.s₀.heap.objs.size<=b)/\b≠X.env.locals/\(∀ x c,X.env.cells.lookup x=some c->c≠b)/\∀ p ∈ X.pn ++ pins,p.1≠b) :
  Inv X pins σ H' { s with heap:=h',gens:=g',drawn:=d',toks:=t' }:=by
 obtain ⟨m,⟨o,es,ep,ho,r⟩,_⟩:=id I.loc
 obtain ⟨sl,hL⟩:=u.any ho I.free fun z=>(hch _ z).2.1 rfl
 exact I.step (ch:=ch) hch (fun b o hL hb hc e n=>u.keep b o e n (fun z=>(List.mem_cons.mp (I.stkSub b z)).elim hL hb) hc) (fun b o _ _ hc e n=>u.any e n hc) (fun b o hc e n=>u.free b o e n hc) (fun b o hc e=>u.there b o e hc) u.tups u.frzs u.tbls (fun m' hm=>by
  obtain ⟨o',es',ep',ho',r'⟩:=hm
  rw [ho] at ho';cases ho'
  exact ⟨_,es',ep',hL,r'⟩) hok hg
theorem Inv.turned {t':Nat}{it:Addr}(I:Inv X pins σ H s)(k:∀ b o,b≠it->s.heap.get? b=some o->h'.get? b=some o)(hn:H it=none)(hL:it≠X.env.locals)
  (h1:it ∈ X.ex∨X.s₀.heap.objs.size<=it) (h2:∀ x c,X.env.cells.lookup x=some c->c≠it) (h3:∀ p ∈ X.pn ++ pins,p.1≠it):Inv X pins σ H { s with heap:=h',toks:=t' }:=by
 have nit:∀ b u,H b=some u->b≠it:=fun b u e z=>by rw [z,hn] at e;cases e
 refine I.step (g':=s.gens) (d':=s.drawn) (ch:=[it]) (fun b hb=>?_) (fun b o _ _ hc e _=>k b o (fun z=>hc (by simp [z])) e) (fun b o _ _ hc e _=>⟨o.slots,k b o (fun z=>hc (by simp [z])) e⟩) (fun _ _ _ _ n=>n)
  (fun b o hc e=>⟨o,k b o (fun z=>hc (by simp [z])) e⟩) (fun _ _ e=>e) (fun _ _ _ e=>e) (fun b ps e=>⟨#[],by rw [e];simp⟩) (fun m hm=>?_) (fun b u e=>?_) I.bare
 ·have e:b=it:=by simpa using hb
  subst e
  exact ⟨h1,hL,h2,h3⟩
 ·obtain ⟨o,es,ep,ho,r⟩:=hm
  exact ⟨o,es,ep,k _ o (Ne.symm hL) ho,r⟩
 ·refine (I.hok b u e).stay (fun c v hc q=>k c v ?_ q) (fun _ q=>q) fun _ _ q=>q
  rcases hc with z | z
  ·rw [z];exact nit b u e
  ·exact nit c _ z
theorem Inv.tok (I:Inv X pins σ H s)(t:Nat):Inv X pins σ H { s with toks:=t }:=I.un (h':=s.heap) (t':=t) Un.refl I.hok
theorem Inv.kept {t':Nat}(I:Inv X pins σ H s)(k:∀ b u,s.heap.get? b=some u->h'.get? b=some u):Inv X pins σ H { s with heap:=h',toks:=t' }:=I.un (Un.kept k) (I.hok.kept k)
theorem Inv.laid {a:Addr}{o:HO}{t':Nat}(I:Inv X pins σ H s)(k:∀ b u,s.heap.get? b=some u->h'.get? b=some u)(hp:s.heap.objs.size<=a)(new:ObjOk X.prog X.w (upd H a o) h' a o) :
  Inv X pins σ (upd H a o) { s with heap:=h',toks:=t' }:=I.un (Un.laid k hp (I.hok.fresh hp)) (I.hok.laid k hp new)
theorem Inv.write {x e:Addr}{o:HO}{t':Nat}(I:Inv X pins σ H s)(mu:Mut (H x))(he:e=x∨H e=some (.own x))(k:∀ b u,b≠e->s.heap.get? b=some u->h'.get? b=some u)(heo:∃ u,h'.get? e=some u)
  (new:ObjOk X.prog X.w (upd H x o) h' x o):Inv X pins σ (upd H x o) { s with heap:=h',toks:=t' }:=I.un (Un.write mu he k heo) (I.hok.write mu he k heo new)
theorem Inv.pins_of {pins':List (Addr×Obj)}(I:Inv X pins σ H s)(h:∀ p ∈ pins',s.heap.get? p.1=some p.2/\H p.1=none/\p.1≠X.env.locals/\p.1 ∉ X.fs/\∀ v,p.2.data≠.cell v):Inv X pins' σ H s :=
 ⟨I.ok,I.os,I.bare,I.base,I.loc,I.cell,I.free,I.freeC,fun p hp=>(List.mem_append.mp hp).elim (fun z=>I.pin p (List.mem_append_left _ z)) (h p),I.hok,I.len⟩
theorem zil {N:List Str}(hN:N.Nodup){i j:Nat}{x:Str}(a:N[i]?=some x)(b:N[j]?=some x):i=j:=by
 obtain ⟨h1,e1⟩:=List.getElem?_eq_some_iff.mp a
 obtain ⟨h2,e2⟩:=List.getElem?_eq_some_iff.mp b
 exact (List.getElem_inj hN).mp (e1.trans e2.symm)
theorem zgh {M:Model}{A:Around}{E:Value->Shared->Prop}{i:Nat}{x:Str}{v:V}{u:Value}{Q:Unit->Shared->Prop}(I:Inv X pins σ H s)(hN:X.N.Nodup)(hi:X.N[i]?=some x)(hx:Loc X.env.scope x)(r:RelV v u)
  (h:∀ s',Inv X pins (σ.set i (some v)) H s'->(∃ a,Heap.SameBut a s.heap s'.heap/\(a=X.env.locals∨X.env.cells.lookup x=some a))->Q () s') (hf:X.fn x=true∨X.env.scope.names.lookup x=some .local:=by first | exact .inl rfl | exact .inr rfl | assumption):wpAny M A (storeName X.env x u) Q E s:=by
 obtain ⟨m,hn,hl⟩:=id I.loc
 have hcls:(X.env.scope.kind == .class || (X.env.scope.kind == .module && X.env.locals != X.env.globals))=false:=by rw [I.ok.kind];rfl
 have hiσ:i < σ.length:=by rw [I.len];exact (List.getElem?_eq_some_iff.mp hi).1
 have cne:=I.cne
 have tracked:∀ {a:Addr} {h':Heap},(∃ o,s.heap.get? a=some o/\H a=none)->Heap.SameBut a s.heap h'->HOk X.prog X.w H h':=fun {a h'} ha hs b ob e=>by
  obtain ⟨_,_,hfree⟩:=ha
  refine (I.hok b ob e).stay (fun c w' hc q=>(hs.2 c ?_).trans q) (fun _ q=>q) fun _ _ q=>q
  rintro rfl
  rcases hc with rfl | hc
  ·rw [hfree] at e;cases e
  ·rw [hfree] at hc;cases hc
 rcases hx with hk | hk
 ·refine wpAny_storeName_local hk hn (fun h' hn' hs=>?_) hcls
  obtain ⟨oL,_,_,hoL,_⟩:=id hn
  refine h _ ⟨I.ok,I.os,I.bare,⟨fun b o e n hb hx=>?_,fun b o e n hb hx=>?_,I.base.free,fun b o e hx=>?_,I.base.tups,I.base.frzs,I.base.tbls⟩,⟨_,hn',fun j y v' e1 e2 e3=>?_⟩,fun y c e=>?_,I.free,I.freeC,fun p hp=>?_,tracked ⟨oL,hoL,I.free⟩ hs,by simpa using I.len⟩ ⟨_,hs,.inl rfl⟩
  ·exact (hs.2 b (Nat.ne_of_lt (Nat.lt_of_lt_of_le (Heap.lt_size e) I.ok.above))).trans (I.base.keep b o e n hb hx)
  ·obtain ⟨sl,e1⟩:=I.base.slot b o e n hb hx
   exact ⟨sl,(hs.2 b (Nat.ne_of_lt (Nat.lt_of_lt_of_le (Heap.lt_size e) I.ok.above))).trans e1⟩
  ·obtain ⟨o',e1⟩:=I.base.there b o e hx
   exact ⟨o',(hs.2 b (Nat.ne_of_lt (Nat.lt_of_lt_of_le (Heap.lt_size e) I.ok.above))).trans e1⟩
  ·by_cases hj:j=i
   ·subst hj
    rw [hi] at e1;cases e1
    rw [List.getElem?_set_self hiσ] at e2
    cases e2
    exact ⟨u,r,.inl ⟨hk,by simp⟩⟩
   ·rw [List.getElem?_set_ne (Ne.symm hj)] at e2
    obtain ⟨u',r',q⟩:=hl j y v' e1 e2 e3
    refine ⟨u',r',?_⟩
    rcases q with ⟨k,e⟩ | ⟨k,c,e,z⟩
    ·refine .inl ⟨k,?_⟩
     have:y≠x:=fun e=>hj (zil hN e1 (e ▸ hi))
     simp [this,e]
    ·exact .inr ⟨k,c,e,z.sameBut hs (cne y c e)⟩
  ·obtain ⟨w',z⟩:=I.cell y c e
   exact ⟨w',z.sameBut hs (cne y c e)⟩
  ·obtain ⟨e,n,ne,nf,d⟩:=I.pin p hp
   exact ⟨(hs.2 p.1 ne).trans e,n,ne,nf,d⟩
 ·have hfn:X.fn x=true:=by
   rcases hf with z | z
   ·exact z
   ·rw [z] at hk;cases hk
  obtain ⟨c,hc⟩:=I.ok.has x (.inl hk)
  obtain ⟨w',z⟩:=I.cell x c hc
  refine wpAny_storeName_cell I.ok.kind hk hc z (fun h' hc' hs=>?_)
  obtain ⟨oc,hoc,hocd⟩:=id z
  refine h { s with heap:=h' } ⟨I.ok,I.os,I.bare,⟨fun b o e n hb hx=>?_,fun b o e n hb hx=>?_,I.base.free,fun b o e hx=>?_,I.base.tups,I.base.frzs,I.base.tbls⟩,⟨m,hn.sameBut hs (Ne.symm (cne x c hc)),fun j y v' e1 e2 e3=>?_⟩,fun y c' e=>?_,I.free,I.freeC,fun p hp=>?_,tracked ⟨oc,hoc,I.freeC x c hc⟩ hs,by simpa using I.len⟩ ⟨c,hs,.inr hc⟩
  ·exact (hs.2 b (Nat.ne_of_lt (Nat.lt_of_lt_of_le (Heap.lt_size e) (I.ok.cab x c hfn hc)))).trans (I.base.keep b o e n hb hx)
  ·obtain ⟨sl,e1⟩:=I.base.slot b o e n hb hx
   exact ⟨sl,(hs.2 b (Nat.ne_of_lt (Nat.lt_of_lt_of_le (Heap.lt_size e) (I.ok.cab x c hfn hc)))).trans e1⟩
  ·obtain ⟨o',e1⟩:=I.base.there b o e hx
   exact ⟨o',(hs.2 b (Nat.ne_of_lt (Nat.lt_of_lt_of_le (Heap.lt_size e) (I.ok.cab x c hfn hc)))).trans e1⟩
  ·by_cases hj:j=i
   ·subst hj
    rw [hi] at e1;cases e1
    rw [List.getElem?_set_self hiσ] at e2
    cases e2
    exact ⟨u,r,.inr ⟨.inl hk,c,hc,hc'⟩⟩
   ·rw [List.getElem?_set_ne (Ne.symm hj)] at e2
    obtain ⟨u',r',q⟩:=hl j y v' e1 e2 e3
    refine ⟨u',r',?_⟩
    rcases q with q | ⟨k,c',e,z'⟩
    ·exact .inl q
    ·refine .inr ⟨k,c',e,z'.sameBut hs ?_⟩
     rintro rfl
     exact hj (zil hN e1 (I.ok.inj _ _ _ e hc ▸ hi))
  ·by_cases hcc:c'=c
   ·subst hcc;exact ⟨_,hc'⟩
   ·obtain ⟨w2,z2⟩:=I.cell y c' e
    exact ⟨w2,z2.sameBut hs hcc⟩
  ·obtain ⟨e,n,ne,nf,d⟩:=I.pin p hp
   refine ⟨(hs.2 p.1 ?_).trans e,n,ne,nf,d⟩
   intro q
   rw [q,hoc] at e
   have q':oc=p.2:=Option.some.inj e
   exact d w' (by rw [← q'];exact hocd)
theorem zfx {M:Model}{A:Around}{E:Value->Shared->Prop}{i:Nat}{x:Str}{v:V}{u:Value}{Q:Unit->Shared->Prop}(I:Inv X pins σ H s)(hN:X.N.Nodup)(hi:X.N[i]?=some x)(hx:Loc X.env.scope x)(r:RelV v u)
  (h:∀ s',Inv X pins (σ.set i (some v)) H s'->Q () s') (hf:X.fn x=true∨X.env.scope.names.lookup x=some .local:=by first | exact .inl rfl | exact .inr rfl | assumption):wpAny M A (storeName X.env x u) Q E s :=
 zgh I hN hi hx r (fun s' I' _=>h s' I') hf
theorem Inv.call' {s':Shared}{ch:List Addr}(I:Inv X pins σ H s)(ho:s'.os=s.os)(u:Un (frs X.stack) ch H H' s.heap s'.heap)(hok:HOk X.prog X.w H' s'.heap)(hg:AllBare s'.gens)
  (hch:∀ b ∈ ch,(b ∈ X.ex∨X.s₀.heap.objs.size<=b)/\b≠X.env.locals/\(∀ x c,X.env.cells.lookup x=some c->c≠b)/\∀ p ∈ X.pn ++ pins,p.1≠b):Inv X pins σ H' s':=by
 obtain ⟨h',g',d',t',o'⟩:=s'
 have e:o'=s.os:=ho
 subst e
 exact I.call (g':=g') (t':=t') (d':=d') u hok hg hch
end
noncomputable abbrev XK:=Value->Option Addr->Hp->Prop
noncomputable abbrev St:=List (Option V)
noncomputable abbrev VK:=V->Hp->Prop
noncomputable abbrev TE:=St->Hp->VK->Prop
noncomputable abbrev TT:=St->Hp->(Bool->Hp->Prop)->Prop
noncomputable abbrev TA:=St->Hp->(List V->Hp->Prop)->Prop
structure Ends where
 nx:St->Hp->Prop
 rt:VK
 bk:St->Hp->Prop:=fun _ _=>False
 ct:St->Hp->Prop:=fun _ _=>False
noncomputable abbrev TS:=Ends->St->Hp->Prop
noncomputable def EP (X:Cx)(pins:List (Addr×Obj))(σ:St)(Q:VK)(u:Value)(s':Shared):Prop:=∃ v H',Inv X pins σ H' s'/\RelV v u/\Q v H'
noncomputable def TP (X:Cx)(pins:List (Addr×Obj))(σ:St)(Q:Bool->Hp->Prop)(b:Bool)(s':Shared):Prop:=∃ H',Inv X pins σ H' s'/\Q b H'
noncomputable def AP (X:Cx)(pins:List (Addr×Obj))(σ:St)(Q:List V->Hp->Prop)(us:List Value)(s':Shared):Prop:=∃ vs H',Inv X pins σ H' s'/\Vals vs us/\Q vs H'
noncomputable def SP (X:Cx)(pins:List (Addr×Obj))(D:Ends)(f:Flow)(s':Shared):Prop :=
 match f with
 | .next=>∃ σ' H',Inv X pins σ' H' s'/\D.nx σ' H'
 | .brk=>∃ σ' H',Inv X pins σ' H' s'/\D.bk σ' H'
 | .cont=>∃ σ' H',Inv X pins σ' H' s'/\D.ct σ' H'
 | .ret u=>∃ v σ' H',Inv X pins σ' H' s'/\RelV v u/\D.rt v H'
noncomputable def PE (X:Cx)(e:Expr)(t:TE):Prop :=
 ∀ (pins:List (Addr×Obj)) (s:Shared) (σ:St) (H:Hp) (Q:VK),Inv X pins σ H s->t σ H Q->wpAny (model X.prog X.w) X.A (eval e X.env) (EP X pins σ Q) X.xe s
noncomputable def PT (X:Cx)(e:Expr)(t:TT):Prop :=
 ∀ (pins:List (Addr×Obj)) (s:Shared) (σ:St) (H:Hp) (Q:Bool->Hp->Prop),Inv X pins σ H s->t σ H Q->wpAny (model X.prog X.w) X.A (isTrue e X.env (eval e X.env)) (TP X pins σ Q) X.xe s
noncomputable def PW (X:Cx)(e:Expr)(t:TT):Prop :=
 ∀ (whole:Sem Value) (pins:List (Addr×Obj)) (s:Shared) (σ:St) (H:Hp) (Q:Bool->Hp->Prop),Inv X pins σ H s->t σ H Q->wpAny (model X.prog X.w) X.A (isTrue e X.env whole) (TP X pins σ Q) X.xe s
theorem PW.pt {X:Cx}{e:Expr}{t:TT}(h:PW X e t):PT X e t:=h _
noncomputable def PA (X:Cx)(es:List Expr)(t:TA):Prop :=
 ∀ (pos:Pos) (pins:List (Addr×Obj)) (s:Shared) (σ:St) (H:Hp) (Q:List V->Hp->Prop),Inv X pins σ H s->t σ H Q->wpAny (model X.prog X.w) X.A (spliced (backTo pos (starEach es X.env))) (AP X pins σ Q) X.xe s
noncomputable def PS (X:Cx)(st:Stmt)(t:TS):Prop :=
 ∀ (pins:List (Addr×Obj)) (s:Shared) (σ:St) (H:Hp) (D:Ends),Inv X pins σ H s->t D σ H->wpAny (model X.prog X.w) X.A (exec st X.env) (SP X pins D) X.xe s
noncomputable def PSs (X:Cx)(st:List Stmt)(t:TS):Prop :=
 ∀ (pins:List (Addr×Obj)) (s:Shared) (σ:St) (H:Hp) (D:Ends),Inv X pins σ H s->t D σ H->wpAny (model X.prog X.w) X.A (execs st X.env) (SP X pins D) X.xe s
theorem thn {α:Type}{t:Sem α}{Q Q':α->Shared->Prop}{M:Model}{A:Around}{E:Value->Shared->Prop}{s:Shared}(h:wpAny M A t Q E s)(hQ:∀ a s,Q a s->Q' a s):wpAny M A t Q' E s:=wpAny_mono h hQ fun _ _ x=>x
end L2
namespace L2
open PySem PySem.Spec PyProof.Rows
section
variable {X:Cx}
theorem bin {a b:Expr}{ta tb:TE}(ha:PE X a ta)(hb:PE X b tb){pins:List (Addr×Obj)}{s:Shared}{σ:St}{H:Hp}{R:V->V->Hp->Prop}(I:Inv X pins σ H s)(h:ta σ H fun x H1=>tb σ H1 fun y H2=>R x y H2)
  {α:Type} {Q:α->Shared->Prop} {f:Value->Value->Sem α}
  (hf:∀ v u s2 x y H2,Inv X pins σ H2 s2->RelV x v->RelV y u->R x y H2->wpAny (model X.prog X.w) X.A (f v u) Q X.xe s2) :
  wpAny (model X.prog X.w) X.A (eval a X.env) (fun v s₁=>wpAny (model X.prog X.w) X.A (eval b X.env) (fun u s₂=>wpAny (model X.prog X.w) X.A (f v u) Q X.xe s₂) X.xe s₁) X.xe s:=by
 refine thn (ha pins s σ H _ I h) fun v s1 ⟨x,H1,I1,r1,q1⟩=>?_
 refine thn (hb pins s1 σ H1 _ I1 q1) fun u s2 ⟨y,H2,I2,r2,q2⟩=>?_
 exact hf v u s2 x y H2 I2 r1 r2 q2
noncomputable def tVar (i:Nat):TE:=fun σ H Q=>∃ v,σ[i]?=some (some v)/\Q v H
noncomputable def tC (v:V):TE:=fun _ H Q=>Q v H
theorem zmL {i:Nat}{x:Str}{pos:Pos}(hN:X.N[i]?=some x)(hv:Vis X.env.scope x)(hd:(x == ("__debug__" : Str))=false:=by decide)(hcd:(x == ("__classdict__" : Str))=false:=by decide):PE X (.Name x pos) (tVar i):=by
 intro pins s σ H Q I h
 obtain ⟨v,e,h⟩:=h
 obtain ⟨m,hn,hl⟩:=I.loc
 obtain ⟨u,r,l⟩:=hl i x v hN e hv
 have fin:EP X pins σ Q u s:=⟨v,H,I,r,h⟩
 rcases l with ⟨hk,hm⟩ | ⟨hk,c,hc,hcell⟩
 ·exact wpAny_Name (wpAny_loadName_local I.ok.kind hk hn hm fin) hd
 ·rcases hk with hk | hk
  ·exact wpAny_Name (wpAny_loadName_cell I.ok.kind hk hc hcell fin) hd
  ·exact wpAny_Name (wpAny_loadName_free I.ok.kind hk hc hcell fin hcd) hd
theorem zah {i j pos}:PE X (.Constant (.int i) j pos) (tC (.int i)):=fun _ _ _ H _ I h=>wpAny_Constant_int ⟨.int i,H,I.tok _,⟨_,rfl⟩,h⟩
theorem zgr {b j pos}:PE X (.Constant (.bool b) j pos) (tC (.bl b)):=fun _ _ _ H _ I h=>Constant_bool ⟨.bl b,H,I,rfl,h⟩
theorem zex {j pos}:PE X (.Constant .none j pos) (tC .non):=fun _ _ _ H _ I h=>Constant_none ⟨.non,H,I,rfl,h⟩
theorem zbf {x j pos}:PE X (.Constant (.str x) j pos) (tC (.str x)):=fun _ _ _ H _ I h=>Calls.Constant_str ⟨.str x,H,I.tok _,⟨_,rfl⟩,h⟩
noncomputable def Gl (X:Cx)(x:Str):Prop:=X.env.kindOf x=some .globalImplicit
theorem zc8 {E:Value->Shared->Prop}{pins:List (Addr×Obj)}{s:Shared}{σ:St}{H:Hp}{x:Str}{u:Value}{pos:Pos}{Q:Value->Shared->Prop}(I:Inv X pins σ H s)(hg:Gl X x)(hm:X.mg x=some u)(h:Q u s)
  (hd:(x == ("__debug__" : Str))=false:=by decide):wpAny (model X.prog X.w) X.A (eval (.Name x pos) X.env) Q E s :=
 Calls.Name_function_global I.ok.kind hg (Calls.loadGlobal_global (by rw [I.ok.glob];exact I.mod.glob.keeps I.bk) hm h) hd
theorem zfa {E:Value->Shared->Prop}{pins:List (Addr×Obj)}{s:Shared}{σ:St}{H:Hp}{x:Str}{u:Value}{pos:Pos}{Q:Value->Shared->Prop}(I:Inv X pins σ H s)(hg:Gl X x)(hm:X.mg x=none)(hv:bootBuiltins x=some u)(h:Q u s)
  (hn:x≠"__name__":=by decide) (hd:(x == ("__debug__" : Str))=false:=by decide):wpAny (model X.prog X.w) X.A (eval (.Name x pos) X.env) Q E s:=by
 obtain ⟨mb,h1,h2⟩:=I.mod.blt
 exact Calls.Name_function_global I.ok.kind hg (Calls.loadGlobal_builtin (by rw [I.ok.glob];exact I.mod.glob.keeps I.bk) hm (by rw [I.ok.blt];exact h1.keeps I.bk) ((h2 x hn).trans hv) h) hd
theorem znu {x:Str}{v:V}{u:Value}{pos:Pos}(hg:Gl X x)(hm:X.mg x=some u)(r:RelV v u)(hd:(x == ("__debug__" : Str))=false:=by decide):PE X (.Name x pos) (tC v) :=
 fun _ _ _ H _ I h=>zc8 I hg hm ⟨v,H,I,r,h⟩ hd
theorem zaD {x:Str}{v:V}{u:Value}{pos:Pos}(hg:Gl X x)(hm:X.mg x=none)(hv:bootBuiltins x=some u)(r:RelV v u)(hn:x≠"__name__":=by decide)(hd:(x == ("__debug__" : Str))=false:=by decide):PE X (.Name x pos) (tC v) :=
 fun _ _ _ H _ I h=>zfa I hg hm hv ⟨v,H,I,r,h⟩ hn hd
variable {a b:Expr}{ta tb:TE}{pos:Pos}
variable {tA tB':TT}{rest:List Expr}
noncomputable def tAnd (t u:TT):TT:=fun σ H Q=>t σ H fun c H1=>if c=true then u σ H1 Q else Q false H1
noncomputable def tOr (t u:TT):TT:=fun σ H Q=>t σ H fun c H1=>if c=true then Q true H1 else u σ H1 Q
noncomputable def tNot (t:TT):TT:=fun σ H Q=>t σ H fun c H1=>Q (!c) H1
theorem zhx (ha:PT X a tA):PW X (.BoolOp .And [a] pos) tA:=by
 intro wh pins s σ H Q I h
 refine isTrue_and (thn (ha pins s σ H Q I h) fun c s1 e=>?_)
 cases c with
 | true=>exact isTrue_and_nil e
 | false=>exact e
theorem zcG (ha:PT X a tA):PW X (.BoolOp .Or [a] pos) tA:=by
 intro wh pins s σ H Q I h
 refine isTrue_or (thn (ha pins s σ H Q I h) fun c s1 e=>?_)
 cases c with
 | false=>exact isTrue_or_nil e
 | true=>exact e
theorem zjZ (ha:PT X a tA)(hb:PW X (.BoolOp .And (b :: rest) pos) tB'):PW X (.BoolOp .And (a :: b :: rest) pos) (tAnd tA tB'):=by
 intro wh pins s σ H Q I h
 refine isTrue_and (thn (ha pins s σ H _ I h) fun c s1 ⟨H1,I1,q1⟩=>?_)
 cases c with
 | true=>exact hb wh pins s1 σ H1 Q I1 q1
 | false=>exact ⟨H1,I1,q1⟩
theorem zdz (ha:PT X a tA)(hb:PW X (.BoolOp .Or (b :: rest) pos) tB'):PW X (.BoolOp .Or (a :: b :: rest) pos) (tOr tA tB'):=by
 intro wh pins s σ H Q I h
 refine isTrue_or (thn (ha pins s σ H _ I h) fun c s1 ⟨H1,I1,q1⟩=>?_)
 cases c with
 | true=>exact ⟨H1,I1,q1⟩
 | false=>exact hb wh pins s1 σ H1 Q I1 q1
theorem za4 (ha:PT X a tA):PT X (.UnaryOp .Not a pos) (tNot tA):=by
 intro pins s σ H Q I h
 exact isTrue_not (ha pins s σ H (fun c H1=>Q (!c) H1) I h)
noncomputable def tAndV (ta tb:TE):TE:=fun σ H Q=>ta σ H fun x H1=>∃ c,x = .bl c/\if c=true then tb σ H1 Q else Q (.bl false) H1
noncomputable def tOrV (ta tb:TE):TE:=fun σ H Q=>ta σ H fun x H1=>∃ c,x = .bl c/\if c=true then Q (.bl true) H1 else tb σ H1 Q
noncomputable def tNotV (ta:TE):TE:=fun σ H Q=>ta σ H fun x H1=>∃ c,x = .bl c/\Q (.bl (!c)) H1
theorem zih {op}{t:TE}(h:PE X a t):PE X (.BoolOp op [a] pos) t:=fun pins s σ H Q I hw=>BoolOp_one (h pins s σ H Q I hw)
theorem zj9 (ha:PE X a ta)(hb:PE X (.BoolOp .And (b :: rest) pos) tb):PE X (.BoolOp .And (a :: b :: rest) pos) (tAndV ta tb):=by
 intro pins s σ H Q I h
 refine BoolOp_and (thn (ha pins s σ H _ I h) fun v s1 ⟨x,H1,I1,r1,q1⟩=>?_)
 obtain ⟨c,rfl,q1⟩:=q1
 cases r1
 refine wpAny_truthy_bool ?_
 cases c with
 | true=>exact hb pins s1 σ H1 Q I1 q1
 | false=>exact ⟨.bl false,H1,I1,rfl,q1⟩
theorem zpA (ha:PE X a ta)(hb:PE X (.BoolOp .Or (b :: rest) pos) tb):PE X (.BoolOp .Or (a :: b :: rest) pos) (tOrV ta tb):=by
 intro pins s σ H Q I h
 refine BoolOp_or (thn (ha pins s σ H _ I h) fun v s1 ⟨x,H1,I1,r1,q1⟩=>?_)
 obtain ⟨c,rfl,q1⟩:=q1
 cases r1
 refine wpAny_truthy_bool ?_
 cases c with
 | false=>exact hb pins s1 σ H1 Q I1 q1
 | true=>exact ⟨.bl true,H1,I1,rfl,q1⟩
theorem zoK (ha:PE X a ta):PE X (.UnaryOp .Not a pos) (tNotV ta):=by
 intro pins s σ H Q I h
 refine UnaryOp_ (thn (ha pins s σ H _ I h) fun v s1 ⟨x,H1,I1,r1,q1⟩=>?_)
 obtain ⟨c,rfl,q1⟩:=q1
 cases r1
 exact not_of (wpAny_truthy_bool ⟨.bl (!c),H1,I1,rfl,q1⟩)
noncomputable def tIf (t:TT)(ta tb:TE):TE:=fun σ H Q=>t σ H fun c H1=>if c=true then ta σ H1 Q else tb σ H1 Q
theorem zdk {c:Expr}(hc:PT X c tA)(ha:PE X a ta)(hb:PE X b tb):PE X (.IfExp c a b pos) (tIf tA ta tb):=by
 intro pins s σ H Q I h
 refine wpAny_IfExp (thn (hc pins s σ H _ I h) fun d s1 ⟨H1,I1,q1⟩=>?_)
 cases d with
 | true=>exact ha pins s1 σ H1 Q I1 q1
 | false=>exact hb pins s1 σ H1 Q I1 q1
end
end L2
namespace L2
open PySem PySem.Spec PyProof.Rows
noncomputable def SqL (K:PySem.W.Frag)(H:Hp)(a:Addr)(xs:List V):Prop :=
 Rd H a (.lst xs) ∨
  ∃ (o:Obj) (its:Array Value) (n:Nat),K.lookup a=some o/\o.cls = .type "list"/\o.dict=none/\o.data = .seq its n/\its.size<=sizeLine/\Vals xs its.toList
noncomputable def SqT (K:PySem.W.Frag)(H:Hp)(a:Addr)(xs:List V):Prop :=
 Rd H a (.tup xs) ∨
  ∃ (o:Obj) (its:Array Value) (n:Nat),K.lookup a=some o/\o.cls = .type "tuple"/\o.data = .seq its n/\its.size<=sizeLine/\Vals xs its.toList
noncomputable def absV:Value->Option V
 | .none=>some .non
 | .bool b=>some (.bl b)
 | .int i _=>some (.int i)
 | .str x _=>some (.str x)
 | .bytes b _=>some (.byt b)
 | .float b _=>some (.flt b)
 | .ref a=>some (.ref a)
 | .type n=>some (.ty n)
 | _=>none
theorem RelV.abs {x:V}{u:Value}(r:RelV x u):absV u=some x:=by
 cases x with
 | non=>cases r;rfl
 | bl _=>cases r;rfl
 | int _=>obtain ⟨t,rfl⟩:=r;rfl
 | str _=>obtain ⟨t,rfl⟩:=r;rfl
 | byt _=>obtain ⟨t,rfl⟩:=r;rfl
 | flt _=>obtain ⟨t,rfl⟩:=r;rfl
 | ref _=>cases r;rfl
 | ty _=>cases r;rfl
theorem RelV.inj {x y:V}{u:Value}(r:RelV x u)(q:RelV y u):x=y:=Option.some.inj (r.abs.symm.trans q.abs)
theorem Vals.inj:∀ {xs ys:List V} {us:List Value},Vals xs us->Vals ys us->xs=ys
 | _,_,_,.nil,.nil=>rfl
 | _,_,_,.cons r t,.cons r' t'=>by rw [r.inj r',Vals.inj t t']
section
variable {X:Cx}{pins:List (Addr×Obj)}{σ:St}{H:Hp}{s:Shared}{a:Addr}{xs ys:List V}
theorem SqL.of {K:PySem.W.Frag}(h:H a=some (.lst xs)):SqL K H a xs:=.inl (.inl h)
theorem SqT.of {K:PySem.W.Frag}(h:H a=some (.tup xs)):SqT K H a xs:=.inl (.inl h)
theorem Inv.list (I:Inv X pins σ H s)(h:SqL X.K H a xs):∃ its:List Value,Vals xs its/\PlainL s.heap a its.toArray/\xs.length<=sizeLine:=by
 rcases h with h | ⟨o,its,n,hk,hc,hd,hs,hz,r⟩
 ·obtain ⟨z,its,n,r,e⟩:=h.ok I.hok
  exact ⟨its,r,⟨_,n,e,rfl,rfl,rfl⟩,z⟩
 ·refine ⟨its.toList,r,⟨o,n,I.kIn a o hk,hc,hd,by simpa using hs⟩,?_⟩
  have e:=r.length
  simp only [Array.length_toList] at e
  omega
theorem Inv.tuple (I:Inv X pins σ H s)(h:SqT X.K H a xs):∃ its:List Value,Vals xs its/\IsTup s.heap a its.toArray/\xs.length<=sizeLine:=by
 rcases h with h | ⟨o,its,n,hk,hc,hs,hz,r⟩
 ·obtain ⟨z,its,r,p⟩:=h.ok I.hok
  exact ⟨its,r,p,z⟩
 ·refine ⟨its.toList,r,⟨o,I.kIn a o hk,hc,n,by simpa using hs⟩,?_⟩
  have e:=r.length
  simp only [Array.length_toList] at e
  omega
theorem Inv.list_inj (I:Inv X pins σ H s)(h:SqL X.K H a xs)(h':SqL X.K H a ys):xs=ys:=by
 obtain ⟨its,r,⟨o,n,e,_,_,d⟩,_⟩:=I.list h
 obtain ⟨its',r',⟨o',n',e',_,_,d'⟩,_⟩:=I.list h'
 rw [e] at e';cases e'
 rw [d] at d'
 injection d' with d1 _
 have:its=its':=by simpa using congrArg Array.toList d1
 subst this
 exact r.inj r'
theorem Inv.tuple_inj (I:Inv X pins σ H s)(h:SqT X.K H a xs)(h':SqT X.K H a ys):xs=ys:=by
 obtain ⟨its,r,⟨o,e,_,n,d⟩,_⟩:=I.tuple h
 obtain ⟨its',r',⟨o',e',_,n',d'⟩,_⟩:=I.tuple h'
 rw [e] at e';cases e'
 rw [d] at d'
 injection d' with d1 _
 have:its=its':=by simpa using congrArg Array.toList d1
 subst this
 exact r.inj r'
end
noncomputable abbrev Cx.wish (X:Cx)(E:Value->Shared->Prop):Cx:={ X with xe:=E }
noncomputable abbrev Cx.nox (X:Cx):Cx:=X.wish fun _ _=>False
theorem Cx.Ok.wish {X:Cx}(ok:X.Ok)(E:Value->Shared->Prop):(X.wish E).Ok :=
 ⟨ok.mod,ok.kind,ok.glob,ok.blt,ok.above,ok.inj,ok.has,ok.cab,ok.hd,ok.frames,ok.stk,ok.exf,ok.bs,ok.bsz,ok.noex,ok.exfs,ok.funs,ok.frf⟩
theorem Cx.Ok.unwish {X:Cx}{E:Value->Shared->Prop}(ok:(X.wish E).Ok):X.Ok :=
 ⟨ok.mod,ok.kind,ok.glob,ok.blt,ok.above,ok.inj,ok.has,ok.cab,ok.hd,ok.frames,ok.stk,ok.exf,ok.bs,ok.bsz,ok.noex,ok.exfs,ok.funs,ok.frf⟩
section
variable {X:Cx}{pins:List (Addr×Obj)}{σ:St}{H:Hp}{s:Shared}{E:Value->Shared->Prop}
theorem Inv.wish (I:Inv X pins σ H s)(E:Value->Shared->Prop):Inv (X.wish E) pins σ H s:=⟨I.ok.wish E,I.os,I.bare,I.base,I.loc,I.cell,I.free,I.freeC,I.pin,I.hok,I.len⟩
theorem Inv.unwish (I:Inv (X.wish E) pins σ H s):Inv X pins σ H s:=⟨I.ok.unwish,I.os,I.bare,I.base,I.loc,I.cell,I.free,I.freeC,I.pin,I.hok,I.len⟩
theorem SP.unwish {D:Ends}{f:Flow}{s':Shared}(h:SP (X.wish E) pins D f s'):SP X pins D f s':=by
 cases f with
 | next=>obtain ⟨σ',H',I,q⟩:=h;exact ⟨σ',H',I.unwish,q⟩
 | brk=>obtain ⟨σ',H',I,q⟩:=h;exact ⟨σ',H',I.unwish,q⟩
 | cont=>obtain ⟨σ',H',I,q⟩:=h;exact ⟨σ',H',I.unwish,q⟩
 | ret u=>obtain ⟨v,σ',H',I,r,q⟩:=h;exact ⟨v,σ',H',I.unwish,r,q⟩
theorem PSs.nox {st:List Stmt}{t:TS}(h:PSs X.nox st t):PSs X st t:=fun pins s σ H D I hw =>
 wpAny_mono (h pins s σ H D (I.wish _) hw) (fun _ _ q=>q.unwish) fun _ _ z=>False.elim z
end
section
variable {X:Cx}{st:Stmt}{rest:List Stmt}{t u:TS}{e:Expr}{te:TE}{pos:Pos}
noncomputable def tNext:TS:=fun D σ H=>D.nx σ H
noncomputable def tSeq (t u:TS):TS:=fun D σ H=>t { D with nx:=u D } σ H
theorem zaq:PSs X [] tNext:=fun _ _ σ H _ I h=>wpAny_execs_nil ⟨σ,H,I,h⟩
theorem zaf (h1:PS X st t)(h2:PSs X rest u):PSs X (st :: rest) (tSeq t u):=by
 intro pins s σ H D I h
 refine wpAny_execs_cons (thn (h1 pins s σ H { D with nx:=u D } I h) fun f s1 q=>?_)
 cases f with
 | next =>
  obtain ⟨σ',H',I',q⟩:=q
  exact h2 pins s1 σ' H' D I' q
 | ret v=>exact q
 | brk=>exact q
 | cont=>exact q
theorem zag (h1:PS X st t):PSs X [st] t:=by
 intro pins s σ H D I h
 refine wpAny_execs_cons (thn (h1 pins s σ H D I h) fun f s1 q=>?_)
 cases f with
 | next=>exact wpAny_execs_nil q
 | ret v=>exact q
 | brk=>exact q
 | cont=>exact q
theorem Inv.quiet {pins:List (Addr×Obj)}{σ:St}{H:Hp}{s:Shared}(I:Inv X pins σ H s):interactive X.env=false:=by simp [interactive,I.ok.kind]
noncomputable def tDrop (te:TE):TS:=fun D σ H=>te σ H fun _ H1=>D.nx σ H1
theorem zaP (he:PE X e te)(hs:swapsWith e none pos.line X.env=pure false:=by rfl):PS X (.Expr e pos) (tDrop te):=by
 intro pins s σ H D I h
 exact wpAny_Expr_any (thn (he pins s σ H _ I h) fun v s1 ⟨x,H1,I1,r1,q1⟩=>⟨σ,H1,I1,q1⟩) I.quiet hs
noncomputable def tRet (te:TE):TS:=fun D σ H=>te σ H D.rt
theorem zao (he:PE X e te):PS X (.Return (some e) pos) (tRet te):=by
 intro pins s σ H D I h
 exact wpAny_Return_some (thn (he pins s σ H _ I h) fun v s1 ⟨x,H1,I1,r1,q1⟩=>⟨x,σ,H1,I1,r1,q1⟩)
noncomputable def tIfS (c:TT)(t u:TS):TS:=fun D σ H=>c σ H fun b H1=>if b=true then t D σ H1 else u D σ H1
theorem zaT {c:Expr}{a b:List Stmt}{tc:TT}(hc:PT X c tc)(ha:PSs X a t)(hb:PSs X b u):PS X (.If c a b pos) (tIfS tc t u):=by
 intro pins s σ H D I h
 refine wpAny_If (thn (hc pins s σ H _ I h) fun d s1 ⟨H1,I1,q1⟩=>?_)
 cases d with
 | true=>exact ha pins s1 σ H1 D I1 q1
 | false=>exact hb pins s1 σ H1 D I1 q1
noncomputable def tNever:TS:=fun _ _ _=>False
theorem zbp:PS X st tNever:=fun _ _ _ _ _ _ h=>h.elim
end
noncomputable abbrev TG:=V->St->Hp->(St->Hp->Prop)->Prop
noncomputable abbrev TGs:=List V->St->Hp->(St->Hp->Prop)->Prop
noncomputable def PG (X:Cx)(target:Expr)(t:TG):Prop :=
 ∀ (pins:List (Addr×Obj)) (s:Shared) (σ:St) (H:Hp) (v:V) (u:Value) (Q:St->Hp->Prop),Inv X pins σ H s->RelV v u->t v σ H Q ->
  wpAny (model X.prog X.w) X.A (assign target X.env u) (fun _ s'=>∃ σ' H',Inv X pins σ' H' s'/\Q σ' H') X.xe s
noncomputable def PGs (X:Cx)(ts:List Expr)(t:TGs):Prop :=
 ∀ (pins:List (Addr×Obj)) (s:Shared) (σ:St) (H:Hp) (vs:List V) (us:List Value) (Q:St->Hp->Prop),Inv X pins σ H s->Vals vs us->t vs σ H Q ->
  wpAny (model X.prog X.w) X.A (assignInOrder ((assignEach ts X.env).map (·.2)) us) (fun _ s'=>∃ σ' H',Inv X pins σ' H' s'/\Q σ' H') X.xe s
noncomputable abbrev TSet:=V->V->V->Hp->(Hp->Prop)->Prop
noncomputable def PSet (X:Cx)(t:TSet):Prop :=
 ∀ (pins:List (Addr×Obj)) (s:Shared) (σ:St) (H:Hp) (o i v:V) (ov iv u:Value) (Q:Hp->Prop),Inv X pins σ H s->RelV o ov->RelV i iv->RelV v u->t o i v H Q ->
  wpAny (model X.prog X.w) X.A (setItem ov iv u) (fun _ s'=>∃ H',Inv X pins σ H' s'/\Q H') X.xe s
noncomputable abbrev TIp:=V->V->Hp->VK->Prop
noncomputable def PIp (X:Cx)(op:Operator)(t:TIp):Prop :=
 ∀ (pins:List (Addr×Obj)) (s:Shared) (σ:St) (H:Hp) (x y:V) (v u:Value) (Q:VK),Inv X pins σ H s->RelV x v->RelV y u->t x y H Q ->
  wpAny (model X.prog X.w) X.A (inplaceOp op v u) (EP X pins σ Q) X.xe s
section
variable {X:Cx}{pos:Pos}
noncomputable def gName (i:Nat):TG:=fun v σ H Q=>Q (σ.set i (some v)) H
theorem zaC {i:Nat}{x:Str}(hN:X.N.Nodup)(hi:X.N[i]?=some x)(hx:Loc X.env.scope x)(hf:X.fn x=true∨X.env.scope.names.lookup x=some .local:=by first | exact .inl rfl | exact .inr rfl | assumption):PG X (.Name x pos) (gName i):=by
 intro pins s σ H v u Q I r h
 exact wpAny_assign_Name (zfx I hN hi hx r (fun s' I'=>⟨_,H,I',h⟩) hf)
noncomputable def gNil:TGs:=fun vs σ H Q=>vs=[]/\Q σ H
noncomputable def gCons (t:TG)(u:TGs):TGs:=fun vs σ H Q=>∃ v r,vs=v :: r/\t v σ H fun σ' H'=>u r σ' H' Q
theorem zj5:PGs X [] gNil:=by
 intro pins s σ H vs us Q I r h
 obtain ⟨e,h⟩:=h
 subst e
 cases r
 exact assignInOrder_nil ⟨σ,H,I,h⟩
theorem zd0 {e:Expr}{es:List Expr}{t:TG}{u:TGs}(h1:PG X e t)(h2:PGs X es u)
  (hs:(assignEach (e :: es) X.env).map (·.2)=assign e X.env :: (assignEach es X.env).map (·.2):=by rfl):PGs X (e :: es) (gCons t u):=by
 intro pins s σ H vs us Q I r h
 obtain ⟨v,vr,e1,h⟩:=h
 subst e1
 cases r with
 | cons r rr =>
  rw [hs]
  refine assignInOrder_cons (thn (h1 pins s σ H _ _ _ I r h) fun _ s1 ⟨σ1,H1,I1,q1⟩=>?_)
  exact h2 pins s1 σ1 H1 _ _ Q I1 rr q1
noncomputable def gTup (K:PySem.W.Frag)(n:Nat)(t:TGs):TG:=fun v σ H Q=>∃ a xs,v = .ref a/\SqT K H a xs/\xs.length=n/\t xs σ H Q
theorem zmK {es:List Expr}{k:Nat}{t:TGs}{n:Nat}(hc:X.calm=true)(h:PGs X es t)
  (hn:(assignEach es X.env).length=n:=by rfl) (hst:(assignEach es X.env).findIdx? (·.1)=none:=by rfl):PG X (.Tuple es k pos) (gTup X.K n t):=by
 intro pins s σ H v u Q I r hw
 obtain ⟨a,xs,e1,hq,hl,hw⟩:=hw
 subst e1
 cases r
 obtain ⟨its,rv,ht,hz⟩:=I.tuple hq
 refine assign_Tuple_tuple (I.ok.hd hc) ht (by simp [hn,← hl,rv.length]) hst fun h' hx=>?_
 have I1:Inv X pins σ H { s with heap:=h' }:=I.kept (t':=s.toks) fun b o e=>hx b o (Nat.ne_of_lt (Heap.lt_size e)) e
 exact h pins _ σ H xs _ Q I1 (by simpa using rv) hw
noncomputable def gSub (to ti:TE)(t:TSet):TG:=fun v σ H Q=>to σ H fun o H1=>ti σ H1 fun i H2=>t o i v H2 fun H3=>Q σ H3
theorem zj6 {o i:Expr}{to ti:TE}{t:TSet}(ho:PE X o to)(hi:PE X i ti)(hs:PSet X t)
  (ha:∀ v,assign (.Subscript o i pos) X.env v=(do
   let ov ← holding [v] (eval o X.env)
   let iv ← holding [v,ov] (eval i X.env)
   standAt pos
   holding [v,ov,iv] (setItem ov iv v)
   release [v,ov,iv] []):=by intro _;rfl):PG X (.Subscript o i pos) (gSub to ti t):=by
 intro pins s σ H v u Q I r h
 rw [ha]
 refine wpAny_bind (wpAny_holding (thn (ho pins s σ H _ I h) fun ov s1 ⟨x,H1,I1,r1,q1⟩=>?_))
 refine wpAny_bind (wpAny_holding (thn (hi pins s1 σ H1 _ I1 q1) fun iv s2 ⟨y,H2,I2,r2,q2⟩=>?_))
 refine wpAny_bind (wpAny_standAt (wpAny_bind (wpAny_holding (thn (hs pins s2 σ H2 x y v ov iv u _ I2 r1 r2 r q2) fun _ s3 ⟨H3,I3,q3⟩=>?_))))
 exact wpAny_release ⟨σ,H3,I3,q3⟩
noncomputable def tAsg (te:TE)(g:TG):TS:=fun D σ H=>te σ H fun x H1=>g x σ H1 D.nx
theorem zgn {tg e:Expr}{te:TE}{g:TG}(he:PE X e te)(hg:PG X tg g)(hs:swapsWithSole [tg] e pos.line X.env=pure false:=by rfl)(hw:swappedStores [tg] e X.env=pure none:=by rfl)
  (h1:(assignEach [tg] X.env).map (·.2)=[assign tg X.env]:=by rfl):PS X (.Assign [tg] e pos) (tAsg te g):=by
 intro pins s σ H D I h
 refine wpAny_Assign_stores (thn (he pins s σ H _ I h) fun v s1 ⟨x,H1,I1,r1,q1⟩=>?_) hs hw
 rw [h1]
 exact thn (hg pins s1 σ H1 x v _ I1 r1 q1) fun _ s2 q=>q
theorem zap {i:Nat}{x:Str}{e:Expr}{te:TE}{pos':Pos}(hN:X.N.Nodup)(hi:X.N[i]?=some x)(hx:Loc X.env.scope x)(he:PE X e te)(hs:swapsWith e (some (.Name x pos')) pos.line X.env=pure false:=by rfl)(hf:X.fn x=true∨X.env.scope.names.lookup x=some .local:=by first | exact .inl rfl | exact .inr rfl | assumption) :
  PS X (.Assign [.Name x pos'] e pos) (tAsg te (gName i)):=by
 intro pins s σ H D I h
 refine wpAny_Assign_Name (thn (he pins s σ H _ I h) fun v s1 ⟨y,H1,I1,r1,q1⟩=>?_) hs
 exact zfx I1 hN hi hx r1 (fun s2 I2=>⟨_,H1,I2,q1⟩) hf
noncomputable def tAug (i:Nat)(te:TE)(ti:TIp):TS:=fun D σ H=>∃ x,σ[i]?=some (some x)/\te σ H fun y H1=>ti x y H1 fun z H2=>D.nx (σ.set i (some z)) H2
theorem zoH {i:Nat}{x:Str}{e:Expr}{te:TE}{op:Operator}{ti:TIp}{pos':Pos}(hN:X.N.Nodup)(hi:X.N[i]?=some x)(hx:Loc X.env.scope x)(he:PE X e te)(ho:PIp X op ti)(hf:X.fn x=true∨X.env.scope.names.lookup x=some .local:=by first | exact .inl rfl | exact .inr rfl | assumption) :
  PS X (.AugAssign (.Name x pos') op e pos) (tAug i te ti):=by
 intro pins s σ H D I h
 obtain ⟨v,e1,h⟩:=h
 obtain ⟨m,hn,hl⟩:=I.loc
 have vis:Vis X.env.scope x:=by rcases hx with k | k;exact .inl k;exact .inr (.inl k)
 obtain ⟨u,r,l⟩:=hl i x v hi e1 vis
 refine wpAny_AugAssign_Name ?_
 have go:wpAny (model X.prog X.w) X.A (eval e X.env) (fun w s₂=>wpAny (model X.prog X.w) X.A (inplaceOp op u w) (fun r s₃=>wpAny (model X.prog X.w) X.A (storeName X.env x r) (fun _=>SP X pins D .next) X.xe s₃) X.xe s₂) X.xe s:=by
  refine thn (he pins s σ H _ I h) fun w s1 ⟨y,H1,I1,r1,q1⟩=>?_
  refine thn (ho pins s1 σ H1 v y u w _ I1 r r1 q1) fun z s2 ⟨zv,H2,I2,r2,q2⟩=>?_
  exact zfx I2 hN hi hx r2 (fun s3 I3=>⟨_,H2,I3,q2⟩) hf
 rcases l with ⟨hk,hm⟩ | ⟨hk,c,hc,hcell⟩
 ·exact wpAny_loadName_local I.ok.kind hk hn hm go
 ·rcases hk with hk | hk
  ·exact wpAny_loadName_cell I.ok.kind hk hc hcell go
  ·rcases hx with k | k
   ·have:X.env.scope.names.lookup x=some .free:=hk
    rw [k] at this;cases this
   ·have:X.env.scope.names.lookup x=some .free:=hk
    rw [k] at this;cases this
end
section
variable {X:Cx}{pos:Pos}
noncomputable def zjE (c:TT)(tb:TS):TS:=fun D σ H=>∃ W:Nat->St->Hp->Prop,(∃ m,W m σ H)/\∀ m σ H,W m σ H ->
 c σ H fun b H1=>if b=true then ∃ N:St->Hp->Prop,(∀ σ' H',N σ' H'->∃ m',m' < m/\W m' σ' H')/\tb { D with nx:=N,ct:=N,bk:=D.nx } σ H1 else D.nx σ H1
theorem zdZ {c:Expr}{body:List Stmt}{tc:TT}{tb:TS}(hp:PassesOwn (model X.prog X.w) X.A X.env X.xe)(hc:PT X c tc)(hb:PSs X body tb):PS X (.While c body [] pos) (zjE tc tb):=by
 intro pins s σ H D I h
 obtain ⟨W,⟨m0,w0⟩,turn⟩:=h
 refine wpAny_While (codeAny_whileLoop (fun n s'=>∃ σ' H',Inv X pins σ' H' s'/\W n σ' H') ?_ m0 ⟨σ,H,I,w0⟩)
 rintro n s1 ⟨σ1,H1,I1,w1⟩
 refine wpAny_passesOwn hp (thn (hc pins s1 σ1 H1 _ I1 (turn n σ1 H1 w1)) fun b s2 ⟨H2,I2,q2⟩=>?_)
 cases b with
 | true =>
  obtain ⟨N,hN,q2⟩:=q2
  rw [if_pos rfl]
  refine wpAny_passesOwn hp (thn (hb pins s2 σ1 H2 _ I2 q2) fun f s3 q3=>?_)
  cases f with
  | next =>
   obtain ⟨σ3,H3,I3,n3⟩:=q3
   obtain ⟨m',hm,w3⟩:=hN σ3 H3 n3
   exact ⟨m',hm,σ3,H3,I3,w3⟩
  | cont =>
   obtain ⟨σ3,H3,I3,n3⟩:=q3
   obtain ⟨m',hm,w3⟩:=hN σ3 H3 n3
   exact ⟨m',hm,σ3,H3,I3,w3⟩
  | brk=>exact q3
  | ret v=>exact q3
 | false =>
  rw [if_neg Bool.false_ne_true]
  exact wpAny_execs_nil ⟨σ1,H2,I2,q2⟩
end
structure It where
 go:Nat->Hp->Prop
 yld:Nat->Hp->V->Hp->Prop
 stop:Nat->Hp->Prop
noncomputable def FpOk (X:Cx)(pins:List (Addr×Obj))(H:Hp)(b:Addr):Prop :=
 H b=none/\b≠X.env.locals/\b ∉ X.fs/\(b ∈ X.ex∨X.s₀.heap.objs.size<=b)/\(∀ x c,X.env.cells.lookup x=some c->c≠b)/\∀ p ∈ X.pn ++ pins,p.1≠b
theorem Inv.fpOk {X:Cx}{pins:List (Addr×Obj)}{σ:St}{H H':Hp}{s:Shared}{b:Addr}(I:Inv X pins σ H s)(hb:s.heap.objs.size<=b)(hn:H' b=none):FpOk X pins H' b:=by
 refine ⟨hn,Nat.ne_of_gt (Nat.lt_of_lt_of_le I.lt hb),I.nofs hb,.inr (Nat.le_trans I.sz hb),fun x c e z=>?_,fun p hp z=>?_⟩
 ·obtain ⟨v,q⟩:=I.cell x c e
  exact absurd (Nat.lt_of_lt_of_le q.lt (by rw [z];exact hb)) (Nat.lt_irrefl _)
 ·exact absurd (Nat.lt_of_lt_of_le (Heap.lt_size (I.pin p hp).1) (by rw [z];exact hb)) (Nat.lt_irrefl _)
structure Turn (P:Program)(w:World)(K:PySem.W.Frag)(tg:Expr)(J:It)(fp:List Addr)(it:Addr)(tn:Nat->Heap->Prop):Prop where
 mem:it ∈ fp
 obj:∀ i h,tn i h->∀ b ∈ fp,∃ o,h.get? b=some o/\∀ v,o.data≠.cell v
 keep:∀ i h h',tn i h->(∀ b ∈ fp,∀ o,h.get? b=some o->h'.get? b=some o)->tn i h'
 item:∀ (X:Cx),X.prog=P->X.w=w->X.K=K->X.calm=true->∀ (i:Nat) (pins:List (Addr×Obj)) (s:Shared) (σ:St) (H:Hp) (E:Value->Shared->Prop),Inv X pins σ H s->(∀ b ∈ fp,FpOk X pins H b)->tn i s.heap->J.go i H ->
  wpAny (model P w) X.A (pyNext (.ref it)) (fun r s1=>∃ u,r=some u /\
   wpAny (model P w) X.A (letOwnedTupleGo tg (.ref it) u) (fun _ s2=>∃ x H',Inv X pins σ H' s2/\RelV x u/\J.yld i H x H'/\tn (i + 1) s2.heap/\∀ b ∈ fp,H' b=none) E s1) E s
 done:∀ (X:Cx),X.prog=P->X.w=w->X.K=K->X.calm=true->∀ (i:Nat) (pins:List (Addr×Obj)) (s:Shared) (σ:St) (H:Hp) (E:Value->Shared->Prop),Inv X pins σ H s->(∀ b ∈ fp,FpOk X pins H b)->tn i s.heap->J.stop i H ->
  wpAny (model P w) X.A (pyNext (.ref it)) (fun r s1=>r=none/\Inv X pins σ H s1) E s
 self:∀ (A:Around) (i:Nat) (s:Shared) (Q:Value->Shared->Prop) (E:Value->Shared->Prop),tn i s.heap->Q (.ref it) s->wpAny (model P w) A (pyIter (.ref it)) Q E s
noncomputable abbrev TI:=St->Hp->(It->Hp->Prop)->Prop
noncomputable def PIE (X:Cx)(pins:List (Addr×Obj))(σ:St)(tg:Expr)(R:It->Hp->Prop)(itv:Value)(s2:Shared):Prop :=
 ∃ (it:Addr) (fp:List Addr) (tn:Nat->Heap->Prop) (J:It) (H':Hp),itv = .ref it/\Inv X pins σ H' s2/\Turn X.prog X.w X.K tg J fp it tn/\tn 0 s2.heap/\(∀ b ∈ fp,FpOk X pins H' b)/\R J H'
noncomputable def PI (X:Cx)(tg iter:Expr)(wi:TI):Prop :=
 ∀ (pins:List (Addr×Obj)) (s:Shared) (σ:St) (H:Hp) (R:It->Hp->Prop),Inv X pins σ H s->wi σ H R ->
  wpAny (model X.prog X.w) X.A (eval iter X.env) (fun v s1=>wpAny (model X.prog X.w) X.A (pyIter v) (PIE X pins σ tg R) X.xe s1) X.xe s
theorem zkV {M:Model}{A:Around}{E:Value->Shared->Prop}{s:Shared}{tg:Expr}{it:Addr}{u:Value}{o:Obj}{n:String}{vs:Array Value}{Q:Unit->Shared->Prop}(ho:s.heap.get? it=some o)(hc:o.cls = .type n)(hd:o.data = .fields vs)
  (hn:["enumerate","zip","dict_itemiterator","dict_reverseitemiterator","odict_iterator","itertools.zip_longest","itertools.pairwise"].contains n=false) (hQ:Q () s):wpAny M A (letOwnedTupleGo tg (.ref it) u) Q E s:=by
 unfold letOwnedTupleGo
 cases tg <;> first
  | exact wpAny_pure hQ
  | (cases u <;> first
    | exact wpAny_pure hQ
    | (refine wpAny_bind (wpAny_load ho ?_);rw [hc,hd];show wpAny M A (if (["enumerate","zip","dict_itemiterator","dict_reverseitemiterator","odict_iterator","itertools.zip_longest","itertools.pairwise"].contains n && vs[0]? == some (rawInt _))=true then _ else _) Q E s;rw [if_neg (by intro h;rw [hn,Bool.false_and] at h;cases h)];exact wpAny_pure hQ))
noncomputable def Itl (K:PySem.W.Frag)(a:Addr):It :=
 ⟨fun i H=>∃ xs x,SqL K H a xs/\xs[i]?=some x,fun i H x H'=>H'=H/\∀ xs,SqL K H a xs->xs[i]?=some x,fun i H=>∃ xs,SqL K H a xs/\xs.length<=i⟩
noncomputable def Itt (K:PySem.W.Frag)(a:Addr):It :=
 ⟨fun i H=>∃ xs x,SqT K H a xs/\xs[i]?=some x,fun i H x H'=>H'=H/\∀ xs,SqT K H a xs->xs[i]?=some x,fun i H=>∃ xs,SqT K H a xs/\xs.length<=i⟩
noncomputable def Itr (lo:Int)(n:Nat):It:=⟨fun i _=>i < n,fun i H x H'=>H'=H/\x = .int (lo + i),fun i _=>n<=i⟩
theorem zjy {P:Program}{w:World}{K:PySem.W.Frag}{tg:Expr}(a it:Addr):Turn P w K tg (Itl K a) [it] it (fun i h=>h.IsListIter it a i) where
 mem:=by simp
 obj:=fun i h st b hb=>by
  have e:b=it:=by simpa using hb
  subst e
  obtain ⟨o,e,c,d⟩:=st
  exact ⟨o,e,fun v z=>by rw [d] at z;cases z⟩
 keep:=fun i h h' st k=>st.at fun o e=>k it (by simp) o e
 item:=by
  intro X hP hw hK hc i pins s σ H E I hf st hg
  subst hP hw hK
  obtain ⟨xs,x,hq,hx⟩:=hg
  obtain ⟨its,rv,p,hz⟩:=I.list hq
  obtain ⟨u,hu,ru⟩:=rv.get hx
  obtain ⟨f0,f1,f2,f3,f4,f5⟩:=hf it (by simp)
  refine wpAny_pyNext_list_item st p.isList (x:=u) (by simpa using hu) fun h' st' sb=>?_
  have I1:Inv X pins σ H { s with heap:=h' }:=I.turned (t':=s.toks) (fun b o hb e=>(sb.2 b hb).trans e) f0 f1 f3 f4 f5
  obtain ⟨o,e,c,d⟩:=id st'
  exact ⟨u,rfl,zkV (s:={ s with heap:=h' }) e c d (by decide) ⟨x,H,I1,ru,⟨rfl,fun ys hy=>by rw [I.list_inj hy hq];exact hx⟩,st',fun b hb=>(hf b hb).1⟩⟩
 done:=by
  intro X hP hw hK hc i pins s σ H E I hf st hg
  subst hP hw hK
  obtain ⟨xs,hq,hx⟩:=hg
  obtain ⟨its,rv,p,hz⟩:=I.list hq
  obtain ⟨f0,f1,f2,f3,f4,f5⟩:=hf it (by simp)
  have hl:=rv.length
  exact wpAny_pyNext_list_end (I.ok.hd hc) st p.isList (by simp;omega) fun h' eb=>⟨rfl,I.turned (t':=s.toks) (fun b o hb e=>eb b o hb e) f0 f1 f3 f4 f5⟩
 self:=fun _ _ _ _ _ st h=>wpAny_pyIter_listiter st h
theorem ziP {P:Program}{w:World}{K:PySem.W.Frag}{tg:Expr}(a it:Addr):Turn P w K tg (Itt K a) [it] it (fun i h=>h.IsTupleIter it a i) where
 mem:=by simp
 obj:=fun i h st b hb=>by
  have e:b=it:=by simpa using hb
  subst e
  obtain ⟨o,e,c,d⟩:=st
  exact ⟨o,e,fun v z=>by rw [d] at z;cases z⟩
 keep:=fun i h h' st k=>st.at fun o e=>k it (by simp) o e
 item:=by
  intro X hP hw hK hc i pins s σ H E I hf st hg
  subst hP hw hK
  obtain ⟨xs,x,hq,hx⟩:=hg
  obtain ⟨its,rv,p,hz⟩:=I.tuple hq
  obtain ⟨u,hu,ru⟩:=rv.get hx
  obtain ⟨f0,f1,f2,f3,f4,f5⟩:=hf it (by simp)
  refine wpAny_pyNext_tuple_item st (show s.heap.IsTuple a its.toArray from p) (x:=u) (by simpa using hu) fun h' st' sb=>?_
  have I1:Inv X pins σ H { s with heap:=h' }:=I.turned (t':=s.toks) (fun b o hb e=>(sb.2 b hb).trans e) f0 f1 f3 f4 f5
  obtain ⟨o,e,c,d⟩:=id st'
  exact ⟨u,rfl,zkV (s:={ s with heap:=h' }) e c d (by decide) ⟨x,H,I1,ru,⟨rfl,fun ys hy=>by rw [I.tuple_inj hy hq];exact hx⟩,st',fun b hb=>(hf b hb).1⟩⟩
 done:=by
  intro X hP hw hK hc i pins s σ H E I hf st hg
  subst hP hw hK
  obtain ⟨xs,hq,hx⟩:=hg
  obtain ⟨its,rv,p,hz⟩:=I.tuple hq
  obtain ⟨f0,f1,f2,f3,f4,f5⟩:=hf it (by simp)
  have hl:=rv.length
  exact wpAny_pyNext_tuple_end (I.ok.hd hc) st (show s.heap.IsTuple a its.toArray from p) (by simp;omega) fun h' eb=>⟨rfl,I.turned (t':=s.toks) (fun b o hb e=>eb b o hb e) f0 f1 f3 f4 f5⟩
 self:=fun _ _ _ _ _ st h=>wpAny_pyIter_tupleiter st h
theorem ziQ {P:Program}{w:World}{K:PySem.W.Frag}{tg:Expr}(it:Addr)(lo:Int)(n:Nat):Turn P w K tg (Itr lo n) [it] it (fun i h=>IsRangeIter h it (lo + (i:Nat) * 1) ((n:Int) - (i:Nat)) 1) where
 mem:=by simp
 obj:=fun i h st b hb=>by
  have e:b=it:=by simpa using hb
  subst e
  exact ⟨_,st,fun v z=>by
   have z':Data.fields _=Data.cell v:=z
   cases z'⟩
 keep:=fun i h h' st k=>k it (by simp) _ st
 item:=by
  intro X hP hw hK hc i pins s σ H E I hf st hg
  subst hP hw hK
  obtain ⟨f0,f1,f2,f3,f4,f5⟩:=hf it (by simp)
  have W:=Walks.range (prog:=X.prog) (w:=X.w) (I.ok.hd hc) it lo 1 n
  refine W.item i s _ _ hg st fun v h' tk hv st' kk=>?_
  obtain ⟨t,rfl⟩:=hv
  have I1:Inv X pins σ H { s with heap:=h',toks:=tk }:=I.turned (fun b o hb e=>kk b o (by simpa using hb) e) f0 f1 f3 f4 f5
  refine ⟨_,rfl,zkV (s:={ s with heap:=h',toks:=tk }) (n:="range_iterator") st' rfl rfl (by decide) ⟨.int (lo + i),H,I1,⟨t,?_⟩,⟨rfl,rfl⟩,st',fun b hb=>(hf b hb).1⟩⟩
  rw [Int.mul_one]
 done:=by
  intro X hP hw hK hc i pins s σ H E I hf st hg
  subst hP hw hK
  obtain ⟨f0,f1,f2,f3,f4,f5⟩:=hf it (by simp)
  exact wpAny_pyNext_range_end (I.ok.hd hc) st (by have:n<=i:=hg;omega) fun h' eb=>⟨rfl,I.turned (t':=s.toks) (fun b o hb e=>eb b o hb e) f0 f1 f3 f4 f5⟩
 self:=fun _ _ _ _ _ st h=>wpAny_pyIter_rangeiter st h
end L2
namespace L2
open PySem PySem.Spec PyProof.Rows
section
variable {X:Cx}{tg:Expr}
theorem zlI {pins:List (Addr×Obj)}{σ:St}{H:Hp}{s:Shared}{R:It->Hp->Prop}{E:Value->Shared->Prop}{lo hi:Int}{t u v:Tok}{tk:Nat}(I:Inv X pins σ H s)(h1 : -(2 ^ 62)<=lo)(h2:lo < 2 ^ 62)(h3 : -(2 ^ 62)<=hi)(h4:hi < 2 ^ 62)
  (q:R (Itr lo (hi - lo).toNat) H):wpAny (model X.prog X.w) X.A (pyIter (.ref s.heap.objs.size)) (PIE X pins σ tg R) E { s with heap:=s.heap.push { cls:=.type "range",data:=.fields #[.int lo t,.int hi u,.int 1 v] },toks:=tk }:=by
 refine wpAny_pyIter_range (IsRange.new ..) (small_one h1 h2 h3 h4) ?_
 have I1:Inv X pins σ H { s with heap:=s.heap.push { cls:=.type "range",data:=.fields #[.int lo t,.int hi u,.int 1 v] },toks:=tk }:=I.kept fun b o e=>Heap.get?_push_of_some _ e
 refine ⟨(s.heap.push { cls:=.type "range",data:=.fields #[.int lo t,.int hi u,.int 1 v] }).objs.size,[(s.heap.push { cls:=.type "range",data:=.fields #[.int lo t,.int hi u,.int 1 v] }).objs.size],_,_,H,rfl,
  I1.kept (t':=tk) fun b o e=>Heap.get?_push_of_some _ e,ziQ _ lo (hi - lo).toNat,?_,fun b hb=>?_,q⟩
 ·have e1:lo + ((0:Nat):Int) * 1=lo:=by simp
  have e2:(((hi - lo).toNat:Nat):Int) - ((0:Nat):Int)=Builtin.Range.rangeSize lo hi 1:=by rw [rangeSize_one];split <;> omega
  show IsRangeIter _ _ (lo + ((0:Nat):Int) * 1) ((((hi - lo).toNat:Nat):Int) - ((0:Nat):Int)) 1
  rw [e1,e2]
  exact Heap.get?_push_size _ rfl
 ·have e:b=(s.heap.push { cls:=.type "range",data:=.fields #[.int lo t,.int hi u,.int 1 v] }).objs.size:=by simpa using hb
  subst e
  exact I1.fpOk (Nat.le_refl _) (I1.hok.fresh (Nat.le_refl _))
noncomputable def iRng1 (ta:TA):TI:=fun σ H R=>ta σ H fun vs H1=>∃ j:Int,vs=[.int j]/\-(2 ^ 62)<=j/\j < 2 ^ 62/\R (Itr 0 j.toNat) H1
noncomputable def iRng2 (ta:TA):TI:=fun σ H R=>ta σ H fun vs H1=>∃ i j:Int,vs=[.int i,.int j]/\(-(2 ^ 62)<=i/\i < 2 ^ 62/\-(2 ^ 62)<=j/\j < 2 ^ 62)/\R (Itr i (j - i).toNat) H1
theorem zbU {a:Expr}{ta:TA}{p pos:Pos}(hg:Gl X "range")(hm:X.mg "range" = none)(ha:PA X [a] ta)(hs:starEach [a] X.env=[(false,eval a X.env)]:=by rfl):PI X tg (.Call (.Name "range" p) [a] [] pos) (iRng1 ta):=by
 intro pins s σ H R I h
 refine Call_ (zfa I hg hm boot_range (PyProof.Rows.callWith_type1 (thn (ha pos pins s σ H _ I h) fun us s1 ⟨vs,H1,I1,r1,q1⟩=>?_) hs rfl))
 obtain ⟨j,e,q1,q2,q⟩:=q1
 subst e
 cases r1 with
 | cons r rr =>
  cases rr
  obtain ⟨t,rfl⟩:=r
  exact call_range_1 (zlI I1 (by omega) (by omega) q1 q2 (by simpa using q))
noncomputable def tFor (wi:TI)(g:TG)(tb:TS):TS:=fun D σ H=>wi σ H fun J H1=>∃ W:Nat->Nat->St->Hp->Prop,(∃ m,W 0 m σ H1)/\∀ i m σ H,W i m σ H ->
 (J.stop i H/\D.nx σ H)∨(J.go i H/\∃ N:St->Hp->Prop,(∀ σ' H',N σ' H'->∃ m',m' < m/\W (i + 1) m' σ' H')/\∀ x H',J.yld i H x H'->g x σ H' fun σ2 H2=>tb { D with nx:=N,ct:=N,bk:=D.nx } σ2 H2)
noncomputable def zgo (fp:List Addr)(h:Heap):List (Addr×Obj):=fp.filterMap fun b=>(h.get? b).map fun o=>(b,o)
theorem zdC {fp:List Addr}{h:Heap}{b:Addr}{o:Obj}(hb:b ∈ fp)(e:h.get? b=some o):(b,o) ∈ zgo fp h:=List.mem_filterMap.mpr ⟨b,hb,by rw [e];rfl⟩
theorem zgv {fp:List Addr}{h:Heap}{p:Addr×Obj}(hp:p ∈ zgo fp h):p.1 ∈ fp/\h.get? p.1=some p.2:=by
 obtain ⟨b,hb,e⟩:=List.mem_filterMap.mp hp
 cases q:h.get? b with
 | none=>rw [q] at e;cases e
 | some o =>
  rw [q] at e
  have e':(b,o)=p:=Option.some.inj e
  subst e'
  exact ⟨hb,q⟩
theorem Inv.pinned {pins:List (Addr×Obj)}{σ:St}{H:Hp}{s:Shared}{fp:List Addr}(I:Inv X pins σ H s)(hf:∀ b ∈ fp,FpOk X pins H b)(ho:∀ b ∈ fp,∃ o,s.heap.get? b=some o/\∀ v,o.data≠.cell v):Inv X (pins ++ zgo fp s.heap) σ H s :=
 I.pins_of fun p hp=>(List.mem_append.mp hp).elim (fun z=>I.pin p (List.mem_append_right _ z)) fun z=>by
  obtain ⟨hb,e⟩:=zgv z
  obtain ⟨f0,f1,f2,_⟩:=hf p.1 hb
  obtain ⟨o,e',d⟩:=ho p.1 hb
  rw [e] at e';cases e'
  exact ⟨e,f0,f1,f2,d⟩
theorem Inv.unpinned {pins pl:List (Addr×Obj)}{σ:St}{H:Hp}{s:Shared}(I:Inv X (pins ++ pl) σ H s):Inv X pins σ H s:=I.pins_of fun p hp=>I.pin p (List.mem_append_right _ (List.mem_append_left _ hp))
theorem zb2 {iter:Expr}{body:List Stmt}{wi:TI}{g:TG}{tb:TS}{pos:Pos}(hp:PassesOwn (model X.prog X.w) X.A X.env X.xe)(hc:X.calm=true)(hi:PI X tg iter wi)(hg:PG X tg g)(hb:PSs X body tb)
  (hs:∀ x,foldedSetIterable iter X.env x=pure x:=by intro _;rfl):PS X (.For tg iter body [] pos) (tFor wi g tb):=by
 intro pins s σ H D I h
 refine wpAny_For (thn (hi pins s σ H _ I h) fun v s1 h1=>thn h1 fun itv s2 h2=>?_) hs
 obtain ⟨it,fp,tn,J,H2,e,I2,T,st2,f2,W,⟨m0,w0⟩,turn⟩:=h2
 subst e
 -- what stays true of the iterator's objects through the loop
 have stat:∀ {H':Hp},(∀ b ∈ fp,H' b=none)->∀ b ∈ fp,FpOk X pins H' b:=fun hn b hb=>⟨hn b hb,(f2 b hb).2⟩
 refine codeAny_forLoop_any (fun n s'=>∃ i σ' H',Inv X pins σ' H' s'/\tn i s'.heap/\(∀ b ∈ fp,H' b=none)/\W i n σ' H') ?_ m0 ⟨0,σ,H2,I2,st2,fun b hb=>(f2 b hb).1,w0⟩
 rintro n s3 ⟨i,σ3,H3,I3,st3,fr3,w3⟩
 rcases turn i n σ3 H3 w3 with ⟨stop,qn⟩ | ⟨go,N,hN,step⟩
 ·refine wpAny_passesOwn hp (thn (T.done X rfl rfl rfl hc i pins s3 σ3 H3 X.xe I3 (stat fr3) st3 stop) fun r s4 ⟨hr,I4⟩=>?_)
  subst hr
  exact wpAny_execs_nil ⟨σ3,H3,I4,qn⟩
 ·refine wpAny_passesOwn hp (thn (T.item X rfl rfl rfl hc i pins s3 σ3 H3 X.xe I3 (stat fr3) st3 go) fun r s4 ⟨u,hr,h4⟩=>?_)
  subst hr
  refine wpAny_passesOwn hp (thn h4 fun _ s5 ⟨x,H5,I5,r5,y5,st5,fr5⟩=>?_)
  have I5':=I5.pinned (stat fr5) (T.obj _ _ st5)
  refine wpAny_passesOwn hp (thn (hg _ s5 σ3 H5 x u _ I5' r5 (step x H5 y5)) fun _ s6 ⟨σ6,H6,I6,q6⟩=>?_)
  refine wpAny_passesOwn hp (thn (hb _ s6 σ6 H6 _ I6 q6) fun f s7 q7=>?_)
  have again:∀ {σ7:St} {H7:Hp},Inv X (pins ++ zgo fp s5.heap) σ7 H7 s7->N σ7 H7->∃ m,m < n/\∃ i σ' H',Inv X pins σ' H' s7/\tn i s7.heap/\(∀ b ∈ fp,H' b=none)/\W i m σ' H':=fun {σ7 H7} I7 n7=>by
   obtain ⟨m',hm,w7⟩:=hN σ7 H7 n7
   refine ⟨m',hm,i + 1,σ7,H7,I7.unpinned,T.keep _ _ _ st5 fun b hb o e=>(I7.pin (b,o) (List.mem_append_right _ (List.mem_append_right _ (zdC hb e)))).1,fun b hb=>?_,w7⟩
   obtain ⟨o,e,d⟩:=T.obj _ _ st5 b hb
   exact (I7.pin (b,o) (List.mem_append_right _ (List.mem_append_right _ (zdC hb e)))).2.1
  cases f with
  | next=>obtain ⟨σ7,H7,I7,n7⟩:=q7;exact again I7 n7
  | cont=>obtain ⟨σ7,H7,I7,n7⟩:=q7;exact again I7 n7
  | brk=>obtain ⟨σ7,H7,I7,q7⟩:=q7;exact ⟨σ7,H7,I7.unpinned,q7⟩
  | ret v=>obtain ⟨x7,σ7,H7,I7,r7,q7⟩:=q7;exact ⟨x7,σ7,H7,I7.unpinned,r7,q7⟩
end
theorem zmj {K:PySem.W.Frag}{a:Addr}{xs:List V}{g:TG}{tb:TS}{D:Ends}{σ:St}{H:Hp}(Pv:Nat->St->Hp->Prop)(h0:Pv 0 σ H)(hl:∀ i σ H,i<=xs.length->Pv i σ H->SqL K H a xs)
  (hs:∀ i x σ H,xs[i]?=some x->Pv i σ H->g x σ H fun σ2 H2=>tb { D with nx:=Pv (i + 1),ct:=Pv (i + 1),bk:=D.nx } σ2 H2) (hd:∀ σ H,Pv xs.length σ H->D.nx σ H) :
  ∃ W:Nat->Nat->St->Hp->Prop,(∃ m,W 0 m σ H)/\∀ i m σ H,W i m σ H ->
   ((Itl K a).stop i H/\D.nx σ H)∨((Itl K a).go i H/\∃ N:St->Hp->Prop,(∀ σ' H',N σ' H'->∃ m',m' < m/\W (i + 1) m' σ' H')/\∀ x H',(Itl K a).yld i H x H'->g x σ H' fun σ2 H2=>tb { D with nx:=N,ct:=N,bk:=D.nx } σ2 H2):=by
 refine ⟨fun i m σ H=>m=xs.length - i/\i<=xs.length/\Pv i σ H,⟨xs.length,by simp,Nat.zero_le _,h0⟩,?_⟩
 rintro i m σ H ⟨rfl,hi,p⟩
 have q:=hl i σ H hi p
 by_cases hlt:i < xs.length
 ·refine .inr ⟨⟨xs,xs[i],q,by simp [hlt]⟩,Pv (i + 1),fun σ' H' p'=>⟨xs.length - (i + 1),by omega,rfl,hlt,p'⟩,fun x H' y=>?_⟩
  obtain ⟨e,y⟩:=y
  subst e
  exact hs i x σ _ (y xs q) p
 ·have e:i=xs.length:=by omega
  subst e
  exact .inl ⟨⟨xs,q,Nat.le_refl _⟩,hd σ H p⟩
theorem zn5 {K:PySem.W.Frag}{a:Addr}{xs:List V}{g:TG}{tb:TS}{D:Ends}{σ:St}{H:Hp}(Pv:Nat->St->Hp->Prop)(h0:Pv 0 σ H)(hl:∀ i σ H,i<=xs.length->Pv i σ H->SqT K H a xs)
  (hs:∀ i x σ H,xs[i]?=some x->Pv i σ H->g x σ H fun σ2 H2=>tb { D with nx:=Pv (i + 1),ct:=Pv (i + 1),bk:=D.nx } σ2 H2) (hd:∀ σ H,Pv xs.length σ H->D.nx σ H) :
  ∃ W:Nat->Nat->St->Hp->Prop,(∃ m,W 0 m σ H)/\∀ i m σ H,W i m σ H ->
   ((Itt K a).stop i H/\D.nx σ H)∨((Itt K a).go i H/\∃ N:St->Hp->Prop,(∀ σ' H',N σ' H'->∃ m',m' < m/\W (i + 1) m' σ' H')/\∀ x H',(Itt K a).yld i H x H'->g x σ H' fun σ2 H2=>tb { D with nx:=N,ct:=N,bk:=D.nx } σ2 H2):=by
 refine ⟨fun i m σ H=>m=xs.length - i/\i<=xs.length/\Pv i σ H,⟨xs.length,by simp,Nat.zero_le _,h0⟩,?_⟩
 rintro i m σ H ⟨rfl,hi,p⟩
 have q:=hl i σ H hi p
 by_cases hlt:i < xs.length
 ·refine .inr ⟨⟨xs,xs[i],q,by simp [hlt]⟩,Pv (i + 1),fun σ' H' p'=>⟨xs.length - (i + 1),by omega,rfl,hlt,p'⟩,fun x H' y=>?_⟩
  obtain ⟨e,y⟩:=y
  subst e
  exact hs i x σ _ (y xs q) p
 ·have e:i=xs.length:=by omega
  subst e
  exact .inl ⟨⟨xs,q,Nat.le_refl _⟩,hd σ H p⟩
theorem zkW {lo:Int}{n:Nat}{g:TG}{tb:TS}{D:Ends}{σ:St}{H:Hp}(Pv:Nat->St->Hp->Prop)(h0:Pv 0 σ H)
  (hs:∀ i σ H,i < n->Pv i σ H->g (.int (lo + i)) σ H fun σ2 H2=>tb { D with nx:=Pv (i + 1),ct:=Pv (i + 1),bk:=D.nx } σ2 H2) (hd:∀ σ H,Pv n σ H->D.nx σ H) :
  ∃ W:Nat->Nat->St->Hp->Prop,(∃ m,W 0 m σ H)/\∀ i m σ H,W i m σ H ->
   ((Itr lo n).stop i H/\D.nx σ H)∨((Itr lo n).go i H/\∃ N:St->Hp->Prop,(∀ σ' H',N σ' H'->∃ m',m' < m/\W (i + 1) m' σ' H')/\∀ x H',(Itr lo n).yld i H x H'->g x σ H' fun σ2 H2=>tb { D with nx:=N,ct:=N,bk:=D.nx } σ2 H2):=by
 refine ⟨fun i m σ H=>m=n - i/\i<=n/\Pv i σ H,⟨n,by simp,Nat.zero_le _,h0⟩,?_⟩
 rintro i m σ H ⟨rfl,hi,p⟩
 by_cases hlt:i < n
 ·refine .inr ⟨hlt,Pv (i + 1),fun σ' H' p'=>⟨n - (i + 1),by omega,rfl,hlt,p'⟩,fun x H' y=>?_⟩
  obtain ⟨e,y⟩:=y
  subst e y
  exact hs i σ _ hlt p
 ·have e:i=n:=by omega
  subst e
  exact .inl ⟨Nat.le_refl _,hd σ H p⟩
end L2
namespace L2
open PySem PySem.Spec PyProof.Rows
noncomputable abbrev R2:=V->V->Hp->VK->Prop
noncomputable def OpR (X:Cx)(f:Value->Value->Sem Value)(r:R2):Prop :=
 ∀ (pins:List (Addr×Obj)) (s:Shared) (σ:St) (H:Hp) (x y:V) (v u:Value) (Q:VK),Inv X pins σ H s->RelV x v->RelV y u->r x y H Q ->
  wpAny (model X.prog X.w) X.A (f v u) (EP X pins σ Q) X.xe s
noncomputable def UnR (X:Cx)(f:Value->Sem Value)(r:V->Hp->VK->Prop):Prop :=
 ∀ (pins:List (Addr×Obj)) (s:Shared) (σ:St) (H:Hp) (x:V) (v:Value) (Q:VK),Inv X pins σ H s->RelV x v->r x H Q ->
  wpAny (model X.prog X.w) X.A (f v) (EP X pins σ Q) X.xe s
noncomputable def CallR (X:Cx)(f:Value)(r:List V->Hp->VK->Prop):Prop :=
 ∀ (pins:List (Addr×Obj)) (s:Shared) (σ:St) (H:Hp) (xs:List V) (us:List Value) (Q:VK),Inv X pins σ H s->Vals xs us->r xs H Q ->
  wpAny (model X.prog X.w) X.A (call f us) (EP X pins σ Q) X.xe s
noncomputable def TruR (X:Cx)(r:V->Hp->(Bool->Hp->Prop)->Prop):Prop :=
 ∀ (pins:List (Addr×Obj)) (s:Shared) (σ:St) (H:Hp) (x:V) (v:Value) (Q:Bool->Hp->Prop),Inv X pins σ H s->RelV x v->r x H Q ->
  wpAny (model X.prog X.w) X.A (truthy v) (TP X pins σ Q) X.xe s
noncomputable def tOp (r:R2)(ta tb:TE):TE:=fun σ H Q=>ta σ H fun x H1=>tb σ H1 fun y H2=>r x y H2 Q
noncomputable def tUn (r:V->Hp->VK->Prop)(ta:TE):TE:=fun σ H Q=>ta σ H fun x H1=>r x H1 Q
noncomputable def rI (C:Int->Int->Prop)(g:Int->Int->V):R2:=fun x y H Q=>∃ i j,x = .int i/\y = .int j/\C i j/\Q (g i j) H
noncomputable def rI0 (g:Int->Int->V):R2:=fun x y H Q=>∃ i j,x = .int i/\y = .int j/\Q (g i j) H
noncomputable def rU (g:Int->V):V->Hp->VK->Prop:=fun x H Q=>∃ i,x = .int i/\Q (g i) H
section
variable {X:Cx}{a b c:Expr}{ta tb tc:TE}{pos:Pos}
theorem binT (ha:PE X a ta)(hb:PE X b tb){pins:List (Addr×Obj)}{s:Shared}{σ:St}{H:Hp}{R:V->V->Hp->Prop}(I:Inv X pins σ H s)
  (h:ta σ H fun x H1=>tb σ H1 fun y H2=>R x y H2) {Q:Value->Shared->Prop} {f:Value->Value->Sem Value}
  (hf:∀ v u s2 x y H2,Inv X pins σ H2 s2->RelV x v->RelV y u->R x y H2->wpAny (model X.prog X.w) X.A (f v u) Q X.xe s2) :
  wpAny (model X.prog X.w) X.A (eval a X.env) (fun v s₁=>wpAny (model X.prog X.w) X.A (eval b X.env) (fun u s₂=>wpAny (model X.prog X.w) X.A (f v u) Q X.xe s₂) X.xe s₁) X.xe s:=by
 refine thn (ha pins s σ H _ I h) fun v s1 ⟨x,H1,I1,r1,q1⟩=>?_
 refine thn (hb pins s1 σ H1 _ I1 q1) fun u s2 ⟨y,H2,I2,r2,q2⟩=>?_
 exact hf v u s2 x y H2 I2 r1 r2 q2
theorem zaQ {op:Operator}{r:R2}(ho:OpR X (binaryOp op) r)(ha:PE X a ta)(hb:PE X b tb):PE X (.BinOp a op b pos) (tOp r ta tb):=by
 intro pins s σ H Q I h
 exact wpAny_BinOp (binT ha hb I h fun v u s2 x y H2 I2 rx ry q=>ho pins s2 σ H2 x y v u Q I2 rx ry q)
theorem zj7 {op:UnaryOp}{r:V->Hp->VK->Prop}(ho:UnR X (unaryOp op) r)(ha:PE X a ta):PE X (.UnaryOp op a pos) (tUn r ta):=by
 intro pins s σ H Q I h
 exact UnaryOp_ (thn (ha pins s σ H _ I h) fun v s1 ⟨x,H1,I1,r1,q1⟩=>ho pins s1 σ H1 x v Q I1 r1 q1)
theorem opI {f:Value->Value->Sem Value}{C:Int->Int->Prop}{g:Int->Int->Int}
  (rule:∀ (i j:Int) (t u:Tok) (s:Shared) (Q:Value->Shared->Prop) (E:Value->Shared->Prop),C i j->Q (.int (g i j) s.toks) { s with toks:=s.toks + 1 }->wpAny (model X.prog X.w) X.A (f (.int i t) (.int j u)) Q E s) :
  OpR X f (rI C fun i j=>.int (g i j)):=by
 intro pins s σ H x y v u Q I rx ry h
 obtain ⟨i,j,rfl,rfl,hc,q⟩:=h
 obtain ⟨t,rfl⟩:=rx
 obtain ⟨t',rfl⟩:=ry
 exact rule i j t t' s _ _ hc ⟨.int (g i j),H,I.tok _,⟨_,rfl⟩,q⟩
theorem opI0 {f:Value->Value->Sem Value}{g:Int->Int->Int}
  (rule:∀ (i j:Int) (t u:Tok) (s:Shared) (Q:Value->Shared->Prop) (E:Value->Shared->Prop),Q (.int (g i j) s.toks) { s with toks:=s.toks + 1 }->wpAny (model X.prog X.w) X.A (f (.int i t) (.int j u)) Q E s) :
  OpR X f (rI0 fun i j=>.int (g i j)):=by
 intro pins s σ H x y v u Q I rx ry h
 obtain ⟨i,j,rfl,rfl,q⟩:=h
 obtain ⟨t,rfl⟩:=rx
 obtain ⟨t',rfl⟩:=ry
 exact rule i j t t' s _ _ ⟨.int (g i j),H,I.tok _,⟨_,rfl⟩,q⟩
theorem opB0 {f:Value->Value->Sem Value}{g:Int->Int->Bool}
  (rule:∀ (i j:Int) (t u:Tok) (s:Shared) (Q:Value->Shared->Prop) (E:Value->Shared->Prop),Q (.bool (g i j)) s->wpAny (model X.prog X.w) X.A (f (.int i t) (.int j u)) Q E s) :
  OpR X f (rI0 fun i j=>.bl (g i j)):=by
 intro pins s σ H x y v u Q I rx ry h
 obtain ⟨i,j,rfl,rfl,q⟩:=h
 obtain ⟨t,rfl⟩:=rx
 obtain ⟨t',rfl⟩:=ry
 exact rule i j t t' s _ _ ⟨.bl (g i j),H,I,rfl,q⟩
noncomputable def CDiv (i j:Int):Prop:=0 < j/\j < 1073741824
noncomputable def CPow (i j:Int):Prop:=0<=j/\j<=1000000/\i.natAbs < 2 ^ 64
noncomputable def CMul (i j:Int):Prop:=(-(2 ^ 64) < i/\i < 2 ^ 64)∨(-(2 ^ 64) < j/\j < 2 ^ 64)
theorem CMul.ok {i j:Int}(h:CMul i j):IntMulOk i j:=by
 rcases h with ⟨h1,h2⟩ | ⟨h1,h2⟩
 ·exact .of_left (intBits_le_64 h1 h2)
 ·exact .of_right (intBits_le_64 h1 h2)
theorem zoT:OpR X (binaryOp .Add) (rI0 fun i j=>.int (i + j)):=opI0 fun _ _ _ _ _ _ _ q=>add_int q
theorem ze4:OpR X (binaryOp .Sub) (rI0 fun i j=>.int (i - j)):=opI0 fun _ _ _ _ _ _ _ q=>sub_int q
theorem ze6:OpR X (binaryOp .Mult) (rI CMul fun i j=>.int (i * j)):=opI fun _ _ _ _ _ _ _ hc q=>mul_int q hc.ok
theorem zhC:OpR X (binaryOp .FloorDiv) (rI CDiv fun i j=>.int (i / j)):=opI fun i j _ _ _ _ _ hc q=>by
 have h1:(0:Int) < j:=hc.1
 have h2:j < 1073741824:=hc.2
 exact floordiv_int (by omega) (by rw [Int.fdiv_eq_ediv_of_nonneg i (by omega)];exact q) (.inl (PyProof.noPylong_small (by omega)))
theorem zgt:OpR X (binaryOp .Mod) (rI (fun _ j=>0 < j) fun i j=>.int (i % j)):=opI fun i j _ _ _ _ _ hc q=>by
 have h1:(0:Int) < j:=hc
 exact mod_int' (by omega) (by rw [Int.fmod_eq_emod_of_nonneg i (by omega)];exact q)
theorem zoO:OpR X (binaryOp .Pow) (rI CPow fun i j=>.int (i ^ j.toNat)):=opI fun _ _ _ _ _ _ _ hc q=>pow_int_small hc.1 hc.2.1 hc.2.2 q
theorem unI {f:Value->Sem Value}{g:Int->Int}
  (rule:∀ (i:Int) (t:Tok) (s:Shared) (Q:Value->Shared->Prop) (E:Value->Shared->Prop),Q (.int (g i) s.toks) { s with toks:=s.toks + 1 }->wpAny (model X.prog X.w) X.A (f (.int i t)) Q E s) :
  UnR X f (rU fun i=>.int (g i)):=by
 intro pins s σ H x v Q I rx h
 obtain ⟨i,rfl,q⟩:=h
 obtain ⟨t,rfl⟩:=rx
 exact rule i t s _ _ ⟨.int (g i),H,I.tok _,⟨_,rfl⟩,q⟩
theorem zgc:UnR X (unaryOp .USub) (rU fun i=>.int (-i)):=unI fun _ _ _ _ _ q=>neg_int q
end
section
variable {X:Cx}{a b c:Expr}{ta tb tc:TE}{pos:Pos}
theorem ziC {pins:List (Addr×Obj)}{σ:St}{H:Hp}{s:Shared}{Q:VK}{k k':Bool}(I:Inv X pins σ H s)(q:Q (.bl k) H)(e:k=k'):EP X pins σ Q (.bool k') s:=by
 subst e
 exact ⟨.bl k,H,I,rfl,q⟩
theorem zpD:OpR X (compareOp .Lt) (rI0 fun i j=>.bl (decide (i < j))):=opB0 fun _ _ _ _ _ _ _ q=>lt_int q
theorem zfH:OpR X (compareOp .LtE) (rI0 fun i j=>.bl (decide (i<=j))):=opB0 fun _ _ _ _ _ _ _ q=>le_int q
theorem zlU:OpR X (compareOp .Gt) (rI0 fun i j=>.bl (decide (j < i))):=opB0 fun _ _ _ _ _ _ _ q=>gt_int q
theorem zoR:OpR X (compareOp .GtE) (rI0 fun i j=>.bl (decide (j<=i))):=opB0 fun _ _ _ _ _ _ _ q=>ge_int q
theorem zke:OpR X (compareOp .Lt) (fun x y H Q=>∃ i j,x = .str i/\y = .str j/\Q (.bl (decide (i.cps.toList < j.cps.toList))) H):=by
 intro pins s σ H x y v u Q I rx ry h
 obtain ⟨i,j,rfl,rfl,q⟩:=h
 obtain ⟨t,rfl⟩:=rx
 obtain ⟨t',rfl⟩:=ry
 exact lt_str (ziC I q rfl)
theorem zdm:OpR X (compareOp .In) (fun x y H Q=>∃ i j,x = .str i/\y = .str j/\Q (.bl (!(Builtin.Str.occurrences j i 0 j.length 1).isEmpty)) H):=by
 intro pins s σ H x y v u Q I rx ry h
 obtain ⟨i,j,rfl,rfl,q⟩:=h
 obtain ⟨t,rfl⟩:=rx
 obtain ⟨t',rfl⟩:=ry
 exact in_str (ziC I q rfl)
theorem zoQ:OpR X (compareOp .Is) (fun x y H Q=>y = .non/\Q (.bl (decide (x = .non))) H):=by
 intro pins s σ H x y v u Q I rx ry h
 obtain ⟨rfl,q⟩:=h
 cases ry
 refine is_none_gen (ziC I q ?_)
 cases x <;> first
  | (cases rx;rfl)
  | (obtain ⟨t,rfl⟩:=rx;rfl)
theorem znE:OpR X (compareOp .IsNot) (fun x y H Q=>y = .non/\Q (.bl (!decide (x = .non))) H):=by
 intro pins s σ H x y v u Q I rx ry h
 obtain ⟨rfl,q⟩:=h
 cases ry
 refine isnot_none_gen (ziC I q ?_)
 cases x <;> first
  | (cases rx;rfl)
  | (obtain ⟨t,rfl⟩:=rx;rfl)
theorem OpR.or {f:Value->Value->Sem Value}{r r':R2}(h:OpR X f r)(h':OpR X f r'):OpR X f (fun x y H Q=>r x y H Q∨r' x y H Q):=by
 intro pins s σ H x y v u Q I rx ry q
 rcases q with q | q
 ·exact h pins s σ H x y v u Q I rx ry q
 ·exact h' pins s σ H x y v u Q I rx ry q
theorem nomark (b:Expr){op:CmpOp}(h:op≠.In:=by decide)(h2:op≠.NotIn:=by decide):behindInMarks op b=false:=by
 have e1:(op == CmpOp.In)=false:=by cases op <;> first | rfl | exact absurd rfl h
 have e2:(op == CmpOp.NotIn)=false:=by cases op <;> first | rfl | exact absurd rfl h2
 cases b <;> simp [behindInMarks,e1,e2]
theorem zbW {op:CmpOp}{r:R2}(ho:OpR X (compareOp op) r)(ha:PE X a ta)(hb:PE X b tb)(hm:behindInMarks op b=false):PE X (.Compare a [op] [b] pos) (tOp r ta tb):=by
 intro pins s σ H Q I h
 exact wpAny_Compare1 (binT ha hb I h fun v u s2 x y H2 I2 rx ry q=>ho pins s2 σ H2 x y v u Q I2 rx ry q) hm
noncomputable def tTest (t:TE):TT:=fun σ H Q=>t σ H fun x H'=>∃ k,x = .bl k/\Q k H'
theorem zas {op:CmpOp}{r:R2}(ho:OpR X (compareOp op) r)(ha:PE X a ta)(hb:PE X b tb)(hm:behindInMarks op b=false):PT X (.Compare a [op] [b] pos) (tTest (tOp r ta tb)):=by
 intro pins s σ H Q I h
 refine wpAny_isTrue_Compare1 (thn (ha pins s σ H _ I h) fun v s1 ⟨x,H1,I1,r1,q1⟩=>thn (hb pins s1 σ H1 _ I1 q1) fun u s2 ⟨y,H2,I2,r2,q2⟩ =>
  thn (ho pins s2 σ H2 x y v u _ I2 r1 r2 q2) fun c s3 ⟨z,H3,I3,r3,k,e,q3⟩=>?_) hm
 subst e
 cases r3
 exact wpAny_truthy_bool ⟨H3,I3,q3⟩
noncomputable def tChain (r r':R2)(ta tb tc:TE):TE:=fun σ H Q=>ta σ H fun x H1=>tb σ H1 fun y H2=>r x y H2 fun z H3=>∃ k,z = .bl k /\
 (if k=true then tc σ H3 fun w' H4=>r' y w' H4 Q else Q (.bl false) H3)
theorem zdi {op op':CmpOp}{r r':R2}(ho:OpR X (compareOp op) r)(ho':OpR X (compareOp op') r')(ha:PE X a ta)(hb:PE X b tb)(hc:PE X c tc)
  (hm:lastMarks [op,op'] [b,c]=false:=by with_unfolding_all rfl):PT X (.Compare a [op,op'] [b,c] pos) (tTest (tChain r r' ta tb tc)):=by
 intro pins s σ H Q I h
 refine isTrue_chain (thn (ha pins s σ H _ I h) fun v s1 ⟨x,H1,I1,r1,q1⟩=>test_link (thn (hb pins s1 σ H1 _ I1 q1) fun u s2 ⟨y,H2,I2,r2,q2⟩ =>
  thn (ho pins s2 σ H2 x y v u _ I2 r1 r2 q2) fun d s3 ⟨z,H3,I3,r3,k,e,q3⟩=>?_)) hm
 subst e
 cases r3
 refine wpAny_truthy_bool ?_
 cases k with
 | false =>
  obtain ⟨k',e',q'⟩:=q3
  cases e'
  exact ite_ff ⟨H3,I3,q'⟩
 | true =>
  refine ite_tt (test_last (thn (hc pins s3 σ H3 _ I3 q3) fun w' s4 ⟨z',H4,I4,r4,q4⟩=>thn (ho' pins s4 σ H4 y z' u w' _ I4 r2 r4 q4) fun d' s5 ⟨z2,H5,I5,r5,k2,e2,q5⟩=>?_))
  subst e2
  cases r5
  exact wpAny_truthy_bool ⟨H5,I5,q5⟩
noncomputable def TruV (K:PySem.W.Frag)(x:V)(H:Hp)(k:Bool):Prop :=
 match x with
 | .non=>k=false
 | .bl b=>k=b
 | .int i=>k=(i != 0)
 | .str y=>y.length<=sizeLine/\k=((y.length:Int) != 0)
 | .byt y=>y.size<=sizeLine/\k=((y.size:Int) != 0)
 | .ref p=>(∃ xs,SqL K H p xs/\k = !xs.isEmpty)∨(∃ xs,SqT K H p xs/\k = !xs.isEmpty)∨∃ kvs,H p=some (.dK kvs)/\k = !kvs.isEmpty
 | _=>False
theorem zjd {κ:Type}{kvs:List (κ×V)}{vs:List (κ×Value)}(r:KV kvs vs):(!vs.isEmpty) = !kvs.isEmpty:=by
 cases r <;> rfl
theorem zfb {xs:List V}{its:List Value}(r:Vals xs its):(!its.toArray.isEmpty) = !xs.isEmpty:=by
 cases r <;> simp
theorem line63:(sizeLine:Nat) < 2 ^ 63:=by rw [sizeLine_eq];decide
theorem zor:TruR X (fun x H Q=>∃ k,TruV X.K x H k/\Q k H):=by
 intro pins s σ H x v Q I rx h
 obtain ⟨k,e,q⟩:=h
 have hl:=line63
 have hs:sizeLine=16777216:=sizeLine_eq
 cases x with
 | non =>
  cases rx
  have e':k=false:=e
  subst e'
  exact truthy_none ⟨H,I,q⟩
 | bl b =>
  cases rx
  have e':k=b:=e
  subst e'
  exact wpAny_truthy_bool ⟨H,I,q⟩
 | int i =>
  obtain ⟨t,rfl⟩:=rx
  have e':k=(i != 0):=e
  subst e'
  exact PySem.P.truthy_int ⟨H,I,q⟩
 | str y =>
  obtain ⟨t,rfl⟩:=rx
  obtain ⟨hy,e'⟩:y.length<=sizeLine/\k=((y.length:Int) != 0):=e
  subst e'
  exact PySem.P.truthy_str (by omega) ⟨H,I.tok _,q⟩
 | byt y =>
  obtain ⟨t,rfl⟩:=rx
  obtain ⟨hy,e'⟩:y.size<=sizeLine/\k=((y.size:Int) != 0):=e
  subst e'
  exact PySem.W.truthy_bytes (by omega) ⟨H,I.tok _,q⟩
 | ref p =>
  cases rx
  have e':(∃ xs,SqL X.K H p xs/\k = !xs.isEmpty)∨(∃ xs,SqT X.K H p xs/\k = !xs.isEmpty)∨∃ kvs,H p=some (.dK kvs)/\k = !kvs.isEmpty:=e
  rcases e' with ⟨xs,hx,e'⟩ | ⟨xs,hx,e'⟩ | ⟨kvs,hx,e'⟩
  ·subst e'
   obtain ⟨its,r,pl,hz⟩:=I.list hx
   have hlen:=r.length
   exact wpAny_truthy_list pl.isList (by simp only [List.size_toArray];omega) ⟨H,I.tok _,by rw [zfb r];exact q⟩
  ·subst e'
   obtain ⟨its,r,pl,hz⟩:=I.tuple hx
   have hlen:=r.length
   exact truthy_tuple pl (by simp only [List.size_toArray];omega) ⟨H,I.tok _,by rw [zfb r];exact q⟩
  ·subst e'
   obtain ⟨hz,hS,vs,r,m⟩:kvs.length<=sizeLine/\(p == sysModules)=false/\∃ vs,KV kvs vs/\s.heap.DictOf (zaV X.prog X.w) p vs:=I.hok p _ hx
   have hlen:kvs.length=vs.length:=Paired.length r
   exact wpAny_truthy_dict hS m (by omega) ⟨H,I.tok _,by rw [zjd r];exact q⟩
 | _=>exact (show False from e).elim
theorem zlJ (ha:PE X a ta)(he:∀ whole,isTrue a X.env whole=(do let v ← whole;standAt a.pos;holding [v] (truthy v))) :
  PT X a (fun σ H Q=>ta σ H fun x H'=>∃ k,TruV X.K x H' k/\Q k H'):=by
 intro pins s σ H Q I h
 exact isTrue_plain (thn (ha pins s σ H _ I h) fun v s1 ⟨x,H1,I1,r1,q1⟩=>zor pins s1 σ H1 x v Q I1 r1 q1) (he _)
theorem zi1:OpR X (binaryOp .Add) (fun x y H Q=>∃ i j,x = .str i/\y = .str j/\i.length + j.length<=sizeLine/\Q (.str (i ++ j)) H):=by
 intro pins s σ H x y v u Q I rx ry h
 obtain ⟨i,j,rfl,rfl,hz,q⟩:=h
 obtain ⟨t,rfl⟩:=rx
 obtain ⟨t',rfl⟩:=ry
 exact add_str (fun t' tk=>⟨.str (i ++ j),H,I.tok _,⟨_,rfl⟩,q⟩) hz
theorem vals1 {x:V}{us:List Value}(r:Vals [x] us):∃ u,us=[u]/\RelV x u:=by
 cases r with
 | cons r1 r2=>cases r2;exact ⟨_,rfl,r1⟩
theorem vals2 {x y:V}{us:List Value}(r:Vals [x,y] us):∃ u w',us=[u,w']/\RelV x u/\RelV y w':=by
 cases r with
 | cons r1 r2 =>
  cases r2 with
  | cons r3 r4=>cases r4;exact ⟨_,_,rfl,r1,r3⟩
theorem zmy:CallR X (.builtin "abs") (fun xs H Q=>∃ i,xs=[.int i]/\Q (.int (if i < 0 then -i else i)) H):=by
 intro pins s σ H xs us Q I r h
 obtain ⟨i,rfl,q⟩:=h
 obtain ⟨u,rfl,t,rfl⟩:=vals1 r
 exact call_abs_int fun u tk=>⟨.int (if i < 0 then -i else i),H,I.tok _,⟨_,rfl⟩,q⟩
theorem zlf (hc:X.calm=true):CallR X (.builtin "max") (fun xs H Q=>∃ i j,xs=[.int i,.int j]/\Q (.int (if j > i then j else i)) H):=by
 intro pins s σ H xs us Q I r h
 obtain ⟨i,j,rfl,q⟩:=h
 obtain ⟨u,w',rfl,⟨t,rfl⟩,⟨t',rfl⟩⟩:=vals2 r
 refine max_two_ints (I.ok.hd hc) fun h' tk k=>⟨_,H,I.kept k,?_,q⟩
 by_cases hj:j > i
 ·rw [if_pos hj,if_pos hj];exact ⟨_,rfl⟩
 ·rw [if_neg hj,if_neg hj];exact ⟨_,rfl⟩
theorem zld (hc:X.calm=true):CallR X (.builtin "min") (fun xs H Q=>∃ i j,xs=[.int i,.int j]/\Q (.int (if j < i then j else i)) H):=by
 intro pins s σ H xs us Q I r h
 obtain ⟨i,j,rfl,q⟩:=h
 obtain ⟨u,w',rfl,⟨t,rfl⟩,⟨t',rfl⟩⟩:=vals2 r
 refine min_two_ints (I.ok.hd hc) fun h' tk k=>⟨_,H,I.kept k,?_,q⟩
 by_cases hj:j < i
 ·rw [if_pos hj,if_pos hj];exact ⟨_,rfl⟩
 ·rw [if_neg hj,if_neg hj];exact ⟨_,rfl⟩
theorem zlh:CallR X (.type "int") (fun xs H Q=>(∃ i,xs=[.int i]/\Q (.int i) H)∨∃ k,xs=[.bl k]/\Q (.int (if k then 1 else 0)) H):=by
 intro pins s σ H xs us Q I r h
 rcases h with ⟨i,rfl,q⟩ | ⟨k,rfl,q⟩
 ·obtain ⟨u,rfl,t,rfl⟩:=vals1 r
  exact call_int_int ⟨.int i,H,I,⟨_,rfl⟩,q⟩
 ·obtain ⟨u,rfl,r1⟩:=vals1 r
  cases r1
  exact call_int_bool ⟨.int (if k then 1 else 0),H,I.tok _,⟨_,rfl⟩,q⟩
end
end L2
namespace L2
open PySem PySem.Spec PyProof.Rows
structure ObjM (h:Heap)(x dx C:Addr)(mA:Str->Option Value):Prop where
 obj:h.get? x=some (PySem.W.instObj C dx)
 ns:h.Ns1 dx mA
 ne:dx≠x
theorem zkA {h:Heap}{dx:Addr}{mA:Str->Option Value}(n:h.Ns1 dx mA):∃ od,h.get? dx=some od/\∀ name,PySem.W.lookIn name od=some (mA name):=by
 obtain ⟨o,es,ep,ho,hd,hk,_,hm⟩:=n
 refine ⟨o,ho,fun name=>?_⟩
 have e:=hm name
 unfold nsFind findBy at e
 rw [← Array.find?_toList] at e
 unfold PySem.W.lookIn
 rw [hd]
 dsimp only
 split
 ·rename_i y q
  rw [q] at e
  exact congrArg some e
 ·rename_i q
  rw [q] at e
  have a:es.toList.any (·.refKey)=false:=by
   rw [List.any_eq_false]
   intro y hy
   obtain ⟨z,t,hkey⟩:=hk y (Array.mem_toList_iff.mp hy)
   simp [DictEntry.refKey,hkey]
  have a':¬ es.toList.any (·.refKey)=true:=by rw [a];exact Bool.false_ne_true
  rw [if_neg a']
  exact congrArg some e
theorem ObjM.look {h:Heap}{x dx C:Addr}{mA:Str->Option Value}(I:ObjM h x dx C mA):∃ od,PySem.W.InstAt h x (PySem.W.instObj C dx) C (some od)/\∀ name,PySem.W.lookIn name od=some (mA name) :=
 let ⟨od,ho,hl⟩:=zkA I.ns
 ⟨od,⟨I.obj,rfl,rfl,ho⟩,hl⟩
section
variable {prog:Program}{w:World}{A:Around}{E:Value->Shared->Prop}{s:Shared}{K:PySem.W.Frag}{x dx C f:Addr}{mA:Str->Option Value}{name:Str}{v:Value}
theorem zn3 {expr:Bool}{Q:Value->Shared->Prop}(X:K.In s.heap)(I:ObjM s.heap x dx C mA)(hg:PySem.W.plainGet K C name=true)(hh:PySem.W.hasDictIn K C=true)
  (ha:PySem.W.findIn K (.ref C) name=some none) (hv:mA name=some v) (hv':PySem.W.handedIn v=true) (h:Q v { s with toks:=s.toks + 1 }) :
  wpAny (model prog w) A (getAttr (.ref x) name expr) Q E s:=by
 obtain ⟨od,J,hl⟩:=I.look
 exact PySem.W.get_value X J (PySem.W.plainGet_of hg).1 (PySem.W.findObj_own hh ha rfl (by rw [hl,hv])) hv' h
theorem zmi {pl:Sem Bool}{Q:Value×List Value->Shared->Prop}(X:K.In s.heap)(I:ObjM s.heap x dx C mA)(hg:PySem.W.plainGet K C name=true)
  (hf:PySem.W.findIn K (.ref C) name=some (some (.ref f))) (ht:PySem.W.isFn K (.ref f)=true) (hv:mA name=none) (h:Q (.ref f,[.ref x]) s) :
  wpAny (model prog w) A (getMethod (.ref x) name pl) Q E s:=by
 obtain ⟨od,J,hl⟩:=I.look
 exact PySem.W.method_fn X J (PySem.W.plainGet_of hg).1 (PySem.W.plainGet_of hg).2 hf (beq_iff_eq.mp ht) (by show (PySem.W.lookIn name od).map (·.isSome)=some false;rw [hl,hv];rfl) h
theorem znf {ns:List Str}{Q:Unit->Shared->Prop}(X:K.In s.heap)(I:ObjM s.heap x dx C mA)
  (hs:PySem.W.findIn K (.ref C) "__setattr__" = some (some (.builtin "object.__setattr__"))) (hp:PySem.W.plainOver K C=true) (ht:PySem.W.takerIn K C name=some none) (hh:PySem.W.hasDictIn K C=true)
  (hw:PySem.Within mA ns) (hsz:ns.length<=sizeLine)
  (h:∀ h',ObjM h' x dx C (fun y=>if y=name then some v else mA y)->Heap.SameBut dx s.heap h'->Q () { s with heap:=h',toks:=s.toks + 2 }) :
  wpAny (model prog w) A (setAttr (.ref x) name v) Q E s:=by
 obtain ⟨od,J,hl⟩:=I.look
 refine PySem.W.set_plain X J hs (PySem.W.osa_open (s:={ s with toks:=s.toks + 1 }) (r:=none) X J hp ht fun b=>?_)
 obtain ⟨cd,hc,hd'⟩:=PySem.W.any_some hh
 have hx:s.heap.get? x=some ⟨.ref C,some dx,.plain,#[]⟩:=I.obj
 refine wpAny_bind (wpAny_pure (wpAny_bind (wpAny_bind (wpAny_loadPart hx (wpAny_bind (PySem.W.Looks.here (s:={ s with toks:=s.toks + 1 }) (PySem.W.looks_clsIn X hc) ?_))))))
 rw [hd']
 refine wpAny_pure (a:=some dx) (wpAny_bind (wpAny_pure (wpAny_bind ?_)))
 refine wpAny_nsSet1 (s:={ s with toks:=s.toks + 1 }) I.ns fun h' hn2 hs2=>?_
 obtain ⟨oD,esD,epD,hoD,hdD,hcD⟩:=hn2.count (PySem.Within.cons name v hw)
 refine wpAny_bind (wpAny_lookBehind hoD (by rw [hdD];exact pastItsLine_dict (Nat.le_trans hcD (by rw [List.length_cons];omega))) ?_)
 exact wpAny_pure (h _ ⟨(hs2.2 _ (Ne.symm I.ne)).trans I.obj,hn2,I.ne⟩ hs2)
theorem zmd {R:Result->Shared->Prop}{vs:List Value}{kw:List (Str×Value)}(X:K.In s.heap)(hm:PySem.W.makesIn K C=true)
  (hi:PySem.W.findIn K (.ref C) "__init__" = some (some (.ref f))) (hf:PySem.W.typeIn K (.ref f)=some (.type "function"))
  (h:codeAny (model prog w) (A.under (.builtin "type.__call__" ⟨.ref C :: vs,kw⟩)) (.call (.ref f) ⟨.ref (s.heap.objs.size + 1) :: vs,kw⟩) (PySem.W.InitBack (s.heap.objs.size + 1) R)
   { s with heap:=(s.heap.push PySem.W.emptyDict).push (PySem.W.instObj C s.heap.objs.size) }) :
  codeAny (model prog w) A (.call (.ref C) ⟨vs,kw⟩) R s:=by
 obtain ⟨hh,g,d,t,os⟩:=s
 exact PySem.W.make_core (PySem.W.makes_of X hm) (PySem.W.looks_findIn X hi) (fun self=>PySem.W.bind_fn X self hf) (.inl rfl) h
end
noncomputable def putF (f:Str)(v:V):List (Str×V)->List (Str×V)
 | []=>[(f,v)]
 | (g,x) :: r=>if g=f then (g,v) :: r else (g,x) :: putF f v r
theorem zay (f g:Str)(v:V):∀ fs:List (Str×V),(putF f v fs).lookup g=if g=f then some v else fs.lookup g
 | []=>by
  show List.lookup g [(f,v)]=_
  by_cases h:g=f
  ·have hb:(g == f)=true:=beq_iff_eq.mpr h
   simp only [List.lookup,hb,if_pos h]
  ·have hb:(g == f)=false:=beq_eq_false_iff_ne.mpr h
   simp only [List.lookup,hb,if_neg h]
 | (k,x) :: r=>by
  have ih:=zay f g v r
  rw [show putF f v ((k,x) :: r)=(if k=f then (k,v) :: r else (k,x) :: putF f v r) from rfl]
  by_cases hk:k=f
  ·rw [if_pos hk]
   by_cases h:g=k
   ·have hb:(g == k)=true:=beq_iff_eq.mpr h
    simp only [List.lookup,hb,if_pos (h.trans hk)]
   ·have hb:(g == k)=false:=beq_eq_false_iff_ne.mpr h
    simp only [List.lookup,hb,if_neg (fun e:g=f=>h (e.trans hk.symm))]
  ·rw [if_neg hk]
   by_cases h:g=k
   ·have hb:(g == k)=true:=beq_iff_eq.mpr h
    simp only [List.lookup,hb,if_neg (fun e:g=f=>hk (h.symm.trans e))]
   ·have hb:(g == k)=false:=beq_eq_false_iff_ne.mpr h
    simp only [List.lookup,hb]
    exact ih
theorem zeC (f:Str)(v:V):∀ fs:List (Str×V),f ∈ (putF f v fs).map (·.1)/\∀ g,g ∈ fs.map (·.1)->g ∈ (putF f v fs).map (·.1)
 | []=>⟨by simp [putF],fun g h=>by simp at h⟩
 | (k,x) :: r=>by
  obtain ⟨i1,i2⟩:=zeC f v r
  rw [show putF f v ((k,x) :: r)=(if k=f then (k,v) :: r else (k,x) :: putF f v r) from rfl]
  by_cases hk:k=f
  ·rw [if_pos hk]
   subst hk
   exact ⟨by simp,fun g h=>by simpa using h⟩
  ·rw [if_neg hk]
   refine ⟨?_,fun g h=>?_⟩
   ·rw [List.map_cons]
    exact List.mem_cons_of_mem _ i1
   ·rw [List.map_cons] at h ⊢
    rcases List.mem_cons.mp h with e | e
    ·exact List.mem_cons.mpr (.inl e)
    ·exact List.mem_cons_of_mem _ (i2 g e)
theorem zby (f:Str)(v:V):∀ fs:List (Str×V),(putF f v fs).length<=fs.length + 1
 | []=>by simp [putF]
 | (k,x) :: r=>by
  have ih:=zby f v r
  rw [show putF f v ((k,x) :: r)=(if k=f then (k,v) :: r else (k,x) :: putF f v r) from rfl]
  by_cases hk:k=f
  ·rw [if_pos hk,List.length_cons,List.length_cons];omega
  ·rw [if_neg hk,List.length_cons,List.length_cons];omega
theorem RelO.some_of {v:V}{o:Option Value}(r:RelO (some v) o):∃ u,o=some u/\RelV v u:=by
 cases o with
 | none=>exact (show False from r).elim
 | some u=>exact ⟨u,rfl,r⟩
theorem RelO.none_of {o:Option Value}(r:RelO none o):o=none:=by
 cases o with
 | none=>rfl
 | some u=>exact (show False from r).elim
theorem zkU {v:V}{u:Value}(r:RelV v u):PySem.W.handedIn u=true:=by
 cases v with
 | non=>cases (show u=Value.none from r);rfl
 | bl b=>cases (show u=Value.bool b from r);rfl
 | int i=>obtain ⟨t,e⟩:=(show ∃ t,u=Value.int i t from r);cases e;rfl
 | str x=>obtain ⟨t,e⟩:=(show ∃ t,u=Value.str x t from r);cases e;rfl
 | byt b=>obtain ⟨t,e⟩:=(show ∃ t,u=Value.bytes b t from r);cases e;rfl
 | flt b=>obtain ⟨t,e⟩:=(show ∃ t,u=Value.float b t from r);cases e;rfl
 | ref a=>cases (show u=Value.ref a from r);rfl
 | ty n=>cases (show u=Value.type n from r);rfl
section
variable {P:Program}{w:World}{H H':Hp}{h h':Heap}{a C dx:Addr}{fs fs':List (Str×V)}
theorem zhN (hok:HOk P w H h)(e:H a=some (.ins C dx fs)):∃ mA,ObjM h a dx C mA/\(∀ f,RelO (fs.lookup f) (mA f))/\PySem.Within mA (fs.map (·.1))/\fs.length<=1000/\H dx=some (.own a):=by
 obtain ⟨d,z,ne,ob,mA,n,r,q⟩:=(show ObjOk P w H h a (.ins C dx fs) from hok a _ e)
 exact ⟨mA,⟨ob,n,ne⟩,r,q,z,d⟩
end
structure Cls (K:PySem.W.Frag)(C:Addr):Prop where
 pg:PySem.W.plainGet K C Str.empty=true
 hd:PySem.W.hasDictIn K C=true
 po:PySem.W.plainOver K C=true
 sa:PySem.W.findIn K (.ref C) "__setattr__" = some (some (.builtin "object.__setattr__"))
theorem Cls.get {K:PySem.W.Frag}{C:Addr}(c:Cls K C)(f:Str):PySem.W.plainGet K C f=true:=c.pg
noncomputable def zcA (K:PySem.W.Frag)(C:Addr)(f:Str):Prop:=PySem.W.findIn K (.ref C) f=some none
theorem zcA.taker {K:PySem.W.Frag}{C:Addr}{f:Str}(n:zcA K C f):PySem.W.takerIn K C f=some none:=by
 unfold PySem.W.takerIn
 rw [show PySem.W.findIn K (.ref C) f=some none from n]
 rfl
structure Meth (K:PySem.W.Frag)(C:Addr)(m:Str)(f:Addr):Prop where
 at_:PySem.W.findIn K (.ref C) m=some (some (.ref f))
 fn:PySem.W.isFn K (.ref f)=true
 kp:PySem.W.keepIn K (.ref f)=true
section
variable {X:Cx}{pins:List (Addr×Obj)}{σ:St}{H:Hp}{s:Shared}{a C dx:Addr}{fs:List (Str×V)}{f:Str}{v:V}{A:Around}{E:Value->Shared->Prop}
theorem zje {b:Bool}{Q:Value->Shared->Prop}(I:Inv X pins σ H s)(e:H a=some (.ins C dx fs))(c:Cls X.K C)(n:zcA X.K C f)(l:fs.lookup f=some v)
  (h:∀ u s',Inv X pins σ H s'->RelV v u->Q u s'):wpAny (model X.prog X.w) A (getAttr (.ref a) f b) Q E s:=by
 obtain ⟨mA,O,r,_,_,_⟩:=zhN I.hok e
 obtain ⟨u,hu,ru⟩:=RelO.some_of (v:=v) (o:=mA f) (by rw [← l];exact r f)
 exact zn3 I.kIn O (c.get f) c.hd n hu (zkU ru) (h u _ (I.tok _) ru)
theorem zfe {m:Str}{g:Addr}{pl:Sem Bool}{Q:Value×List Value->Shared->Prop}(I:Inv X pins σ H s)(e:H a=some (.ins C dx fs))(c:Cls X.K C)(k:Meth X.K C m g)(l:fs.lookup m=none)
  (h:Q (.ref g,[.ref a]) s):wpAny (model X.prog X.w) A (getMethod (.ref a) m pl) Q E s:=by
 obtain ⟨mA,O,r,_,_,_⟩:=zhN I.hok e
 have hn:mA m=none:=RelO.none_of (by rw [← l];exact r m)
 exact zmi I.kIn O (c.get m) k.at_ k.fn hn h
theorem ziT {y:V}{u:Value}{Q:Unit->Shared->Prop}(I:Inv X pins σ H s)(e:H a=some (.ins C dx fs))(c:Cls X.K C)(n:zcA X.K C f)(hl:fs.length < 1000)(ry:RelV y u)
  (h:∀ s',Inv X pins σ (upd H a (.ins C dx (putF f y fs))) s'->Q () s'):wpAny (model X.prog X.w) A (setAttr (.ref a) f u) Q E s:=by
 obtain ⟨mA,O,r,wi,_,ho⟩:=zhN I.hok e
 have hz:(fs.map (·.1)).length<=sizeLine:=by rw [List.length_map,sizeLine_eq];omega
 refine znf I.kIn O c.sa c.po n.taker c.hd wi hz fun h' O' sb=>h _ ?_
 have hd:∃ o,h'.get? dx=some o:=let ⟨o,_,_,e',_⟩:=O'.ns;⟨o,e'⟩
 refine I.write (x:=a) (e:=dx) (by rw [e];exact True.intro) (.inr ho) (fun b q hb z=>(sb.2 b hb).trans z) hd ?_
 refine ⟨by rw [zac O.ne];exact ho,?_,O.ne,O'.obj,_,O'.ns,fun g=>?_,fun g hg=>?_⟩
 ·have:=zby f y fs;omega
 ·show RelO ((putF f y fs).lookup g) (if g=f then some u else mA g)
  rw [zay]
  by_cases q:g=f
  ·rw [if_pos q,if_pos q];exact ry
  ·rw [if_neg q,if_neg q];exact r g
 ·by_cases q:g=f
  ·rw [q];exact (zeC f y fs).1
  ·refine (zeC f y fs).2 g (wi g fun z=>hg ?_)
   show (if g=f then some u else mA g)=none
   rw [if_neg q];exact z
theorem Inv.made (I:Inv X pins σ H s):Inv X pins σ (upd (upd H s.heap.objs.size (.own (s.heap.objs.size + 1))) (s.heap.objs.size + 1) (.ins C s.heap.objs.size []))
  { s with heap:=(s.heap.push PySem.W.emptyDict).push (PySem.W.instObj C s.heap.objs.size) }:=by
 have e1:(s.heap.push PySem.W.emptyDict).get? s.heap.objs.size=some PySem.W.emptyDict:=Heap.get?_push_size s.heap rfl
 have e2:((s.heap.push PySem.W.emptyDict).push (PySem.W.instObj C s.heap.objs.size)).get? (s.heap.objs.size + 1)=some (PySem.W.instObj C s.heap.objs.size):=by
  have:=Heap.get?_push_size (s.heap.push PySem.W.emptyDict) (o:=PySem.W.instObj C s.heap.objs.size) rfl
  rwa [Heap.size_push] at this
 have e3:(s.heap.push PySem.W.emptyDict).Ns s.heap.objs.size (fun _=>none):=⟨PySem.W.emptyDict,#[],_,e1,rfl,(fun e he=>absurd he (by simp)),fun _=>rfl⟩
 have I1:=I.laid (a:=s.heap.objs.size) (o:=.own (s.heap.objs.size + 1)) (h':=s.heap.push PySem.W.emptyDict) (t':=s.toks) (fun b u q=>Heap.get?_push_of_some _ q) (Nat.le_refl _) ⟨_,e1⟩
 refine I1.laid (a:=s.heap.objs.size + 1) (o:=.ins C s.heap.objs.size []) (t':=s.toks) (fun b u q=>Heap.get?_push_of_some _ q) (Nat.le_of_eq (Heap.size_push _ _)) ?_
 have ne:s.heap.objs.size≠s.heap.objs.size + 1:=Nat.ne_of_lt (Nat.lt_succ_self _)
 refine ⟨by rw [zac ne,upd_same],Nat.zero_le _,ne,e2,fun _=>none,(Heap.Ns1.of_empty e3).at fun o q=>Heap.get?_push_of_some _ q,fun _=>True.intro,fun y hy=>absurd rfl hy⟩
theorem zof {prog:Program}{w:World}{env:Env}{e:Expr}{f:Str}{pos:Pos}{s:Shared}{Q:Value->Shared->Prop}(hb:attributeBase e f env (eval e env)=eval e env)
  (h:wpAny (model prog w) A (eval e env) (fun o s₁=>wpAny (model prog w) A (getAttr o f true) Q E s₁) E s):wpAny (model prog w) A (eval (.Attribute e f pos) env) Q E s :=
 Attribute_any_ h (by rw [arm_eval_Attribute,hb])
end
noncomputable def tFld (K:PySem.W.Frag)(ta:TE)(f:Str):TE:=fun σ H Q=>ta σ H fun x H1=>∃ a C dx fs v,x = .ref a/\H1 a=some (.ins C dx fs)/\Cls K C/\zcA K C f/\fs.lookup f=some v/\Q v H1
noncomputable def sFld (K:PySem.W.Frag)(ta tv:TE)(f:Str):TS:=fun D σ H=>tv σ H fun y H1=>ta σ H1 fun x H2=>∃ a C dx fs,x = .ref a/\H2 a=some (.ins C dx fs)/\Cls K C/\zcA K C f/\fs.length < 1000 /\
 D.nx σ (upd H2 a (.ins C dx (putF f y fs)))
section
variable {X:Cx}{o e value:Expr}{f:Str}{pos pos' tpos:Pos}{ta tv:TE}
theorem zmM (he:PE X e ta)(hb:attributeBase e f X.env (eval e X.env)=eval e X.env):PE X (.Attribute e f pos) (tFld X.K ta f):=by
 intro pins s σ H Q I h
 refine zof hb (thn (he pins s σ H _ I h) fun u s1 ⟨x,H1,I1,rx,a,C,dx,fs,v,ex,ea,c,n,l,q⟩=>?_)
 subst ex
 obtain rfl:u=Value.ref a:=rx
 exact zje I1 ea c n l fun u' s2 I2 ru=>⟨v,H1,I2,ru,q⟩
theorem zid (ha:PE X o ta)(hv:PE X value tv)(hs:swapsWith value (some (.Attribute o f pos')) pos.line X.env=pure false):PS X (.Assign [.Attribute o f pos'] value pos) (sFld X.K ta tv f):=by
 intro pins s σ H D I h
 refine plainObj_wpAny_Assign_Attribute (thn (hv pins s σ H _ I h) fun u s1 ⟨y,H1,I1,ry,q⟩=>thn (ha pins s1 σ H1 _ I1 q) fun ov s2 ⟨x,H2,I2,rx,a,C,dx,fs,ex,ea,c,n,l,q2⟩=>?_) hs
 subst ex
 obtain rfl:ov=Value.ref a:=rx
 exact ziT I2 ea c n l ry fun s3 I3=>⟨σ,_,I3,q2⟩
theorem znV {pl:Sem Bool}{m:Str}{apos:Pos}{args:List Expr}{pins:List (Addr×Obj)}{s:Shared}{σ:St}{H:Hp}{Q:Value->Shared->Prop}{te:TE}(he:PE X e te)(I:Inv X pins σ H s)
  (h:te σ H fun x H1=>∃ a C dx fs g,x = .ref a/\H1 a=some (.ins C dx fs)/\Cls X.K C/\Meth X.K C m g/\fs.lookup m=none /\
   ∀ s1,Inv X pins σ H1 s1->wpAny (model X.prog X.w) X.A (callWith pos (.ref g) [.ref a] (backTo pos (starEach args X.env)) (backToKw pos (keywordEach [] X.env))) Q X.xe s1)
  (ht:eval (.Call (.Attribute e m apos) args [] pos) X.env=(do
   let ov ← eval e X.env
   standAt apos.atName
   let (f,first) ← holding [ov] (getMethod ov m pl)
   callWith pos f first (backTo pos (starEach args X.env)) (backToKw pos (keywordEach [] X.env)))) :
  wpAny (model X.prog X.w) X.A (eval (.Call (.Attribute e m apos) args [] pos) X.env) Q X.xe s:=by
 refine PySem.W.methodCall_KW (pl:=pl) (thn (he pins s σ H _ I h) fun u s1 ⟨x,H1,I1,rx,a,C,dx,fs,g,ex,ea,c,k,l,q⟩=>?_) ht
 subst ex
 obtain rfl:u=Value.ref a:=rx
 exact zfe I1 ea c k l (q s1 I1)
end
end L2
namespace L2
open PySem PySem.Spec PyProof.Rows
structure Room (k:Nat)(A:Around):Prop where
 hd:A.handled=none
 dp:A.depth + 3 * k + 5 < recursionLimit
 un:A.units + 16 * k + 200 < cLine
theorem Room.mono {j k:Nat}{A:Around}(r:Room k A)(h:j<=k):Room j A:=⟨r.hd,by have:=r.dp;omega,by have:=r.un;omega⟩
theorem Room.deeper {k:Nat}{A:Around}(r:Room (k + 1) A)(env:Env):Room k (A.deeper env) :=
 ⟨r.hd,by have:=r.dp;show A.depth + 1 + 3 * k + 5 < _;omega,by have:=r.un;show A.units + 3 + 16 * k + 200 < _;omega⟩
theorem Room.in1 {k:Nat}{A:Around}(r:Room (k + 1) A):Room k A.in1 :=
 ⟨r.hd,by have:=r.dp;show A.depth + 3 * k + 5 < _;omega,by have:=r.un;show A.units + 1 + 16 * k + 200 < _;omega⟩
theorem zi8 {A:Around}{C:Addr}{us:List Value}{kw:List (Str×Value)}:(A.under (.builtin "type.__call__" ⟨.ref C :: us,kw⟩)).depth=A.depth + 1:=by
 first | rfl | simp [Around.under,Code.weight,Code.isCreation,Code.isGuard,Code.isCaller,Code.frames,Code.isFrame,guardIds]
theorem zi7 {A:Around}{C:Addr}{us:List Value}{kw:List (Str×Value)}:(A.under (.builtin "type.__call__" ⟨.ref C :: us,kw⟩)).units=A.units + 1:=by
 first | rfl | simp [Around.under,Code.cUnits,Code.frames,Code.isFrame]
theorem Room.make {k:Nat}{A:Around}(r:Room (k + 1) A)(C:Addr)(us:List Value)(kw:List (Str×Value)):Room k (A.under (.builtin "type.__call__" ⟨.ref C :: us,kw⟩)) :=
 ⟨r.hd,by have:=r.dp;rw [zi8];omega,by have:=r.un;rw [zi7];omega⟩
theorem Room.depth {k:Nat}{A:Around}(r:Room k A):A.depth < recursionLimit:=by have:=r.dp;omega
theorem Room.units {k:Nat}{A:Around}(r:Room k A):A.units + 64 < cLine:=by have:=r.un;omega
noncomputable def tNil:TA:=fun _ H Q=>Q [] H
noncomputable def tCons (ta:TE)(tr:TA):TA:=fun σ H Q=>ta σ H fun x H1=>tr σ H1 fun xs H2=>Q (x :: xs) H2
section
variable {X:Cx}{e:Expr}{es:List Expr}{te:TE}{t:TA}{pos:Pos}
theorem zae:PA X [] tNil:=fun _ _ _ _ H Q I h=>Calls.spliced_nil ⟨[],H,I,.nil,h⟩
theorem zaa (ha:PE X e te)(hr:PA X es t)(hs:starEach (e :: es) X.env=(false,eval e X.env) :: starEach es X.env:=by rfl):PA X (e :: es) (tCons te t):=by
 intro pos pins s σ H Q I h
 rw [hs]
 show wpAny _ _ (spliced ((false,eval e X.env) :: backTo pos (starEach es X.env))) _ _ s
 refine Calls.spliced_cons (thn (ha pins s σ H _ I h) fun u s1 ⟨x,H1,I1,r1,q1⟩=>?_)
 exact thn (hr pos pins s1 σ H1 _ I1 q1) fun us s2 ⟨xs,H2,I2,r2,q2⟩=>⟨x :: xs,H2,I2,.cons r1 r2,q2⟩
noncomputable def tTup (t:TA):TE:=fun σ H Q=>t σ H fun xs H1=>xs.length<=sizeLine/\∀ p,H1 p=none->Q (.ref p) (upd H1 p (.tup xs))
noncomputable def tLst (t:TA):TE:=fun σ H Q=>t σ H fun xs H1=>xs.length<=sizeLine/\∀ p,H1 p=none->Q (.ref p) (upd H1 p (.lst xs))
theorem zce {x1}(h:PA X es t):PE X (.Tuple es x1 pos) (tTup t):=by
 intro pins s σ H Q I hq
 refine wpAny_Tuple_spliced (thn (h pos pins s σ H _ I hq) fun us s1 ⟨xs,H1,I1,r,z,q⟩=>⟨by rw [← r.length];exact z,?_⟩)
 have hf:H1 s1.heap.objs.size=none:=I1.hok.fresh (Nat.le_refl _)
 refine ⟨.ref s1.heap.objs.size,upd H1 s1.heap.objs.size (.tup xs),I1.laid (t':=s1.toks) (fun b u e=>Heap.get?_push_of_some _ e) (Nat.le_refl _) ?_,rfl,q _ hf⟩
 exact ⟨z,us,r,⟨_,Heap.get?_push_size _ rfl,rfl,_,rfl⟩⟩
theorem zaX (h:PA X es t):PE X (.List es pos) (tLst t):=by
 intro pins s σ H Q I hq
 refine wpAny_List_spliced (thn (h pos pins s σ H _ I hq) fun us s1 ⟨xs,H1,I1,r,z,q⟩=>⟨by rw [← r.length];exact z,?_⟩)
 have hf:H1 s1.heap.objs.size=none:=I1.hok.fresh (Nat.le_refl _)
 refine ⟨.ref s1.heap.objs.size,upd H1 s1.heap.objs.size (.lst xs),I1.laid (t':=s1.toks) (fun b u e=>Heap.get?_push_of_some _ e) (Nat.le_refl _) ?_,rfl,q _ hf⟩
 exact ⟨z,us,0,r,Heap.get?_push_size _ rfl⟩
end
noncomputable abbrev Sp:=List V->Hp->VK->XK->Prop
noncomputable abbrev CXT:=List Env->Hp->Shared->XK->Value->Shared->Prop
structure Env0 (P:Program)(w:World)(K:PySem.W.Frag)(mg:Str->Option Value)(base:Heap)(A:Around)(outer:List Env)(s:Shared)(H:Hp):Prop where
 frames:A.frames=some outer
 mod:Mod K mg base
 bs:∀ b o,base.get? b=some o->s.heap.get? b=some o/\H b=none
 bsz:base.objs.size<=s.heap.objs.size
 funs:s.heap.FunFrames base outer
 frf:∀ b ∈ frs outer,H b=none
 hok:HOk P w H s.heap
 bare:AllBare s.gens
noncomputable def CE (outer:List Env)(P:Program)(w:World)(H:Hp)(s:Shared)(Q:VK)(u:Value)(s':Shared):Prop :=
 ∃ v H',s'.os=s.os/\AllBare s'.gens/\Un (frs outer) [] H H' s.heap s'.heap/\HOk P w H' s'.heap/\RelV v u/\Q v H'
noncomputable def CR (CX:CXT)(outer:List Env)(P:Program)(w:World)(H:Hp)(s:Shared)(Q:VK)(E:XK)(r:Result)(s':Shared):Prop :=
 match r with
 | .ok (.ret u)=>CE outer P w H s Q u s'
 | .ok _=>False
 | .error e=>CX outer H s E e s'
structure FnOk (P:Program)(w:World)(K:PySem.W.Frag)(mg:Str->Option Value)(base:Heap)(CX:CXT)(k:Nat)(f:Addr)(fd:FuncData)(ps:List Str)(sp:Sp):Prop where
 len:∀ vs H Q E,sp vs H Q E->vs.length=ps.length
 run:∀ (A:Around) (outer:List Env) (s:Shared) (H:Hp) (args:Args) (us:List Value) (vs:List V) (Q:VK) (E:XK),Room k A->Env0 P w K mg base A outer s H->BindsTo s fd args (ps.zip us)->Vals vs us->sp vs H Q E ->
  codeAny (model P w) A (.call (.ref f) args) (CR CX outer P w H s Q E) s
theorem FnOk.mono {P:Program}{w:World}{K:PySem.W.Frag}{mg:Str->Option Value}{base:Heap}{CX:CXT}{j k:Nat}{f:Addr}{fd:FuncData}{ps:List Str}{sp:Sp}(F:FnOk P w K mg base CX j f fd ps sp)(h:j<=k) :
  FnOk P w K mg base CX k f fd ps sp:=⟨F.len,fun A outer s H args us vs Q E hr=>F.run A outer s H args us vs Q E (hr.mono h)⟩
theorem Env0.make {P:Program}{w:World}{K:PySem.W.Frag}{mg:Str->Option Value}{base:Heap}{A:Around}{outer:List Env}{s:Shared}{H:Hp}(e:Env0 P w K mg base A outer s H)(C:Addr)(us:List Value)(kw:List (Str×Value)) :
  Env0 P w K mg base (A.under (.builtin "type.__call__" ⟨.ref C :: us,kw⟩)) outer s H:=⟨by first | exact e.frames | (simpa [Around.under,Code.envs,Code.isFrame,pushEnvs] using e.frames),e.mod,e.bs,e.bsz,e.funs,e.frf,e.hok,e.bare⟩
section
variable {X:Cx}{pins:List (Addr×Obj)}{σ:St}{H:Hp}{s s':Shared}
theorem Inv.env0 (I:Inv X pins σ H s):Env0 X.prog X.w X.K X.mg X.base X.A X.stack s H :=
 ⟨I.ok.frames,I.ok.mod,I.bs,Nat.le_trans I.ok.bsz I.sz,I.stack,I.stkFree,I.hok,I.bare⟩
theorem Inv.after {Q:VK}{u:Value}(I:Inv X pins σ H s)(h:CE X.stack X.prog X.w H s Q u s'):EP X pins σ Q u s':=by
 obtain ⟨v,H',os,bare,un,hok,r,q⟩:=h
 obtain ⟨hh,g,d,t,os'⟩:=s'
 obtain rfl:os'=s.os:=os
 exact ⟨v,H',I.call (h':=hh) (g':=g) (d':=d) (t':=t) (ch:=[]) un hok bare (fun b z=>absurd z (by simp)),r,q⟩
end
noncomputable def tCall (sp:Sp)(dvs:List V)(E:XK)(t:TA):TE:=fun σ H Q=>t σ H fun vs H1=>sp (vs ++ dvs) H1 Q E
noncomputable def tMeth (C:Addr)(m:Str)(sp:Sp)(dvs:List V)(E:XK)(ta:TE)(t:TA):TE:=fun σ H Q=>ta σ H fun x H1=>∃ a dx fs,x = .ref a/\H1 a=some (.ins C dx fs)/\fs.lookup m=none /\
 t σ H1 fun vs H2=>sp (x :: (vs ++ dvs)) H2 Q E
noncomputable def tMake (C:Addr)(sp:Sp)(dvs:List V)(E:XK)(t:TA):TE:=fun σ H Q=>t σ H fun vs H1=>∀ x dx,H1 x=none->H1 dx=none->dx≠x ->
 sp (.ref x :: (vs ++ dvs)) (upd (upd H1 dx (.own x)) x (.ins C dx [])) (fun v H2=>v = .non/\Q (.ref x) H2) E
noncomputable def Binds (K:PySem.W.Frag)(fd:FuncData)(ps:List Str)(ds:List Value):Prop :=
 ∀ (s:Shared) (us:List Value),K.In s.heap->(us ++ ds).length=ps.length->BindsTo s fd ⟨us,[]⟩ (ps.zip (us ++ ds))
theorem Binds.all {K:PySem.W.Frag}{fd:FuncData}{ps:List Str}(h:∀ us:List Value,us.length=ps.length->bindArgs fd ⟨us,[]⟩=pure (ps.zip us)):Binds K fd ps []:=fun s us _ hl=>by
 rw [List.append_nil] at hl ⊢
 exact .of_eq (h us hl)
noncomputable def Passes (CX:CXT)(X:Cx)(E:XK):Prop:=∀ (pins:List (Addr×Obj)) (σ:St) (H:Hp) (s:Shared) (e:Value) (s':Shared),Inv X pins σ H s->CX X.stack H s E e s'->X.xe e s'
section
variable {X:Cx}{CX:CXT}{k:Nat}{f C:Addr}{fd:FuncData}{ps:List Str}{sp:Sp}{dvs:List V}{ds:List Value}{E:XK}{x m:Str}{p pos apos:Pos}{e o:Expr}{es:List Expr}{ta:TE}{t:TA}
theorem zmJ {pins:List (Addr×Obj)}{σ:St}{H:Hp}{s:Shared}{Q:VK}{us:List Value}{vs:List V}(F:FnOk X.prog X.w X.K X.mg X.base CX k f fd ps sp)(hr:Room k X.A)(hb:Binds X.K fd ps ds)(hd:Vals dvs ds)(hx:Passes CX X E)
  (I:Inv X pins σ H s) (r:Vals vs us) (h:sp (vs ++ dvs) H Q E):wpAny (model X.prog X.w) X.A (call (.ref f) us) (EP X pins σ Q) X.xe s:=by
 have r2:Vals (vs ++ dvs) (us ++ ds):=r.append hd
 have hl:(us ++ ds).length=ps.length:=by rw [← r2.length];exact F.len _ _ _ _ h
 refine wpAny_call (codeAny_mono (F.run X.A X.stack s H ⟨us,[]⟩ (us ++ ds) (vs ++ dvs) Q E hr I.env0 (hb s us I.kIn hl) r2 h) fun r s' hq=>?_)
 cases r with
 | error e=>exact hx pins σ H s e s' I hq
 | ok fl =>
  cases fl with
  | ret u=>exact I.after hq
  | next=>exact False.elim hq
  | brk=>exact False.elim hq
  | cont=>exact False.elim hq
theorem znv (F:FnOk X.prog X.w X.K X.mg X.base CX k f fd ps sp)(hr:Room k X.A)(hg:Gl X x)(hm:X.mg x=some (.ref f))(hk:PySem.W.keepIn X.K (.ref f)=true)(hb:Binds X.K fd ps ds)(hd:Vals dvs ds)(hx:Passes CX X E)
  (ha:PA X (e :: es) t) (hdb:(x == ("__debug__" : Str))=false:=by decide) (he:starEach (e :: es) X.env=(false,eval e X.env) :: starEach es X.env:=by rfl) (hpl:(backTo pos (starEach es X.env)).any (·.1)=false:=by rfl) :
  PE X (.Call (.Name x p) (e :: es) [] pos) (tCall sp dvs E t):=by
 intro pins s σ H Q I h
 refine wpAny_Call_Name_kw (zc8 I hg hm ?_ hdb)
 refine PySem.W.callWith_K (h₀:=X.base) I.ok.mod.kin hk (thn (ha pos pins s σ H _ I h) fun us s1 ⟨vs,H1,I1,r,q⟩=>⟨I1.kIn,?_⟩) he hpl
 exact zmJ F hr hb hd hx I1 r q
theorem zns {pl:Sem Bool}(he:PE X o ta)(c:Cls X.K C)(hm:Meth X.K C m f)(F:FnOk X.prog X.w X.K X.mg X.base CX k f fd ps sp)(hr:Room k X.A)(hb:Binds X.K fd ps ds)(hd:Vals dvs ds)(hx:Passes CX X E)(ha:PA X (e :: es) t)
  (hst:starEach (e :: es) X.env=(false,eval e X.env) :: starEach es X.env:=by rfl) (hpl:(backTo pos (starEach es X.env)).any (·.1)=false:=by rfl)
  (ht:eval (.Call (.Attribute o m apos) (e :: es) [] pos) X.env=(do
   let ov ← eval o X.env
   standAt apos.atName
   let (f,first) ← holding [ov] (getMethod ov m pl)
   callWith pos f first (backTo pos (starEach (e :: es) X.env)) (backToKw pos (keywordEach [] X.env))):=by rfl) :
  PE X (.Call (.Attribute o m apos) (e :: es) [] pos) (tMeth C m sp dvs E ta t):=by
 intro pins s σ H Q I h
 refine PySem.W.methodCall_KW (pl:=pl) (thn (he pins s σ H _ I h) fun u s1 ⟨x,H1,I1,rx,a,dx,fs,ex,ea,l,q⟩=>?_) ht
 subst ex
 obtain rfl:u=Value.ref a:=rx
 refine zfe I1 ea c hm l ?_
 refine PySem.W.callWith_K (first:=[.ref a]) (h₀:=X.base) I.ok.mod.kin hm.kp (thn (ha pos pins s1 σ H1 _ I1 q) fun us s2 ⟨vs,H2,I2,r,q2⟩=>⟨I2.kIn,?_⟩) hst hpl
 exact zmJ (us:=.ref a :: us) (vs:=.ref a :: vs) F hr hb hd hx I2 (.cons rfl r) q2
structure Mk (K:PySem.W.Frag)(C f:Addr):Prop where
 makes:PySem.W.makesIn K C=true
 init:PySem.W.findIn K (.ref C) "__init__" = some (some (.ref f))
 fn:PySem.W.isFn K (.ref f)=true
 kp:PySem.W.keepIn K (.ref C)=true
theorem zlG {pins:List (Addr×Obj)}{σ:St}{H:Hp}{s:Shared}{Q:VK}{us:List Value}{vs:List V}(M:Mk X.K C f)(F:FnOk X.prog X.w X.K X.mg X.base CX k f fd ps sp)(hr:Room (k + 1) X.A)(hb:Binds X.K fd ps ds)(hd:Vals dvs ds)
  (hx:Passes CX X E) (I:Inv X pins σ H s) (r:Vals vs us)
  (h:∀ x dx,H x=none->H dx=none->dx≠x->sp (.ref x :: (vs ++ dvs)) (upd (upd H dx (.own x)) x (.ins C dx [])) (fun v H2=>v = .non/\Q (.ref x) H2) E) :
  wpAny (model X.prog X.w) X.A (call (.ref C) us) (EP X pins σ Q) X.xe s:=by
 have hq:=h (s.heap.objs.size + 1) s.heap.objs.size (I.hok.fresh (Nat.le_succ _)) (I.hok.fresh (Nat.le_refl _)) (Nat.ne_of_lt (Nat.lt_succ_self _))
 have I2:=Inv.made (C:=C) I
 have r2:Vals (V.ref (s.heap.objs.size + 1) :: (vs ++ dvs)) (Value.ref (s.heap.objs.size + 1) :: (us ++ ds)):=.cons rfl (r.append hd)
 have hl:(Value.ref (s.heap.objs.size + 1) :: us ++ ds).length=ps.length:=by
  have e:=r2.length
  rw [F.len _ _ _ _ hq] at e
  exact e.symm
 refine wpAny_call (zmd (f:=f) I.kIn M.makes M.init (beq_iff_eq.mp M.fn) (codeAny_mono (F.run _ X.stack _ _ ⟨Value.ref (s.heap.objs.size + 1) :: us,[]⟩ (Value.ref (s.heap.objs.size + 1) :: (us ++ ds)) _ _ E (hr.make C us [])
  (I2.env0.make C us []) (hb _ (Value.ref (s.heap.objs.size + 1) :: us) I2.kIn hl) r2 hq) fun r s' hq'=>?_))
 cases r with
 | error e=>exact hx pins σ _ _ e s' I2 hq'
 | ok fl =>
  cases fl with
  | ret u =>
   obtain ⟨v,H',I3,rv,ev,q3⟩:=I2.after hq'
   subst ev
   exact ⟨rv,⟨V.ref (s.heap.objs.size + 1),H',I3,rfl,q3⟩⟩
  | next=>exact False.elim hq'
  | brk=>exact False.elim hq'
  | cont=>exact False.elim hq'
theorem znt (M:Mk X.K C f)(F:FnOk X.prog X.w X.K X.mg X.base CX k f fd ps sp)(hr:Room (k + 1) X.A)(hg:Gl X x)(hm:X.mg x=some (.ref C))(hb:Binds X.K fd ps ds)(hd:Vals dvs ds)(hx:Passes CX X E)
  (ha:PA X (e :: es) t) (hdb:(x == ("__debug__" : Str))=false:=by decide) (he:starEach (e :: es) X.env=(false,eval e X.env) :: starEach es X.env:=by rfl) (hpl:(backTo pos (starEach es X.env)).any (·.1)=false:=by rfl) :
  PE X (.Call (.Name x p) (e :: es) [] pos) (tMake C sp dvs E t):=by
 intro pins s σ H Q I h
 refine wpAny_Call_Name_kw (zc8 I hg hm ?_ hdb)
 refine PySem.W.callWith_K (h₀:=X.base) I.ok.mod.kin M.kp (thn (ha pos pins s σ H _ I h) fun us s1 ⟨vs,H1,I1,r,q⟩=>⟨I1.kIn,?_⟩) he hpl
 exact zlG M F hr hb hd hx I1 r q
end
noncomputable def PK (X:Cx)(kws:List Keyword)(t:TA):Prop :=
 ∀ (pos:Pos) (pins:List (Addr×Obj)) (s:Shared) (σ:St) (H:Hp) (Q:List V->Hp->Prop),Inv X pins σ H s->t σ H Q->wpAny (model X.prog X.w) X.A (evalAll ((backToKw pos (keywordEach kws X.env)).map (·.2))) (AP X pins σ Q) X.xe s
section
variable {X:Cx}{CX:CXT}{k:Nat}{f C:Addr}{fd:FuncData}{ps ks:List Str}{sp:Sp}{E:XK}{x m:Str}{p pos apos kpos:Pos}{e o:Expr}{es:List Expr}{kws:List Keyword}{te ta:TE}{t tk:TA}{nm:Option Str}
theorem zoI:PK X [] tNil:=fun _ _ _ _ H Q I h=>wpAny_evalAll_nil ⟨[],H,I,.nil,h⟩
theorem znq (ha:PE X e te)(hr:PK X kws t):PK X (⟨nm,e,kpos⟩ :: kws) (tCons te t):=by
 intro pos pins s σ H Q I h
 show wpAny _ _ (evalAll ((do let v ← eval e X.env;standAt pos;pure v) :: (backToKw pos (keywordEach kws X.env)).map (·.2))) _ _ s
 refine wpAny_evalAll_cons (wpAny_bind (thn (ha pins s σ H _ I h) fun u s1 ⟨x,H1,I1,r1,q1⟩=>wpAny_bind (wpAny_standAt (wpAny_pure ?_))))
 exact thn (hr pos pins s1 σ H1 _ I1 q1) fun us s2 ⟨xs,H2,I2,r2,q2⟩=>⟨x :: xs,H2,I2,.cons r1 r2,q2⟩
variable {g:List Value->List Value->List Value}{gV:List V->List V->List V}
end
structure FnScope (N P:List Str)(sc:Scope):Prop where
 kind:sc.kind = .function
 co:sc.isCoroutine=false
 gen:sc.isGenerator=false
 nd:N.Nodup
 pre:N.take P.length=P
 par:∀ x ∈ P,sc.names.lookup x=some .local∨sc.names.lookup x=some .cell
 nofree:∀ y ∈ sc.names,y.2≠.free
theorem zg4 {kindOf:Str->Option NameKind}{x:Str}:∀ {binds:List (Str×Value)} {m:Str->Option Value},(∀ v,(x,v) ∉ binds)->bindL kindOf binds m x=m x
 | [],_,_=>rfl
 | (n,v) :: r,m,h=>by
  unfold bindL
  rw [zg4 fun w hw=>h w (List.mem_cons_of_mem _ hw)]
  split
  ·have:x≠n:=by rintro rfl;exact h v List.mem_cons_self
   simp [this]
  ·rfl
theorem zg6 {kindOf:Str->Option NameKind}{x:Str}:∀ {binds:List (Str×Value)} {m:Str->Option Value},(∀ v,(x,v) ∉ binds)->bindC kindOf binds m x=m x
 | [],_,_=>rfl
 | (n,v) :: r,m,h=>by
  unfold bindC
  rw [zg6 fun w hw=>h w (List.mem_cons_of_mem _ hw)]
  split
  ·rfl
  ·have:x≠n:=by rintro rfl;exact h v List.mem_cons_self
   simp [this]
theorem zg5 {kindOf:Str->Option NameKind}{x:Str}{v:Value}:∀ {P:List Str} {vs:List Value} {i:Nat} {m:Str->Option Value},P.Nodup->P[i]?=some x->vs[i]?=some v->kindOf x=some .local ->
  bindL kindOf (P.zip vs) m x=some v
 | [],_,_,_,_,h,_,_=>by simp at h
 | _ :: _,[],_,_,_,_,h,_=>by simp at h
 | p :: P,w :: vs,0,m,nd,h1,h2,hk=>by
  simp at h1 h2;subst h1;subst h2
  show bindL kindOf ((p,w) :: P.zip vs) m p=_
  unfold bindL
  rw [zg4 fun v hv=>(List.nodup_cons.mp nd).1 (List.of_mem_zip hv).1,if_pos hk]
  simp
 | p :: P,w :: vs,i + 1,m,nd,h1,h2,hk=>by
  show bindL kindOf ((p,w) :: P.zip vs) m x=_
  unfold bindL
  exact zg5 (i:=i) (List.nodup_cons.mp nd).2 (by simpa using h1) (by simpa using h2) hk
theorem zg7 {kindOf:Str->Option NameKind}{x:Str}{v:Value}:∀ {P:List Str} {vs:List Value} {i:Nat} {m:Str->Option Value},P.Nodup->P[i]?=some x->vs[i]?=some v->kindOf x≠some .local ->
  bindC kindOf (P.zip vs) m x=some v
 | [],_,_,_,_,h,_,_=>by simp at h
 | _ :: _,[],_,_,_,_,h,_=>by simp at h
 | p :: P,w :: vs,0,m,nd,h1,h2,hk=>by
  simp at h1 h2;subst h1;subst h2
  show bindC kindOf ((p,w) :: P.zip vs) m p=_
  unfold bindC
  rw [zg6 fun v hv=>(List.nodup_cons.mp nd).1 (List.of_mem_zip hv).1,if_neg hk]
  simp
 | p :: P,w :: vs,i + 1,m,nd,h1,h2,hk=>by
  show bindC kindOf ((p,w) :: P.zip vs) m x=_
  unfold bindC
  exact zg7 (i:=i) (List.nodup_cons.mp nd).2 (by simpa using h1) (by simpa using h2) hk
noncomputable def start (N:List Str)(vs:List V):St:=vs.map some ++ List.replicate (N.length - vs.length) none
noncomputable def cxOf (CX:CXT)(P:Program)(w:World)(K:PySem.W.Frag)(mg:Str->Option Value)(base:Heap)(N:List Str)(qual:Str)(scope:Scope)(f:Addr)(cd:Value)(A:Around)(outer:List Env)(s:Shared)(H:Hp)(E:XK):Cx where
 prog:=P
 w:=w
 K:=K
 mg:=mg
 base:=base
 A:=A.deeper (envOfC qual scope s.heap.objs.size f cd)
 N:=N
 s₀:=s
 H₀:=H
 env:=envOfC qual scope s.heap.objs.size f cd
 outer:=outer
 stack:=envOfC qual scope s.heap.objs.size f cd :: outer
 ex:=[]
 calm:=true
 fn:=fun _=>true
 pn:=[]
 xe:=fun e s'=>wpAny (model P w) (A.deeper (envOfC qual scope s.heap.objs.size f cd)) (leaving (envOfC qual scope s.heap.objs.size f cd) e) (fun _ s''=>CX outer H s E e s'') (fun e' s''=>CX outer H s E e' s'') s'
theorem ziF {sc:Scope}{n:Nat}{x:Str}(h:sc.names.lookup x=some .cell):∃ c,(cellsFrom n sc.names []).lookup x=some c:=by
 have q:=PySem.W.cellsFrom_some sc.names n [] (.inl h)
 exact Option.isSome_iff_exists.mp q
theorem zgK {CX:CXT}{P:Program}{w:World}{K:PySem.W.Frag}{mg:Str->Option Value}{base:Heap}{N ps:List Str}{qual:Str}{scope:Scope}{f:Addr}{cd:Value}{A:Around}{outer:List Env}{s s1:Shared}{H:Hp}{E:XK}{us:List Value}{vs:List V}
  (S:FnScope N ps scope) (hd:A.handled=none) (e0:Env0 P w K mg base A outer s H) (hl:vs.length=ps.length) (r:Vals vs us)
  (x:InCallC s s.heap.objs.size (bindL (envOfC qual scope s.heap.objs.size f cd).kindOf (ps.zip us) fun _=>none) (cellsFrom (s.heap.objs.size + 1) scope.names []) (bindC (envOfC qual scope s.heap.objs.size f cd).kindOf (ps.zip us) fun _=>none) s1) :
  Inv (cxOf CX P w K mg base N qual scope f cd A outer s H E) [] (start N vs) H s1:=by
 have hpl:ps.length<=N.length:=by have:=congrArg List.length S.pre;rw [List.length_take] at this;omega
 obtain ⟨h1,tk,rfl,hk⟩:=x.done
 have noA:∀ b:Addr,b ∉ (cxOf CX P w K mg base N qual scope f cd A outer s H E).ex:=fun b z=>absurd (show b ∈ ([]:List Addr) from z) (by simp)
 refine ⟨⟨e0.mod,S.kind,rfl,rfl,Nat.le_refl _,fun y z c h1 h2=>?_,fun y hy=>?_,fun y c _ h=>?_,fun _=>hd,Around.frames_deeper e0.frames,.inr ⟨rfl,rfl⟩,fun b z=>absurd z (noA b),e0.bs,e0.bsz,fun b _ _=>noA b,fun b z=>absurd z (noA b),e0.funs,e0.frf⟩,
  rfl,e0.bare,Un.kept hk,⟨_,x.toInCall.ns,fun i y v h1 h2 h3=>?_⟩,fun y c h=>⟨_,x.cell y c h⟩,e0.hok.fresh (Nat.le_refl _),fun y c h=>?_,fun p hp=>absurd (show p ∈ ([]:List (Addr×Obj)) from hp) (by simp),e0.hok.kept hk,?_⟩
 ·exact name_of_addr x.apart (PySem.mem_of_lookup h1) (PySem.mem_of_lookup h2)
 ·have hy:scope.names.lookup y=some .cell∨scope.names.lookup y=some .free:=hy
  rcases hy with hy | hy
  ·exact ziF hy
  ·exact absurd rfl (S.nofree _ (PySem.mem_of_lookup hy))
 ·exact Nat.le_of_lt (x.above y c (PySem.mem_of_lookup h))
 ·have hi:i < vs.length:=by
   unfold start at h2
   by_cases hi:i < vs.length
   ·exact hi
   ·rw [List.getElem?_append_right (by simpa using hi)] at h2
    rw [List.getElem?_replicate] at h2
    split at h2 <;> cases h2
  have ha:vs[i]?=some v:=by
   unfold start at h2
   rw [List.getElem?_append_left (by simpa using hi),List.getElem?_map] at h2
   cases e:vs[i]? with
   | none=>rw [e] at h2;cases h2
   | some a=>rw [e] at h2;cases h2;rfl
  obtain ⟨u,hu,rv⟩:=r.get ha
  have hp:ps[i]?=some y:=by
   rw [← S.pre,List.getElem?_take_of_lt (by omega)];exact h1
  have ndP:ps.Nodup:=by rw [← S.pre];exact S.nd.sublist (List.take_sublist _ _)
  refine ⟨u,rv,?_⟩
  rcases S.par y (List.mem_of_getElem? hp) with k | k
  ·exact .inl ⟨k,zg5 ndP hp hu k⟩
  ·obtain ⟨c,e⟩:=ziF (n:=s.heap.objs.size + 1) k
   refine .inr ⟨.inl k,c,e,?_⟩
   have q:=x.cell y c e
   rw [zg7 ndP hp hu (by show scope.names.lookup y≠_;rw [k];decide)] at q
   exact q
 ·exact e0.hok.fresh (Nat.le_of_lt (x.above y c (PySem.mem_of_lookup h)))
 ·unfold start
  show _=N.length
  rw [List.length_append,List.length_map,List.length_replicate]
  omega
theorem zpj {CX:CXT}{P:Program}{w:World}{K:PySem.W.Frag}{mg:Str->Option Value}{base:Heap}{k:Nat}{f:Addr}{name qual:Str}{params:Arguments}{body:List Stmt}{scope:Scope}{dV kV doc pm cdv ct oc:Value}{an od:Option Addr}
  {osl:Array (Option Value)} {N ps:List Str} {sp:Sp} (lk:K.lookup f=some ⟨oc,od,.func (PySem.W.fnOf name qual params body scope dV kV doc pm an cdv ct),osl⟩) (hcd:PySem.W.codeIn K cdv qual=true) (S:FnScope N ps scope)
  (len:∀ vs H Q E,sp vs H Q E->vs.length=ps.length)
  (hbody:∀ (A:Around) (outer:List Env) (s:Shared) (H:Hp) (vs:List V) (Q:VK) (E:XK),Room k (A.deeper (envOfC qual scope s.heap.objs.size f cdv))->sp vs H Q E ->
   ∃ t,PSs (cxOf CX P w K mg base N qual scope f cdv A outer s H E) body t/\t { nx:=fun _ H'=>Q .non H',rt:=Q } (start N vs) H) :
  FnOk P w K mg base CX (k + 1) f (PySem.W.fnOf name qual params body scope dV kV doc pm an cdv ct) ps sp:=by
 refine ⟨len,fun A outer s H args us vs Q E hr e0 hb r hsp=>?_⟩
 have hl:=len _ _ _ _ hsp
 have KX:K.In s.heap:=e0.mod.kin.keeps fun b o e=>(e0.bs b o e).1
 have lim:s.heap.NoLimit:=e0.mod.nolimit.keeps fun b o e=>(e0.bs b o e).1
 have hkind:∀ y ∈ ps.zip us,scope.names.lookup y.1=some .local∨(scope.names.lookup y.1=some .cell/\((cellsFrom (s.heap.objs.size + 1) scope.names []).lookup y.1).isSome=true):=fun ⟨n,v⟩ hy=>by
  rcases S.par n (List.of_mem_zip hy).1 with q | q
  ·exact .inl q
  ·exact .inr ⟨q,PySem.W.cellsFrom_some _ _ _ (.inl q)⟩
 refine codeAny_call_function hr.depth (KX _ _ lk) rfl S.co S.gen rfl (PySem.W.codeRec_of KX hcd) (hb _ _ _ _ ?_)
 refine wpAny_newFunctionEnv_cells S.kind hkind fun env he s1 x=>?_
 subst he
 refine ⟨lim.keeps x.toInCall.keep,codeAny_func ?_⟩
 obtain ⟨t,ht,hq⟩:=hbody A outer s H vs Q E (hr.deeper _) hsp
 have I:Inv (cxOf CX P w K mg base N qual scope f cdv A outer s H E) [] (start N vs) H s1:=zgK S hr.hd e0 hl r x
 refine wpAny_mono (ht [] s1 (start N vs) H _ I hq) (fun fl s' hs=>?_) fun e s' hs=>hs
 have fin:∀ {σ':St} {H':Hp} {v:V} {u:Value},Inv (cxOf CX P w K mg base N qual scope f cdv A outer s H E) [] σ' H' s'->RelV v u->Q v H'->CE outer P w H s Q u s' :=
  fun {σ' H' v u} J rv q=>⟨v,H',J.os,J.bare,J.base,J.hok,rv,q⟩
 cases fl with
 | ret u =>
  obtain ⟨v,σ',H',J,rv,q⟩:=hs
  exact fin J rv q
 | next =>
  obtain ⟨σ',H',J,q⟩:=hs
  exact fin (v:=V.non) (u:=Value.none) J rfl q
 | brk =>
  obtain ⟨_,_,_,q⟩:=hs
  exact False.elim q
 | cont =>
  obtain ⟨_,_,_,q⟩:=hs
  exact False.elim q
end L2
namespace L2
open PySem PySem.Spec PyProof.Rows
section
variable {X:Cx}{x:Str}{p pos:Pos}{e:Expr}{es:List Expr}{t:TA}{id T:String}{r:List V->Hp->VK->Prop}
noncomputable def tCB (r:List V->Hp->VK->Prop)(t:TA):TE:=fun σ H Q=>t σ H fun vs H1=>r vs H1 Q
theorem zaj (hc:CallR X (.builtin id) r)(hg:Gl X x)(hm:X.mg x=none)(hv:bootBuiltins x=some (.builtin id))(ha:PA X (e :: es) t)(hn:x≠"__name__":=by decide)(hdb:(x == ("__debug__" : Str))=false:=by decide)
  (he:starEach (e :: es) X.env=(false,eval e X.env) :: starEach es X.env:=by rfl) (hpl:(backTo pos (starEach es X.env)).any (·.1)=false:=by rfl):PE X (.Call (.Name x p) (e :: es) [] pos) (tCB r t):=by
 intro pins s σ H Q I h
 refine wpAny_Call_Name_kw (zfa I hg hm hv ?_ hn hdb)
 exact PyProof.Rows.callWith_builtin1 (thn (ha pos pins s σ H _ I h) fun us s1 ⟨vs,H1,I1,r1,q1⟩=>hc pins s1 σ H1 vs us Q I1 r1 q1) he hpl
theorem zaU (hc:CallR X (.type T) r)(hg:Gl X x)(hm:X.mg x=none)(hv:bootBuiltins x=some (.type T))(ha:PA X (e :: es) t)(hn:x≠"__name__":=by decide)(hdb:(x == ("__debug__" : Str))=false:=by decide)
  (he:starEach (e :: es) X.env=(false,eval e X.env) :: starEach es X.env:=by rfl) (hpl:(backTo pos (starEach es X.env)).any (·.1)=false:=by rfl):PE X (.Call (.Name x p) (e :: es) [] pos) (tCB r t):=by
 intro pins s σ H Q I h
 refine wpAny_Call_Name_kw (zfa I hg hm hv ?_ hn hdb)
 exact PyProof.Rows.callWith_type1 (thn (ha pos pins s σ H _ I h) fun us s1 ⟨vs,H1,I1,r1,q1⟩=>hc pins s1 σ H1 vs us Q I1 r1 q1) he hpl
end
end L2
namespace HT
open PySem PyProof.Rows
noncomputable def lexLt:List Int->List Int->Bool
 | [],[]=>false
 | [],_ :: _=>true
 | _ :: _,[]=>false
 | x :: xs,y :: ys=>if x=y then lexLt xs ys else decide (x < y)
theorem lexLt_cons (x y:Int)(xs ys:List Int):lexLt (x :: xs) (y :: ys)=if x=y then lexLt xs ys else decide (x < y):=rfl
theorem eqAt_int (A:Around)(s:Shared)(a:Int)(t:Tok)(c:Int)(u:Tok):∃ e,SeqAt.EqAt A s (.int a t) (.int c u) e/\(e=true ↔ a=c) :=
 ⟨(a == c),SeqAt.EqAt.int_int a t c u,by simp⟩
theorem rcLt_int (A:Around)(s:Shared)(a:Int)(t:Tok)(c:Int)(u:Tok)(prog:Program)(w:World)(E:Value->Shared->Prop)(Q:Value->Shared->Prop)(h:Q (.bool (decide (a < c))) s) :
  wpAny (model prog w) A (richCompare .Lt (.int a t) (.int c u)) Q E s :=
 (PyProof.Rows.lt_int h:wpAny (model prog w) A (compareOp .Lt (.int a t) (.int c u)) Q E s)
section
open PySem.SeqAt
open PySem.AutoSeq1 (wpAny_loadPart')
open PySem.MeetsSeq PySem.MeetsSeq2 PySem.MeetsSeq3
end
section
variable {prog:Program}{w:World}{A:Around}{E:Value->Shared->Prop}{s:Shared}
theorem cat_tup {t b:Addr}{vs ws:List Value}{Q:Value->Shared->Prop}(ht:IsTup s.heap t vs.toArray)(hb:IsTup s.heap b ws.toArray)(hv:vs≠[])
  (h1:ws=[]->Q (.ref t) s) (h2:ws≠[]->Q (.ref s.heap.objs.size) { s with heap:=s.heap.push { cls:=.type "tuple",data:=.seq (vs ++ ws).toArray } })
  (hsz:vs.length + ws.length<=sizeLine):wpAny (model prog w) A (binaryOp .Add (.ref t) (.ref b)) Q E s:=by
 obtain ⟨⟨cls,dd,data,sl⟩,ho,hc,n,hd⟩:=id ht
 obtain ⟨⟨cls2,dd2,data2,sl2⟩,ho2,hc2,n2,hd2⟩:=id hb
 simp only at hc hd hc2 hd2
 subst hc hd hc2 hd2
 have e:vs.toArray ++ ws.toArray=(vs ++ ws).toArray:=by simp
 by_cases hw:ws=[]
 ·exact concat_meets ⟨_,ho,rfl⟩ ⟨_,ho2,rfl⟩ noFill_tuple_add seq_tuple_add PySem.F.slot_tuple_add PySem.F.entry_tuple_add (PySem.F.args_tuple_add_2 _ _)
   (tuple_addW1 t b vs.toArray ws.toArray n n2 dd dd2 sl sl2 (by simpa using hv) (by simp [hw])) ⟨ho,ho2,h1 hw⟩
 ·refine concat_meets ⟨_,ho,rfl⟩ ⟨_,ho2,rfl⟩ noFill_tuple_add seq_tuple_add PySem.F.slot_tuple_add PySem.F.entry_tuple_add (PySem.F.args_tuple_add_2 _ _)
   (tuple_addW2 t b vs.toArray ws.toArray n n2 dd dd2 sl sl2 (by simpa using hv) (by simpa using hw) (by rw [List.size_toArray,List.size_toArray];exact hsz)) ⟨ho,ho2,?_⟩
  rw [e]
  exact h2 hw
noncomputable def sIx (n d:Nat):Option Int->Nat
 | none=>d
 | some v=>if v < 0 then (v + (n:Int)).toNat else min v.toNat n
theorem sIx_none (n d:Nat):sIx n d none=d:=rfl
theorem sIx_nat (n d k:Nat):sIx n d (some (k:Int))=min k n:=by
 show (if (k:Int) < 0 then ((k:Int) + (n:Int)).toNat else min (k:Int).toNat n)=min k n
 rw [if_neg (by omega),Int.toNat_natCast]
theorem zoD (n d:Nat)(hd:d<=n)(o:Option Int):sIx n d o<=n:=by
 cases o with
 | none=>exact hd
 | some v =>
  show (if v < 0 then (v + (n:Int)).toNat else min v.toNat n)<=n
  by_cases hv:v < 0
  ·rw [if_pos hv];omega
  ·rw [if_neg hv];exact Nat.min_le_right _ _
theorem zla (v:Int)(n d:Nat):(if v < 0 then max (v + (n:Int)) 0 else min v (n:Int))=((sIx n d (some v):Nat):Int):=by
 show (if v < 0 then max (v + (n:Int)) 0 else min v (n:Int))=(((if v < 0 then (v + (n:Int)).toNat else min v.toNat n):Nat):Int)
 by_cases hv:v < 0
 ·simp only [if_pos hv];omega
 ·simp only [if_neg hv];omega
theorem zjo (lo hi:Option Int)(n:Nat):Builtin.Slice.sliceAdjust lo hi 1 (n:Int)=(((sIx n 0 lo:Nat):Int),((sIx n n hi:Nat):Int)):=by
 have h1:¬ ((1:Int) < 0):=by omega
 unfold Builtin.Slice.sliceAdjust
 simp only [h1,if_false]
 refine Prod.ext ?_ ?_
 ·cases lo with
  | none=>rfl
  | some v=>exact zla v n 0
 ·cases hi with
  | none=>rfl
  | some v=>exact zla v n n
theorem ziX (i j:Nat):Builtin.Slice.slicePlaces (i:Int) (j:Int) 1=j - i:=by
 unfold Builtin.Slice.slicePlaces
 have h1:(1:Int) > 0:=by omega
 simp only [h1,if_true,Int.ediv_one]
 split <;> omega
theorem slicePart_ {v:Value}{o:Option Int}{Q:Option Int->Shared->Prop}(p:IsPart v o)(h:Q o s):wpAny (model prog w) A (Builtin.Slice.slicePartIndex v) Q E s:=by
 cases p with
 | none=>exact slicePart_none h
 | int i t=>exact slicePart_int h
theorem zdR {sl:Addr}{vl vu:Value}{lo hi:Option Int}{n:Nat}{Q:Int×Int×Nat->Shared->Prop}(hs:s.heap.IsSliceOf sl vl vu .none)(pl:IsPart vl lo)(pu:IsPart vu hi)
  (h:Q (((sIx n 0 lo:Nat):Int),1,sIx n n hi - sIx n 0 lo) s):wpAny (model prog w) A (Builtin.Slice.sliceApplied (.ref sl) (pure (n:Int))) Q E s:=by
 obtain ⟨os,hos,hcs,hds⟩:=id hs
 unfold Builtin.Slice.sliceApplied Builtin.Slice.sliceFields
 refine wpAny_bind (wpAny_bind (wpAny_field hos hds (x:=vl) rfl (wpAny_bind (wpAny_field hos hds (x:=vu) rfl (wpAny_bind (wpAny_field hos hds (x:=.none) rfl (wpAny_pure ?_)))))))
 refine wpAny_bind (slicePart_none ?_)
 show wpAny _ _ (if ((1:Int) == 0)=true then _ else _) _ _ s
 rw [if_neg (by decide)]
 refine wpAny_bind (slicePart_ pl (wpAny_bind (slicePart_ pu (wpAny_bind (wpAny_pure ?_)))))
 show wpAny _ _ (match Builtin.Slice.sliceAdjust lo hi 1 (n:Int) with | (lo,hi)=>pure (lo,(1:Int),Builtin.Slice.slicePlaces lo hi 1)) _ _ s
 rw [zjo lo hi n]
 show wpAny _ _ (pure (((sIx n 0 lo:Nat):Int),(1:Int),Builtin.Slice.slicePlaces ((sIx n 0 lo:Nat):Int) ((sIx n n hi:Nat):Int) 1)) _ _ s
 rw [ziX]
 exact wpAny_pure h
theorem zlM (xs:Array Value)(i k:Nat):((List.range k).filterMap fun (m:Nat)=>xs[((i:Int) + (m:Int) * 1).toNat]?).toArray=((xs.toList.drop i).take k).toArray:=by
 have e:(fun (m:Nat)=>xs[((i:Int) + (m:Int) * 1).toNat]?)=fun m=>xs[i + m]?:=by
  funext m
  have:((i:Int) + (m:Int) * 1).toNat=i + m:=by omega
  rw [this]
 rw [e]
 have:=pick_run xs i k
 rw [List.filterMap_map] at this
 have e2:((fun x=>xs[x]?) ∘ fun x=>i + x)=fun m=>xs[i + m]?:=rfl
 rw [e2] at this
 rw [this]
theorem getItem_tuple_cut {t sl:Addr}{items:Array Value}{vl vu:Value}{lo hi:Option Int}{Q:Value->Shared->Prop}(ht:IsTup s.heap t items)(hs:s.heap.IsSliceOf sl vl vu .none)(pl:IsPart vl lo)(pu:IsPart vu hi)
  (hw:¬ (sIx items.size 0 lo=0/\sIx items.size items.size hi=items.size))
  (h:Q (.ref s.heap.objs.size) { s with heap:=s.heap.push { cls:=.type "tuple",data:=.seq ((items.toList.drop (sIx items.size 0 lo)).take (sIx items.size items.size hi - sIx items.size 0 lo)).toArray } })
  (hsz:items.size<=sizeLine):wpAny (model prog w) A (getItem (.ref t) (.ref sl)) Q E s:=by
 have htake:sizeOk (.seq ((items.toList.drop (sIx items.size 0 lo)).take (sIx items.size items.size hi - sIx items.size 0 lo)).toArray):=by
  show ((items.toList.drop (sIx items.size 0 lo)).take (sIx items.size items.size hi - sIx items.size 0 lo)).toArray.size<=sizeLine
  rw [List.size_toArray,List.length_take,List.length_drop,Array.length_toList]
  omega
 have hj:sIx items.size items.size hi<=items.size:=zoD _ _ (Nat.le_refl _) hi
 obtain ⟨os,hos,hcs,hds⟩:=id hs
 have hTs:s.TypeIs (.ref sl) "slice":=⟨os,hos,hcs⟩
 unfold getItem
 try with_reducible refine wpAny_holding ?_
 first | refine wpAny_bind (wpAny_pure ?_) | skip
 refine wpAny_bind (wpAny_sequenceKey ht.typeIs (by decide) ?_)
 refine wpAny_bind (wpAny_callSpecial?_slot (name:=Str.ofString "__getitem__") ht.typeIs PyProof.Rows.slot_tuple_getitem
  (wpAny_call_entry PyProof.Rows.slot_tuple_getitem ht.typeIs entry_tuple_getitem ?_ (args_tuple_getitem _ _)))
 show wpAny _ _ (Builtin.Tuple.tupleItemsOf (.ref t) >>= _) _ _ s
 refine wpAny_bind (tupleItemsOf_ ht ?_)
 refine wpAny_bind (wpAny_typeOf hTs ?_)
 rw [if_pos (by decide)]
 refine wpAny_bind (zdR hs pl pu ?_)
 have hno:¬ ((((sIx items.size 0 lo:Nat):Int) == 0 && (1:Int) == 1 && (sIx items.size items.size hi - sIx items.size 0 lo) == items.size)=true):=by
  intro q
  rw [Bool.and_eq_true,Bool.and_eq_true] at q
  have q1:((sIx items.size 0 lo:Nat):Int)=0:=eq_of_beq q.1.1
  have q2:sIx items.size items.size hi - sIx items.size 0 lo=items.size:=eq_of_beq q.2
  exact hw ⟨by omega,by omega⟩
 show wpAny _ _ (if (((sIx items.size 0 lo:Nat):Int) == 0 && (1:Int) == 1 && (sIx items.size items.size hi - sIx items.size 0 lo) == items.size)=true then _ else _) _ _ s
 rw [if_neg hno,zlM]
 first
  | exact wpAny_bind (m:=Builtin.Tuple.tupleExact _) (wpAny_newObj_type (wpAny_pure ⟨_,rfl,wpAny_pure h⟩) htake)
  | exact wpAny_bind (m:=Builtin.Tuple.tupleExact _) (wpAny_newObj_type (wpAny_bind (wpAny_pure (wpAny_pure ⟨_,rfl,wpAny_pure h⟩))) htake)
  | exact wpAny_bind (wpAny_bind (m:=Builtin.Tuple.tupleExact _) (wpAny_newObj_type (wpAny_pure (wpAny_pure ⟨_,rfl,wpAny_pure h⟩)) htake))
  | exact wpAny_bind (wpAny_bind (m:=Builtin.Tuple.tupleExact _) (wpAny_newObj_type (wpAny_pure ⟨_,rfl,wpAny_pure h⟩) htake))
end
end HT
namespace L2
open PySem PySem.Spec PyProof.Rows
noncomputable abbrev TO:=St->Hp->(Option Int->Hp->Prop)->Prop
noncomputable def PO (X:Cx)(e:Option Expr)(t:TO):Prop :=
 ∀ (pins:List (Addr×Obj)) (s:Shared) (σ:St) (H:Hp) (Q:Option Int->Hp->Prop),Inv X pins σ H s->t σ H Q ->
  wpAny (model X.prog X.w) X.A (evalPart e X.env) (fun u s'=>∃ o H',Inv X pins σ H' s'/\IsPart u o/\Q o H') X.xe s
noncomputable def tNoPart:TO:=fun _ H Q=>Q none H
noncomputable def tPart (t:TE):TO:=fun σ H Q=>t σ H fun x H1=>∃ i,x = .int i/\Q (some i) H1
theorem zfc {ns:List Int}:∀ {us:List Value},Vals (ns.map V.int) us->IntsAre us ns:=by
 induction ns with
 | nil=>intro us r;rw [List.map_nil] at r;cases r;exact .nil
 | cons n ns ih =>
  intro us r
  rw [List.map_cons] at r
  cases r with
  | cons r1 r2 =>
   obtain ⟨t,e⟩:=r1
   subst e
   exact .cons n t (ih r2)
section
variable {X:Cx}{e:Expr}{te:TE}{lo hi:Option Expr}{tl th:TO}{pos p2:Pos}
theorem zbT:PO X none tNoPart:=by
 intro pins s σ H Q I h
 rw [evalPart_none]
 exact wpAny_pure ⟨none,H,I,.none,h⟩
theorem zbH (h:PE X e te):PO X (some e) (tPart te):=by
 intro pins s σ H Q I hw
 rw [evalPart_some]
 refine thn (h pins s σ H _ I hw) fun u s1 ⟨x,H1,I1,r1,q1⟩=>?_
 obtain ⟨i,rfl,q⟩:=q1
 obtain ⟨t,rfl⟩:=r1
 exact ⟨some i,H1,I1,.int i t,q⟩
noncomputable def SlR (X:Cx)(r:V->Option Int->Option Int->Hp->VK->Prop):Prop :=
 ∀ (pins:List (Addr×Obj)) (s:Shared) (σ:St) (H:Hp) (x:V) (v vl vu:Value) (lo hi:Option Int) (sl:Addr) (Q:VK),Inv X pins σ H s->RelV x v->s.heap.IsSliceOf sl vl vu .none->IsPart vl lo->IsPart vu hi->r x lo hi H Q ->
  ∃ T id,typeLookup (.type T) "__getitem__" = pure (some (.builtin id))/\s.TypeIs v T/\wpAny (model X.prog X.w) X.A (getItem v (.ref sl)) (EP X pins σ Q) X.xe s
noncomputable def tSl (r:V->Option Int->Option Int->Hp->VK->Prop)(te:TE)(tl th:TO):TE:=fun σ H Q=>te σ H fun x H1=>tl σ H1 fun l H2=>th σ H2 fun u H3=>r x l u H3 Q
theorem zcn {r:V->Option Int->Option Int->Hp->VK->Prop}(hr:SlR X r)(he:PE X e te)(hl:PO X lo tl)(hu:PO X hi th):PE X (.Subscript e (.Slice lo hi none p2) pos) (tSl r te tl th):=by
 intro pins s σ H Q I h
 refine Subscript_ (thn (he pins s σ H _ I h) fun v s1 ⟨x,H1,I1,r1,q1⟩=>?_)
 refine wpAny_Slice (thn (hl pins s1 σ H1 _ I1 q1) fun vl s2 ⟨l,H2,I2,pl,q2⟩=>thn (hu pins s2 σ H2 _ I2 q2) fun vu s3 ⟨u,H3,I3,pu,q3⟩=>?_)
 rw [evalPart_none]
 refine wpAny_pure ?_
 have I4:Inv X pins σ H3 { s3 with heap:=s3.heap.push { cls:=.type "slice",data:=.fields #[vl,vu,.none] } }:=I3.kept (t':=s3.toks) fun b ob q=>Heap.get?_push_of_some _ q
 obtain ⟨T,id,hT,ht,hg⟩:=hr pins { s3 with heap:=s3.heap.push { cls:=.type "slice",data:=.fields #[vl,vu,.none] } } σ H3 x v vl vu l u s3.heap.objs.size Q I4 r1 (Heap.IsSliceOf.new ..) pl pu q3
 show wpAny (model X.prog X.w) X.A (subscriptTail e (.Slice lo hi none p2) v (.ref s3.heap.objs.size)) (EP X pins σ Q) X.xe { s3 with heap:=s3.heap.push { cls:=.type "slice",data:=.fields #[vl,vu,.none] } }
 exact tail_any (ops:=[.ref s3.heap.objs.size,v]) ht hT hg (by with_unfolding_all rfl)
noncomputable def cutV (xs:List V)(lo hi:Option Int):List V:=(xs.drop (HT.sIx xs.length 0 lo)).take (HT.sIx xs.length xs.length hi - HT.sIx xs.length 0 lo)
theorem zeJ (xs:List V)(lo hi:Option Int):(cutV xs lo hi).length<=xs.length:=by
 unfold cutV
 rw [List.length_take,List.length_drop]
 omega
noncomputable def rSlT (K:PySem.W.Frag):V->Option Int->Option Int->Hp->VK->Prop:=fun x lo hi H Q=>∃ a xs,x = .ref a/\SqT K H a xs /\
 ¬ (HT.sIx xs.length 0 lo=0/\HT.sIx xs.length xs.length hi=xs.length)/\∀ p,H p=none->Q (.ref p) (upd H p (.tup (cutV xs lo hi)))
theorem zoA:SlR X (rSlT X.K):=by
 intro pins s σ H x v vl vu lo hi sl Q I rx hs pl pu h
 obtain ⟨a,xs,rfl,hx,hw,q⟩:=h
 cases rx
 obtain ⟨its,r,ht,hz⟩:=I.tuple hx
 have hlen:its.toArray.size=xs.length:=by rw [List.size_toArray];exact r.length.symm
 refine ⟨"tuple",_,PyProof.Rows.slot_tuple_getitem.lookup,ht.typeIs,?_⟩
 refine HT.getItem_tuple_cut ht hs pl pu (by rw [hlen];exact hw) ?_ (by rw [hlen];exact hz)
 rw [hlen]
 refine ⟨.ref s.heap.objs.size,_,I.laid (t':=s.toks) (o:=.tup (cutV xs lo hi)) (fun b ob q=>Heap.get?_push_of_some _ q) (Nat.le_refl _) ?_,rfl,q _ (I.hok.fresh (Nat.le_refl _))⟩
 exact ⟨Nat.le_trans (zeJ xs lo hi) hz,_,(r.drop (HT.sIx xs.length 0 lo)).take (HT.sIx xs.length xs.length hi - HT.sIx xs.length 0 lo),IsTup.new _ _⟩
noncomputable def rCatT (K:PySem.W.Frag):R2:=fun x y H Q=>∃ a b xs ys,x = .ref a/\y = .ref b/\SqT K H a xs/\SqT K H b ys/\xs≠[]/\xs.length + ys.length<=sizeLine /\
 (ys=[]->Q (.ref a) H)/\(ys≠[]->∀ p,H p=none->Q (.ref p) (upd H p (.tup (xs ++ ys))))
theorem Vals.nil_iff {xs:List V}{us:List Value}(r:Vals xs us):us=[] ↔ xs=[]:=by
 cases r with
 | nil=>simp
 | cons _ _=>simp
theorem znF:OpR X (binaryOp .Add) (rCatT X.K):=by
 intro pins s σ H x y v u Q I rx ry h
 obtain ⟨a,b,xs,ys,rfl,rfl,ha,hb,hx,hz,q1,q2⟩:=h
 cases rx
 cases ry
 obtain ⟨its,r1,p1,_⟩:=I.tuple ha
 obtain ⟨its2,r2,p2,_⟩:=I.tuple hb
 refine HT.cat_tup p1 p2 (fun z=>hx (r1.nil_iff.mp z)) (fun z=>⟨.ref a,H,I,rfl,q1 (r2.nil_iff.mp z)⟩) (fun z=>?_) (by rw [← r1.length,← r2.length];exact hz)
 refine ⟨.ref s.heap.objs.size,_,I.laid (t':=s.toks) (o:=.tup (xs ++ ys)) (fun b ob q=>Heap.get?_push_of_some _ q) (Nat.le_refl _) ?_,rfl,q2 (fun w=>z (r2.nil_iff.mpr w)) _ (I.hok.fresh (Nat.le_refl _))⟩
 exact ⟨by rw [List.length_append];exact hz,_,r1.append r2,IsTup.new _ _⟩
end
end L2
namespace L2
open PySem PySem.Spec PyProof.Rows
noncomputable def ixN (n:Nat)(i:Int):Option Nat:=if 0<=i then (if i < n then some i.toNat else none) else if -(n:Int)<=i then some (i + n).toNat else none
noncomputable def atI {α:Type}(xs:List α)(i:Int):Option α:=(ixN xs.length i).bind fun j=>xs[j]?
theorem zkQ {n:Nat}{i:Int}{j:Nat}(h:ixN n i=some j):seqIndex? i n=some j/\j < n/\-(n:Int)<=i/\i < n:=by
 unfold ixN at h
 by_cases h0:0<=i
 ·rw [if_pos h0] at h
  by_cases h1:i < n
  ·rw [if_pos h1] at h
   have e:i.toNat=j:=Option.some.inj h
   exact ⟨by rw [seqIndex_of h0 h1,e],by omega,by omega,h1⟩
  ·rw [if_neg h1] at h;cases h
 ·rw [if_neg h0] at h
  by_cases h1 : -(n:Int)<=i
  ·rw [if_pos h1] at h
   have e:(i + n).toNat=j:=Option.some.inj h
   exact ⟨by rw [seqIndex_neg (by omega) h1,e],by omega,h1,by omega⟩
  ·rw [if_neg h1] at h;cases h
theorem zhW {α:Type}{xs:List α}{i:Int}{v:α}(h:atI xs i=some v):∃ j,seqIndex? i xs.length=some j/\xs[j]?=some v/\j < xs.length/\-(xs.length:Int)<=i/\i < xs.length:=by
 unfold atI at h
 cases e:ixN xs.length i with
 | none=>rw [e] at h;cases h
 | some j =>
  rw [e] at h
  obtain ⟨h1,h2,h3,h4⟩:=zkQ e
  exact ⟨j,h1,h,h2,h3,h4⟩
theorem zog {α:Type}{xs:List α}{j:Nat}{v:α}(h:xs[j]?=some v):atI xs (j:Int)=some v:=by
 have hj:j < xs.length:=(List.getElem?_eq_some_iff.mp h).1
 have e:ixN xs.length (j:Int)=some j:=by
  unfold ixN
  rw [if_pos (by omega),if_pos (by omega)];simp
 unfold atI;rw [e];exact h
theorem atI_last {α:Type}(xs:List α)(v:α):atI (xs ++ [v]) (-1)=some v:=by
 have hl:(xs ++ [v]).length=xs.length + 1:=by simp
 have e:ixN (xs ++ [v]).length (-1)=some xs.length:=by
  unfold ixN
  rw [hl,if_neg (by decide),if_pos (by omega)]
  congr 1
  omega
 unfold atI
 rw [e]
 show (xs ++ [v])[xs.length]?=some v
 simp
noncomputable def zok (b:Expr):Prop:=∀ o i,subscripted b false o i=operate [o,i] (getItem o i)
noncomputable def IxR (X:Cx)(r:R2):Prop :=
 ∀ (value slice:Expr) (pins:List (Addr×Obj)) (s:Shared) (σ:St) (H:Hp) (x y:V) (v u:Value) (Q:VK),Inv X pins σ H s->RelV x v->RelV y u->r x y H Q ->
  subscripted slice false v u=operate [v,u] (getItem v u)->wpAny (model X.prog X.w) X.A (subscriptTail value slice v u) (EP X pins σ Q) X.xe s
noncomputable def MtR (X:Cx)(id:String)(r:V->List V->Hp->VK->Prop):Prop :=
 ∀ (pins:List (Addr×Obj)) (s:Shared) (σ:St) (H:Hp) (x:V) (xs:List V) (v:Value) (us:List Value) (Q:VK),Inv X pins σ H s->RelV x v->Vals xs us->r x xs H Q ->
  wpAny (model X.prog X.w) X.A (call (.builtin id) (v :: us)) (EP X pins σ Q) X.xe s
section
variable {X:Cx}{a b:Expr}{ta tb:TE}{pos:Pos}
theorem IxR.or {r r':R2}(h:IxR X r)(h':IxR X r'):IxR X (fun x y H Q=>r x y H Q∨r' x y H Q):=by
 intro value slice pins s σ H x y v u Q I rx ry q hs
 rcases q with q | q
 ·exact h value slice pins s σ H x y v u Q I rx ry q hs
 ·exact h' value slice pins s σ H x y v u Q I rx ry q hs
theorem zbg {r:R2}(hr:IxR X r)(ha:PE X a ta)(hb:PE X b tb)(hs:zok b):PE X (.Subscript a b pos) (tOp r ta tb):=by
 intro pins s σ H Q I h
 exact Subscript_ (binT ha hb I h fun v u s2 x y H2 I2 rx ry q=>hr a b pins s2 σ H2 x y v u Q I2 rx ry q (hs _ _))
noncomputable def rIxL (K:PySem.W.Frag):R2:=fun x y H Q=>∃ p xs i v,x = .ref p/\y = .int i/\SqL K H p xs/\atI xs i=some v/\Q v H
noncomputable def rIxT (K:PySem.W.Frag):R2:=fun x y H Q=>∃ p xs i v,x = .ref p/\y = .int i/\SqT K H p xs/\atI xs i=some v/\Q v H
noncomputable def rIxS:R2:=fun x y H Q=>∃ z i c,x = .str z/\y = .int i/\z.length<=sizeLine/\atI z.cps.toList i=some c/\Q (.str ⟨#[c]⟩) H
theorem zn1:IxR X (rIxL X.K):=by
 intro value slice pins s σ H x y v u Q I rx ry h hs
 obtain ⟨p,xs,i,z,rfl,rfl,hq,he,q⟩:=h
 cases rx
 obtain ⟨t,rfl⟩:=ry
 obtain ⟨its,r,pl,hz⟩:=I.list hq
 obtain ⟨j,h1,h2,h3,h4,h5⟩:=zhW he
 obtain ⟨w,ew,rw'⟩:=r.get h2
 have hl:=r.length
 have hn:=line63
 have fin:EP X pins σ Q w s:=⟨z,H,I,rw',q⟩
 by_cases h0:0<=i
 ·have hj:i.toNat=j:=by
   rw [seqIndex_of h0 h5] at h1
   exact Option.some.inj h1
  exact item_listR pl.isList h0 (by omega) (by rw [hj];simpa using ew) fin hs
 ·have hj:(i + (its.toArray.size:Int)).toNat=j:=by
   rw [seqIndex_neg (by omega) h4] at h1
   rw [List.size_toArray,← hl]
   exact Option.some.inj h1
  exact subscriptTail_builtinR (x:=w) pl.isList.typeIs slot_list_getitem.lookup
   (wpAny_getItem_list_neg (Q:=fun r s'=>r=w/\EP X pins σ Q r s') pl.isList (by omega) (by rw [List.size_toArray] <;> omega) (by omega) (by rw [hj];simpa using ew) ⟨rfl,fin⟩) hs
theorem zpe:IxR X (rIxT X.K):=by
 intro value slice pins s σ H x y v u Q I rx ry h hs
 obtain ⟨p,xs,i,z,rfl,rfl,hq,he,q⟩:=h
 cases rx
 obtain ⟨t,rfl⟩:=ry
 obtain ⟨its,r,pl,hz⟩:=I.tuple hq
 obtain ⟨j,h1,h2,h3,h4,h5⟩:=zhW he
 obtain ⟨w,ew,rw'⟩:=r.get h2
 have hl:=r.length
 have hn:=line63
 have fin:EP X pins σ Q w s:=⟨z,H,I,rw',q⟩
 exact subscriptTail_builtinR (x:=w) pl.typeIs slot_tuple_getitem.lookup
  (getItem_tuple (j:=j) (Q:=fun r s'=>r=w/\EP X pins σ Q r s') pl (by omega) (by omega) (by rw [List.size_toArray,← hl];exact h1) (by simpa using ew) ⟨rfl,fin⟩) hs
theorem zpf:IxR X rIxS:=by
 intro value slice pins s σ H x y v u Q I rx ry h hs
 obtain ⟨z,i,c,rfl,rfl,hz,he,q⟩:=h
 obtain ⟨t,rfl⟩:=rx
 obtain ⟨t',rfl⟩:=ry
 obtain ⟨j,h1,h2,h3,h4,h5⟩:=zhW he
 have hl:z.cps.toList.length=z.length:=by simp [Str.length]
 rw [hl] at h1 h4 h5
 have hn:=line63
 exact tail_any (typeIs_str s z t) slot_str_getitem.lookup (getItem_str (c:=c) (by
  have e1:decide (i < -(2 ^ 63:Int))=false:=decide_eq_false (by omega)
  have e2:decide (i ≥ 2 ^ 63)=false:=decide_eq_false (by omega)
  rw [e1,e2,Bool.or_false]) (by rw [h1];simpa using h2) ⟨.str ⟨#[c]⟩,H,I.tok _,⟨_,rfl⟩,q⟩) hs
noncomputable def rIx (K:PySem.W.Frag):R2:=fun x y H Q=>rIxL K x y H Q∨rIxT K x y H Q∨rIxS x y H Q
theorem zmS:IxR X (rIx X.K):=zn1.or (zpe.or zpf)
theorem zi6 (its:List Value)(n j:Nat)(u:Value):Obj.mapSeq (·.setIfInBounds j u) { cls:=.type "list",data:=.seq its.toArray n }={ cls:=.type "list",data:=.seq (its.set j u).toArray n }:=by
 simp [Obj.mapSeq]
theorem Inv.lst {pins:List (Addr×Obj)}{σ:St}{H:Hp}{s:Shared}{p:Addr}{xs:List V}(I:Inv X pins σ H s)(h:H p=some (.lst xs)) :
  ∃ (its:List Value) (n:Nat),Vals xs its/\s.heap.get? p=some { cls:=.type "list",data:=.seq its.toArray n }/\xs.length<=sizeLine:=by
 obtain ⟨z,its,n,r,e⟩:=I.hok p _ h
 exact ⟨its,n,r,e,z⟩
theorem Inv.lstUpd {pins:List (Addr×Obj)}{σ:St}{H:Hp}{s:Shared}{p:Addr}{xs ys:List V}{its its':List Value}{n n':Nat}{f:Obj->Obj}(I:Inv X pins σ H s)(h:H p=some (.lst xs))
  (ho:s.heap.get? p=some { cls:=.type "list",data:=.seq its.toArray n }) (hf:f { cls:=.type "list",data:=.seq its.toArray n }={ cls:=.type "list",data:=.seq its'.toArray n' }) (r:Vals ys its') (hz:ys.length<=sizeLine) (t:Nat) :
  Inv X pins σ (upd H p (.lst ys)) { s with heap:=s.heap.update p f,toks:=t }:=by
 have e:(s.heap.update p f).get? p=some { cls:=.type "list",data:=.seq its'.toArray n' }:=by
  rw [Heap.get?_update_self f ho (by rw [hf] <;> rfl),hf]
 refine I.write (x:=p) (e:=p) (by rw [h];trivial) (.inl rfl) (fun b u hb q=>(Heap.get?_update_other _ _ (Ne.symm hb)).trans q) ⟨_,e⟩ ?_
 exact ⟨hz,its',n',r,e⟩
noncomputable def rSetL:V->V->V->Hp->(Hp->Prop)->Prop:=fun o i v H Q=>∃ p xs k j,o = .ref p/\i = .int k/\H p=some (.lst xs)/\ixN xs.length k=some j/\Q (upd H p (.lst (xs.set j v)))
theorem zfC:PSet X rSetL:=by
 intro pins s σ H o i v ov iv u Q I ro ri rv h
 obtain ⟨p,xs,k,j,rfl,rfl,hp,hj,q⟩:=h
 cases ro
 obtain ⟨t,rfl⟩:=ri
 obtain ⟨its,n,r,ho,hz⟩:=I.lst hp
 obtain ⟨h1,h2,h3,h4⟩:=zkQ hj
 have hl:=r.length
 have hn:=line63
 have I':Inv X pins σ (upd H p (.lst (xs.set j v))) { s with heap:=s.heap.update p (Obj.mapSeq (·.setIfInBounds j u)) } :=
  I.lstUpd hp ho (zi6 its n j u) (r.set rv j) (by rw [List.length_set];exact hz) s.toks
 by_cases h0:0<=k
 ·have hk:k.toNat=j:=by
   rw [seqIndex_of h0 h4] at h1
   exact Option.some.inj h1
  exact PySem.W.ki_setAt ho h0 (by omega) (by rw [List.size_toArray,← hl];exact h4) (by rw [hk];exact ⟨_,I',q⟩)
 ·have hk:(k + (its.toArray.size:Int)).toNat=j:=by
   rw [seqIndex_neg (by omega) h3] at h1
   rw [List.size_toArray,← hl]
   exact Option.some.inj h1
  exact PySem.W.ki_setBack ho (by omega) (by rw [List.size_toArray,← hl];exact h3) (by omega) (by rw [hk];exact ⟨_,I',q⟩)
theorem zgi (lo hi:Option Int)(n:Nat):(sliceBounds lo hi none n).1=((HT.sIx n 0 lo:Nat):Int)/\(sliceBounds lo hi none n).2.1=((HT.sIx n n hi:Nat):Int)/\(sliceBounds lo hi none n).2.2=1:=by
 refine ⟨?_,?_,rfl⟩
 ·cases lo with
  | none=>simp [sliceBounds,HT.sIx]
  | some i =>
   simp only [sliceBounds,HT.sIx,Option.getD_none,show (1:Int) > 0 by decide,if_true]
   by_cases h:i < 0
   ·simp only [h,if_true] <;> omega
   ·simp only [h,if_false] <;> omega
 ·cases hi with
  | none=>simp [sliceBounds,HT.sIx]
  | some i =>
   simp only [sliceBounds,HT.sIx,Option.getD_none,show (1:Int) > 0 by decide,if_true]
   by_cases h:i < 0
   ·simp only [h,if_true] <;> omega
   ·simp only [h,if_false] <;> omega
theorem zfB (its:List Value)(lo hi:Option Int):slicePick its.toArray lo hi none=((its.drop (HT.sIx its.length 0 lo)).take (HT.sIx its.length its.length hi - HT.sIx its.length 0 lo)).toArray:=by
 obtain ⟨h1,h2,h3⟩:=zgi lo hi its.toArray.size
 unfold slicePick
 rw [h1,h2,h3]
 simp only [sliceRange_one,pick_run,List.size_toArray] <;> rfl
noncomputable def rSlL (K:PySem.W.Frag):V->Option Int->Option Int->Hp->VK->Prop:=fun x lo hi H Q=>∃ a xs,x = .ref a/\SqL K H a xs/\∀ p,H p=none->Q (.ref p) (upd H p (.lst (cutV xs lo hi)))
theorem zne:SlR X (rSlL X.K):=by
 intro pins s σ H x v vl vu lo hi sl Q I rx hs pl pu h
 obtain ⟨a,xs,rfl,hx,q⟩:=h
 cases rx
 obtain ⟨its,r,ht,hz⟩:=I.list hx
 have hlen:=r.length
 refine ⟨"list",_,slot_list_getitem.lookup,ht.isList.typeIs,?_⟩
 refine wpAny_getItem_list_slice ht.isList hs pl pu .none (by simp) ?_ (by rw [List.size_toArray] <;> omega)
 rw [zfB,← hlen]
 refine ⟨.ref s.heap.objs.size,_,I.laid (t':=s.toks) (o:=.lst (cutV xs lo hi)) (fun b ob q=>Heap.get?_push_of_some _ q) (Nat.le_refl _) ?_,rfl,q _ (I.hok.fresh (Nat.le_refl _))⟩
 exact ⟨Nat.le_trans (zeJ xs lo hi) hz,_,0,(r.drop (HT.sIx xs.length 0 lo)).take (HT.sIx xs.length xs.length hi - HT.sIx xs.length 0 lo),Heap.get?_push_size _ rfl⟩
theorem zgs:OpR X (compareOp .NotIn) (fun x y H Q=>∃ i j,x = .str i/\y = .str j/\Q (.bl (!(!(Builtin.Str.occurrences j i 0 j.length 1).isEmpty))) H):=by
 intro pins s σ H x y v u Q I rx ry h
 obtain ⟨i,j,rfl,rfl,q⟩:=h
 obtain ⟨t,rfl⟩:=rx
 obtain ⟨t',rfl⟩:=ry
 exact notIn_str ⟨.bl _,H,I,rfl,q⟩
theorem zcJ:CallR X (.builtin "len") (fun xs H Q=>∃ p ys,xs=[.ref p]/\(SqL X.K H p ys∨SqT X.K H p ys)/\Q (.int ys.length) H):=by
 intro pins s σ H xs us Q I r h
 obtain ⟨p,ys,rfl,hq,q⟩:=h
 obtain ⟨u,rfl,rx⟩:=vals1 r
 cases rx
 have hn:=line63
 rcases hq with hq | hq
 ·obtain ⟨its,r',pl,hz⟩:=I.list hq
  have hlen:=r'.length
  exact Calls.call_len_list pl.isList (by simp only [List.size_toArray] <;> omega) ⟨.int ys.length,H,I.tok _,⟨s.toks + 1,by rw [List.size_toArray,hlen]⟩,q⟩
 ·obtain ⟨its,r',pl,hz⟩:=I.tuple hq
  have hlen:=r'.length
  exact len_tuple pl (by simp only [List.size_toArray] <;> omega) ⟨.int ys.length,H,I.tok _,⟨s.toks + 1,by rw [List.size_toArray,hlen]⟩,q⟩
theorem zg1:CallR X (.builtin "len") (fun xs H Q=>∃ z,xs=[.str z]/\z.length<=sizeLine/\Q (.int z.length) H):=by
 intro pins s σ H xs us Q I r h
 obtain ⟨z,rfl,hz,q⟩:=h
 obtain ⟨u,rfl,t,rfl⟩:=vals1 r
 have hn:=line63
 exact len_str (by omega) ⟨.int z.length,H,I.tok _,⟨_,rfl⟩,q⟩
theorem zg0:CallR X (.type "list") (fun xs H Q=>∃ p ys,xs=[.ref p]/\(SqL X.K H p ys∨SqT X.K H p ys)/\∀ l,H l=none->Q (.ref l) (upd H l (.lst ys))):=by
 intro pins s σ H xs us Q I r h
 obtain ⟨p,ys,rfl,hq,q⟩:=h
 obtain ⟨u,rfl,rx⟩:=vals1 r
 cases rx
 have fin:∀ (its:List Value),Vals ys its->ys.length<=sizeLine->∀ (h':Heap) (c':Nat),(∀ b o',s.heap.get? b=some o'->h'.get? b=some o') ->
   h'.get? s.heap.objs.size=some { cls:=.type "list",dict:=none,data:=.seq its.toArray c',slots:=#[] }->EP X pins σ Q (.ref s.heap.objs.size) { s with heap:=h' }:=fun its r' hz h' c' kp e =>
  ⟨.ref s.heap.objs.size,_,I.laid (t':=s.toks) kp (Nat.le_refl _) (show ObjOk X.prog X.w _ h' _ (.lst ys) from ⟨hz,its,c',r',e⟩),rfl,q _ (I.hok.fresh (Nat.le_refl _))⟩
 rcases hq with hq | hq
 ·obtain ⟨its,r',pl,hz⟩:=I.list hq
  have hlen:=r'.length
  obtain ⟨o,ho,hc,n,hd⟩:=pl.isList
  exact call_list_seq p (.inl rfl) ho hc hd (fun h' c' kp e=>fin its r' hz h' c' kp e) (by simp only [List.size_toArray] <;> omega)
 ·obtain ⟨its,r',pl,hz⟩:=I.tuple hq
  have hlen:=r'.length
  obtain ⟨o,ho,hc,n,hd⟩:=pl
  exact call_list_seq p (.inr rfl) ho hc hd (fun h' c' kp e=>fin its r' hz h' c' kp e) (by simp only [List.size_toArray] <;> omega)
theorem zfZ:CallR X (.type "tuple") (fun xs H Q=>∃ p ys,xs=[.ref p]/\((SqL X.K H p ys/\∀ l,H l=none->Q (.ref l) (upd H l (.tup ys)))∨(SqT X.K H p ys/\Q (.ref p) H))):=by
 intro pins s σ H xs us Q I r h
 obtain ⟨p,ys,rfl,h⟩:=h
 obtain ⟨u,rfl,rx⟩:=vals1 r
 cases rx
 rcases h with ⟨hq,q⟩ | ⟨hq,q⟩
 ·obtain ⟨its,r',pl,hz⟩:=I.list hq
  have hlen:=r'.length
  refine call_tuple_list pl.isList (fun h' kp=>?_) (by simp only [List.size_toArray] <;> omega)
  have I1:Inv X pins σ H { s with heap:=h' }:=I.kept (t':=s.toks) kp
  have I2:Inv X pins σ (upd H h'.objs.size (.tup ys)) { s with heap:=h'.push { cls:=.type "tuple",data:=.seq its.toArray } } :=
   I1.laid (t':=s.toks) (fun b o e=>Heap.get?_push_of_some _ e) (Nat.le_refl _) (show ObjOk X.prog X.w _ _ _ (.tup ys) from ⟨hz,its,r',IsTup.new _ _⟩)
  exact ⟨.ref h'.objs.size,_,I2,rfl,q _ (I1.hok.fresh (Nat.le_refl _))⟩
 ·obtain ⟨its,r',pl,hz⟩:=I.tuple hq
  exact call_tuple_same pl ⟨.ref p,H,I,rfl,q⟩
noncomputable def tyV (K:PySem.W.Frag)(T:String)(x:V)(H:Hp):Prop:=match x with
 | .str _=>T="str"
 | .int _=>T="int"
 | .ref p=>(T="list"/\∃ xs,SqL K H p xs)∨(T="tuple"/\∃ o,K.lookup p=some o/\o.cls = .type "tuple"/\o.dict=none) ∨
   (T="dict"/\((∃ kvs,H p=some (.dK kvs))∨∃ kvs,H p=some (.dT kvs)))∨(T="set"/\∃ S n,H p=some (.set S n))
 | _=>False
theorem zmE {pins:List (Addr×Obj)}{σ:St}{H:Hp}{s:Shared}{T:String}{x:V}{v:Value}(I:Inv X pins σ H s)(r:RelV x v)(ty:tyV X.K T x H) :
  s.TypeIs v T/\∀ a,v = .ref a->∃ ob,s.heap.get? a=some ob/\ob.dict=none:=by
 cases x with
 | str z =>
  obtain ⟨t,rfl⟩:=r
  cases (show T="str" from ty)
  exact ⟨typeIs_str s z t,fun _ e=>nomatch e⟩
 | int i =>
  obtain ⟨t,rfl⟩:=r
  cases (show T="int" from ty)
  exact ⟨typeIs_int s i t,fun _ e=>nomatch e⟩
 | ref p =>
  cases r
  rcases ty with ⟨rfl,xs,hq⟩ | ⟨rfl,o,hk,hc,hd⟩ | ⟨rfl,hk⟩ | ⟨rfl,S,n,hk⟩
  ·obtain ⟨its,_,pl,_⟩:=I.list hq
   refine ⟨pl.isList.typeIs,fun a e=>?_⟩
   cases e
   obtain ⟨o,n,e,c,hd,_⟩:=pl
   exact ⟨o,e,hd⟩
  ·refine ⟨⟨o,I.kIn p o hk,hc⟩,fun a e=>?_⟩
   cases e
   exact ⟨o,I.kIn _ o hk,hd⟩
  ·have z:∃ o,s.heap.get? p=some o/\o.ExactDict:=by
    rcases hk with ⟨kvs,hk⟩ | ⟨kvs,hk⟩
    ·obtain ⟨_,_,_,_,o,_,_,e,ex,_⟩:=I.hok p _ hk
     exact ⟨o,e,ex⟩
    ·obtain ⟨_,_,_,_,o,_,_,e,ex,_⟩:=I.hok p _ hk
     exact ⟨o,e,ex⟩
   obtain ⟨o,e,ex⟩:=z
   refine ⟨⟨o,e,ex.1⟩,fun a e2=>?_⟩
   cases e2
   exact ⟨o,e,ex.2.1⟩
  ·obtain ⟨o,_,_,_,e,ex,_⟩:=I.hok p _ hk
   refine ⟨⟨o,e,ex.1⟩,fun a e2=>?_⟩
   cases e2
   exact ⟨o,e,ex.2.1⟩
 | _=>exact False.elim ty
noncomputable def tBM0 (K:PySem.W.Frag)(T:String)(r:V->List V->Hp->VK->Prop)(to:TE):TE:=fun σ H Q=>to σ H fun x H1=>tyV K T x H1/\r x [] H1 Q
noncomputable def tBM (K:PySem.W.Frag)(T:String)(r:V->List V->Hp->VK->Prop)(to:TE)(t:TA):TE:=fun σ H Q=>to σ H fun x H1=>tyV K T x H1/\t σ H1 fun xs H2=>r x xs H2 Q
variable {o e:Expr}{es:List Expr}{to:TE}{t:TA}{name:Str}{apos cpos:Pos}{T id:String}{r:V->List V->Hp->VK->Prop}
theorem zgq (pa:PlainAttrs T)(slot:Slot T name id)(hty:typeOf (.builtin id)=pure (.type "method_descriptor"))(hm:MtR X id r)(ho:PE X o to)
  (hbase:attributeBase o name X.env (eval o X.env)=eval o X.env:=by rfl) (hline:(apos.endLine == cpos.line)=true:=by rfl):PE X (.Call (.Attribute o name apos) [] [] cpos) (tBM0 X.K T r to):=by
 intro pins s σ H Q I h
 refine wpAny_Call_method0_late hbase hline (thn (ho pins s σ H _ I h) fun v s1 ⟨x,H1,I1,r1,ty,q1⟩=>?_)
 obtain ⟨h1,h2⟩:=zmE I1 r1 ty
 exact ⟨T,id,pa,slot,hty,h1,h2,Calls.callWith_builtin rfl (PySem.evalArgs_none (hm pins s1 σ H1 x [] v [] Q I1 r1 .nil q1))⟩
theorem zcB (pa:PlainAttrs T)(slot:Slot T name id)(hty:typeOf (.builtin id)=pure (.type "method_descriptor"))(hm:MtR X id r)(ho:PE X o to)(ha:PA X (e :: es) t)
  (hbase:attributeBase o name X.env (eval o X.env)=eval o X.env:=by rfl)
  (hfew:((backTo cpos (starEach (e :: es) X.env)).all (fun x=>!x.1) && (backToKw cpos (keywordEach [] X.env)).all (fun x=>x.1.isSome)
   && decide ((e :: es).length + ([]:List Keyword).length + (if ([]:List Keyword).isEmpty then 0 else 1) < 30))=true:=by rfl)
  (hline:(apos.endLine == cpos.line)=true:=by rfl) (hs:starEach (e :: es) X.env=(false,eval e X.env) :: starEach es X.env:=by rfl) (hplain:(backTo cpos (starEach es X.env)).any (·.1)=false:=by rfl) :
  PE X (.Call (.Attribute o name apos) (e :: es) [] cpos) (tBM X.K T r to t):=by
 intro pins s σ H Q I h
 refine wpAny_Call_method_late hbase hfew hline rfl (thn (ho pins s σ H _ I h) fun v s1 ⟨x,H1,I1,r1,ty,q1⟩=>?_)
 obtain ⟨h1,h2⟩:=zmE I1 r1 ty
 refine ⟨T,id,pa,slot,hty,h1,h2,?_⟩
 have hA:=ha cpos pins s1 σ H1 _ I1 q1
 rw [hs] at hA ⊢
 refine Calls.callWith_builtin (by show (false || (backTo cpos (starEach es X.env)).any (·.1))=false;rw [hplain] <;> rfl) (Calls.evalArgs_plain ?_)
 exact thn hA fun us s2 ⟨vs,H2,I2,r2,q2⟩=>hm pins s2 σ H2 x vs v us Q I2 r1 r2 q2
end
end L2
namespace L2
open PySem PySem.Spec PyProof.Rows
noncomputable def MtM (X:Cx)(id:String)(r:V->List V->Hp->VK->Prop):Prop :=
 ∀ (pins:List (Addr×Obj)) (s:Shared) (σ:St) (H:Hp) (x:V) (xs:List V) (v:Value) (us:List Value) (Q:VK),Inv X pins σ H s->RelV x v->Vals xs us->r x xs H Q ->
  wpAny (model X.prog X.w) X.A (call (.builtin id) (v :: us)) (EP X pins σ Q) X.xe s
theorem Vals.one:∀ {x:V} {us:List Value},Vals [x] us->∃ u,us=[u]/\RelV x u
 | _,_,.cons r .nil=>⟨_,rfl,r⟩
theorem Vals.two:∀ {x y:V} {us:List Value},Vals [x,y] us->∃ u v,us=[u,v]/\RelV x u/\RelV y v
 | _,_,_,.cons r (.cons q .nil)=>⟨_,_,rfl,r,q⟩
theorem Vals.zero:∀ {us:List Value},Vals [] us->us=[]
 | _,.nil=>rfl
theorem Vals.dropLast {xs:List V}{us:List Value}(h:Vals xs us):Vals xs.dropLast us.dropLast:=by
 induction h with
 | nil=>exact .nil
 | cons r t ih =>
  cases t with
  | nil=>exact .nil
  | cons q t'=>exact .cons r ih
theorem Vals.eraseIdx:∀ {xs:List V} {us:List Value} (i:Nat),Vals xs us->Vals (xs.eraseIdx i) (us.eraseIdx i)
 | _,_,_,.nil=>.nil
 | _,_,0,.cons _ t=>t
 | _,_,i + 1,.cons r t=>.cons r (Vals.eraseIdx i t)
theorem Vals.reverse {xs:List V}{us:List Value}(h:Vals xs us):Vals xs.reverse us.reverse:=by
 induction h with
 | nil=>exact .nil
 | cons r t ih=>rw [List.reverse_cons,List.reverse_cons];exact Vals.append ih (.cons r .nil)
theorem Vals.rep {xs:List V}{us:List Value}(h:Vals xs us):∀ k:Nat,Vals (List.replicate k xs).flatten (List.replicate k us).flatten
 | 0=>.nil
 | k + 1=>by
  rw [List.replicate_succ,List.replicate_succ,List.flatten_cons,List.flatten_cons]
  exact Vals.append h (Vals.rep h k)
theorem zjh {α:Type}(l:List α):l.eraseIdx (l.length - 1)=l.dropLast:=by
 induction l with
 | nil=>rfl
 | cons a r ih =>
  cases r with
  | nil=>rfl
  | cons b r =>
   have e:(a :: b :: r).length - 1=((b :: r).length - 1) + 1:=by
    have h1:(a :: b :: r).length=r.length + 2:=rfl
    have h2:(b :: r).length=r.length + 1:=rfl
    omega
   rw [e,List.eraseIdx_cons_succ,ih]
   all_goals rfl
theorem zgF {α:Type}:∀ (l:List α) (i:Nat),(l.eraseIdx i).length<=l.length
 | [],_=>Nat.le_refl _
 | _ :: _,0=>Nat.le_succ _
 | _ :: r,i + 1=>Nat.succ_le_succ (zgF r i)
theorem zgQ (its:List Value):∀ (k:Nat) (acc:List Value),
  List.foldl (fun x1 x2=>x1 ++ x2) acc.toArray (List.replicate k its.toArray)=(acc ++ (List.replicate k its).flatten).toArray
 | 0,acc=>by simp
 | k + 1,acc=>by
  have e:acc.toArray ++ its.toArray=(acc ++ its).toArray:=by simp
  have e2:(acc ++ its) ++ (List.replicate k its).flatten=acc ++ (List.replicate (k + 1) its).flatten:=by
   rw [List.replicate_succ,List.flatten_cons,List.append_assoc]
  rw [← e2,← zgQ its k (acc ++ its),← e,List.replicate_succ,List.foldl_cons]
section
variable {X:Cx}{pins:List (Addr×Obj)}{σ:St}{H:Hp}{s:Shared}{l b:Addr}{xs ys zs:List V}
theorem Inv.lset {its its':List Value}{n:Nat}{f:Array Value->Array Value}{t':Nat}(I:Inv X pins σ H s)(hH:H l=some (.lst xs))
  (e:s.heap.get? l=some { cls:=.type "list",data:=.seq its.toArray n }) (hf:f its.toArray=its'.toArray) (hv:Vals ys its') (hz:ys.length<=sizeLine) :
  Inv X pins σ (upd H l (.lst ys)) { s with heap:=s.heap.update l (Obj.mapSeq f),toks:=t' }:=by
 have q:=PySem.IsL.update e f
 rw [hf] at q
 refine I.write (x:=l) (e:=l) (by rw [hH];exact trivial) (.inl rfl) (fun b' u hb hu=>(Heap.get?_update_other s.heap (Obj.mapSeq f) (Ne.symm hb)).trans hu) ⟨_,q⟩ ?_
 exact ⟨hz,its',_,hv,q⟩
theorem Inv.lnew {its:List Value}{t':Nat}(I:Inv X pins σ H s)(hv:Vals ys its)(hz:ys.length<=sizeLine) :
  Inv X pins σ (upd H s.heap.objs.size (.lst ys)) { s with heap:=s.heap.push { cls:=.type "list",data:=.seq its.toArray },toks:=t' } :=
 I.laid (fun _ _ q=>Heap.get?_push_of_some _ q) (Nat.le_refl _) ⟨hz,its,0,hv,Heap.get?_push_size _ rfl⟩
theorem Inv.fresh (I:Inv X pins σ H s):H s.heap.objs.size=none:=I.hok.fresh (Nat.le_refl _)
theorem Inv.lstM (I:Inv X pins σ H s)(hH:H l=some (.lst xs)):xs.length<=sizeLine/\∃ (its:List Value) (n:Nat),Vals xs its/\xs.length=its.length/\s.heap.get? l=some { cls:=.type "list",data:=.seq its.toArray n }:=by
 obtain ⟨z,its,n,r,e⟩:=I.hok l _ hH
 exact ⟨z,its,n,r,r.length,e⟩
theorem zfJ {n:Nat}(h:n<=sizeLine):Builtin.List.listTooLong n=false:=by
 unfold Builtin.List.listTooLong
 exact decide_eq_false (by omega)
end
section
variable {X:Cx}
noncomputable def rAppend:V->List V->Hp->VK->Prop:=fun x vs H Q=>∃ l xs y,x = .ref l/\vs=[y]/\H l=some (.lst xs)/\xs.length < sizeLine/\Q .non (upd H l (.lst (xs ++ [y])))
theorem zbj:MtM X "list.append" rAppend:=by
 intro pins s σ H x vs v us Q I rx rv h
 obtain ⟨l,xs,y,rfl,rfl,hH,hz,q⟩:=h
 cases rx
 obtain ⟨u,rfl,ru⟩:=rv.one
 obtain ⟨z,its,n,r,hl,e⟩:=I.lstM hH
 refine call_meets F.slot_list_append ⟨_,e,rfl⟩ F.entry_list_append (F.args_list_append_2 _ _) (PySem.list_append l its.toArray n u (by rw [List.size_toArray];omega)) ⟨e,?_⟩
 refine ⟨.non,_,I.lset (its':=its ++ [u]) hH e (by simp) (r.append (.cons ru .nil)) ?_,rfl,q⟩
 rw [List.length_append,List.length_singleton]
 omega
noncomputable def rExtend:V->List V->Hp->VK->Prop:=fun x vs H Q=>∃ l b xs zs,x = .ref l/\vs=[.ref b]/\H l=some (.lst xs)/\H b=some (.lst zs)/\xs.length + zs.length<=sizeLine/\Q .non (upd H l (.lst (xs ++ zs)))
theorem zkv:MtM X "list.extend" rExtend:=by
 intro pins s σ H x vs v us Q I rx rv h
 obtain ⟨l,b,xs,zs,rfl,rfl,hH,hB,hz,q⟩:=h
 cases rx
 obtain ⟨u,rfl,ru⟩:=rv.one
 cases ru
 obtain ⟨z,its,n,r,hl,e⟩:=I.lstM hH
 obtain ⟨z2,its2,n2,r2,hl2,e2⟩:=I.lstM hB
 have hsz:its.toArray.size + its2.toArray.size<=sizeLine:=by rw [List.size_toArray,List.size_toArray];omega
 have hlong:¬ (!its.toArray.isEmpty && Builtin.List.listTooLong (its.toArray.size + its2.toArray.size))=true:=by
  rw [zfJ hsz,Bool.and_false]
  exact Bool.false_ne_true
 refine call_meets F.slot_list_extend ⟨_,e,rfl⟩ F.entry_list_extend (F.args_list_extend_2 _ _)
  (AutoSeq1.list_extend_list_list_0 l its.toArray n b its2.toArray n2 hlong (by rw [List.size_toArray];omega) (by omega)) ⟨e,e2,?_⟩
 refine ⟨.non,_,I.lset (its':=its ++ its2) hH e (by simp) (r.append r2) ?_,rfl,q⟩
 rw [List.length_append]
 omega
noncomputable def rPop:V->List V->Hp->VK->Prop:=fun x vs H Q=>∃ l xs y,x = .ref l/\vs=[]/\H l=some (.lst xs)/\xs[xs.length - 1]?=some y/\Q y (upd H l (.lst xs.dropLast))
theorem zgz:MtM X "list.pop" rPop:=by
 intro pins s σ H x vs v us Q I rx rv h
 obtain ⟨l,xs,y,rfl,rfl,hH,hy,q⟩:=h
 cases rx
 have hus:=rv.zero
 subst hus
 obtain ⟨z,its,n,r,hl,e⟩:=I.lstM hH
 obtain ⟨u,hu,ru⟩:=r.get hy
 have hy':its.toArray[its.toArray.size - 1]?=some u:=by
  show its.toArray[its.length - 1]?=some u
  rw [← Array.getElem?_toList,← hl]
  exact hu
 refine call_meets F.slot_list_pop ⟨_,e,rfl⟩ F.entry_list_pop (F.args_list_pop_1 _) (MeetsSeq.list_pop_last l its.toArray n u hy' (by rw [List.size_toArray];omega)) ⟨e,?_⟩
 refine ⟨y,_,I.lset (its':=its.dropLast) hH e ?_ r.dropLast ?_,ru,q⟩
 ·show its.toArray.eraseIdxIfInBounds (its.toArray.size - 1)=its.dropLast.toArray
  rw [List.size_toArray,List.eraseIdxIfInBounds_toArray,zjh]
 ·rw [List.length_dropLast]
  omega
noncomputable def rPopAt:V->List V->Hp->VK->Prop:=fun x vs H Q=>∃ l xs i k y,x = .ref l/\vs=[.int i]/\H l=some (.lst xs)/\-(2 ^ 63)<=i/\i < 2 ^ 63/\seqIndex? i xs.length=some k/\xs[k]?=some y/\Q y (upd H l (.lst (xs.eraseIdx k)))
theorem zl9:MtM X "list.pop" rPopAt:=by
 intro pins s σ H x vs v us Q I rx rv h
 obtain ⟨l,xs,i,k,y,rfl,rfl,hH,h1,h2,hk,hy,q⟩:=h
 cases rx
 obtain ⟨u,rfl,ru⟩:=rv.one
 obtain ⟨t,rfl⟩:=ru
 obtain ⟨z,its,n,r,hl,e⟩:=I.lstM hH
 obtain ⟨w,hw,rw'⟩:=r.get hy
 refine call_meets F.slot_list_pop ⟨_,e,rfl⟩ F.entry_list_pop (F.args_list_pop_2 _ _)
  (MeetsSeq.list_pop_at l its.toArray n i t k w (fitsIndex_both h1 h2) (by rw [List.size_toArray,← hl];exact hk) (by rw [← Array.getElem?_toList];exact hw) (by rw [List.size_toArray];omega)) ⟨e,?_⟩
 refine ⟨y,_,I.lset (its':=its.eraseIdx k) hH e ?_ (r.eraseIdx k) ?_,rw',q⟩
 ·show its.toArray.eraseIdxIfInBounds k=(its.eraseIdx k).toArray
  rw [List.eraseIdxIfInBounds_toArray]
 ·have:=zgF xs k
  omega
noncomputable def rCat:R2:=fun x y H Q=>∃ l b xs zs,x = .ref l/\y = .ref b/\H l=some (.lst xs)/\H b=some (.lst zs)/\xs.length + zs.length<=sizeLine/\∀ p,H p=none->Q (.ref p) (upd H p (.lst (xs ++ zs)))
theorem zoS:OpR X (binaryOp .Add) rCat:=by
 intro pins s σ H x y v u Q I rx ry h
 obtain ⟨l,b,xs,zs,rfl,rfl,hH,hB,hz,q⟩:=h
 cases rx
 cases ry
 obtain ⟨z,its,n,r,hl,e⟩:=I.lstM hH
 obtain ⟨z2,its2,n2,r2,hl2,e2⟩:=I.lstM hB
 refine PySem.P.add_list e e2 ?_ (by rw [List.size_toArray,List.size_toArray];omega)
 have ea:its.toArray ++ its2.toArray=(its ++ its2).toArray:=by simp
 rw [ea]
 exact ⟨.ref _,_,I.lnew (t':=s.toks) (r.append r2) (by rw [List.length_append];omega),rfl,q _ I.fresh⟩
noncomputable def rRep:R2:=fun x y H Q=>∃ l k xs,x = .ref l/\y = .int k/\H l=some (.lst xs)/\-(2 ^ 63)<=k/\k < 2 ^ 63/\xs.length * k.toNat<=sizeLine /\
 ∀ p,H p=none->Q (.ref p) (upd H p (.lst (List.replicate k.toNat xs).flatten))
theorem znX {α:Type}(xs:List α)(k:Nat):(List.replicate k xs).flatten.length=k * xs.length:=by
 induction k with
 | zero=>simp
 | succ k ih=>rw [List.replicate_succ,List.flatten_cons,List.length_append,ih,Nat.succ_mul,Nat.add_comm]
theorem ze5:OpR X (binaryOp .Mult) rRep:=by
 intro pins s σ H x y v u Q I rx ry h
 obtain ⟨l,k,xs,rfl,rfl,hH,h1,h2,hz,q⟩:=h
 cases rx
 obtain ⟨t,rfl⟩:=ry
 obtain ⟨z,its,n,r,hl,e⟩:=I.lstM hH
 have hlen:its.toArray.size * k.toNat<=sizeLine:=by rw [List.size_toArray,← hl];exact hz
 have hcap:¬ its.toArray.size * k.toNat > (2 ^ 63 - 1) / 8:=by
  have:(sizeLine:Nat)<=(2 ^ 63 - 1) / 8:=by decide
  omega
 have hfit:¬ (!Builtin.List.listFitsIndex k)=true:=by
  rw [fitsIndex_both h1 h2]
  exact Bool.false_ne_true
 have hlong:¬ Builtin.List.listTooLong (its.toArray.size * k.toNat)=true:=by
  rw [zfJ hlen]
  exact Bool.false_ne_true
 have hnew:List.foldl (fun x1 x2=>x1 ++ x2) #[] (List.replicate (if its.toArray.isEmpty=true then 0 else k.toNat) its.toArray)=(List.replicate k.toNat its).flatten.toArray:=by
  have f0:∀ m:Nat,List.foldl (fun x1 x2=>x1 ++ x2) #[] (List.replicate m its.toArray)=(List.replicate m its).flatten.toArray:=fun m=>by
   have:=zgQ its m []
   rw [List.nil_append] at this
   exact this
  rw [f0]
  cases its with
  | nil=>simp
  | cons a r'=>rw [if_neg (by simp)]
 refine wpAny_binaryOp_repeat_ref (T:="list") (U:="int") (by decide) ⟨_,e,rfl⟩ (fun s'=>typeIs_int s' k t) noFill_list_mul F.fills_int_mul F.slot_int_rmul repeat_list F.slot_int_index.lookup
  (call_meets F.slot_int_rmul (typeIs_int s k t) F.entry_int_rmul (F.args_int_rmul_2 _ _) (int___rmul___int_list k t l its.toArray n)
   ⟨e,rfl,⟨_,e,rfl⟩,call_meets F.slot_list_mul ⟨_,e,rfl⟩ F.entry_list_mul (F.args_list_mul_2 _ _) (AutoListH.list___mul___list_int_3 l its.toArray n k t hfit hcap hlong) ⟨e,?_⟩⟩)
 rw [hnew]
 exact ⟨.ref _,_,I.lnew (t':=s.toks) (r.rep k.toNat) (by rw [znX,Nat.mul_comm];exact hz),rfl,q _ I.fresh⟩
end
end L2
namespace Att
open PySem PySem.W PySem.Calls PyProof.Rows
theorem zeE {P:Params}{h:Heap}:∀ (ns:List Int) (vs:List Value),WellAll P h vs (ns.map WData.int)->IntsAre vs ns:=by
 intro ns
 induction ns with
 | nil =>
  intro vs w
  rw [List.map_nil] at w
  cases w
  exact .nil
 | cons n ns ih =>
  intro vs w
  rw [List.map_cons] at w
  cases w with
  | cons a b =>
   cases a
   exact .cons _ _ (ih _ b)
theorem zjV {l:OpenLaw}{n:Nat}(hn:l.most=some n){P:Params}{h:Heap}{args:List WData}{vals:List Value}
  (hpre:l.row.toRowW.claim.pre args=true) (hwl:WellAll P h vals args) :
  ∃ a vs ns,vals=[Value.ref a]/\args=[WData.list (ns.map WData.int)]/\h.get? a=some { cls:=.type "list",data:=.seq vs.toArray }/\IntsAre vs ns/\ns.length<=n:=by
 have hsh:WShape.hasAll [] args [.list .int]=true:=(pre_splitW hpre).1
 have hc:l.pre.holds [] { args:=args }=true:=(pre_splitW hpre).2
 obtain ⟨d,r,rfl,h1,h2⟩:=hasAllW_cons hsh
 obtain rfl:=hasAllW_nil h2
 obtain ⟨xs,rfl,h3⟩:=hasW_list h1
 obtain ⟨ns,rfl⟩:=items_int h3
 have hlen:ns.length<=n:=by
  unfold OpenLaw.pre at hc
  have h4:(WTm.not (.lt (.lit (.int (n:Int))) (.len (.arg 0)))).holds [] { args:=[.list (ns.map .int)] }=true:=by
   have h4:=(holds_andW hc).1
   rw [hn] at h4
   exact h4
  have h5:=condW_of h4 (w_not (w_lt w_lit (w_len_list (w_arg rfl))))
  rw [List.length_map] at h5
  refine Nat.le_of_not_lt fun q=>?_
  have q':(n:Int) < ((ns.length:Nat):Int):=by omega
  first
   | (rw [decide_eq_true q'] at h5;exact absurd h5 (by decide))
   | (simp at h5;omega)
 cases hwl with
 | cons w1 w2 =>
  cases w2
  cases w1 with
  | list ho hall=>exact ⟨_,_,ns,rfl,rfl,ho,zeE ns _ hall,hlen⟩
theorem zj1 (l:OpenLaw)(args:List WData):l.row.toRowW.claim.post args (.bool true) args=true :=
 postW_of (r:=l.row.toRowW) (X:=(true == true))
  (show WShape.has [] (.bool true) .bool=true by first | rfl | decide | simp [WShape.has,WShape.arms,WShape.armsAll])
  (show (WTm.eq .res (.lit (.bool true))).value [] { args:=args,res:=some (.bool true),after:=args }=some (.bool (true == true)) from w_eq_bool (w_res rfl) w_lit) rfl
theorem zhV {l:OpenLaw}{n:Nat}{q:Program}{loose:List Str}{XP:(Str->Option Value)->Heap->Prop}{YP:World->Heap->Prop}{d:DefRec}
  (hn:l.most=some n) (hdf:d.params.defaults=[])
  (call:∀ (w:World) (s₀ s₁:Shared) (mg mb:Str->Option Value) (fa:Addr) (o:Obj) (pm cd doc:Value) (a:Addr) (vs:List Value) (ns:List Int),
   Ground q loose [] XP w s₀ mg mb s₁.heap->YP w s₁.heap ->
   s₁.heap.get? fa=some o->o.data = .func (docDef d.name d.params d.body d.scope pm cd doc)->s₁.heap.CodeRec cd d.name->mg d.name=some (.ref fa) ->
   s₁.heap.get? a=some { cls:=.type "list",data:=.seq vs.toArray }->IntsAre vs ns->ns.length<=n->s₁.gens = #[] ->
   codeAny (model l.prog w) callerA (.call (.ref fa) ⟨[.ref a],[]⟩) (fun r s'=>r = .ok (.ret (.bool true))/\OldK s₁.heap s'.heap/\s'.os=s₁.os/\AllBare s'.gens) s₁) :
  WalkO q loose XP YP l.row.toRowW d [] (fun f vs=>PySem.call f vs):=by
 intro w s₀ s₁ mg mb G Y fa o pm cd doc dV kV ho hd hcd hD hmg hg args vals as hpre hlay hrd hwl hlo
 obtain rfl:dV = .none:=Dflts.none hD hdf
 obtain rfl:kV = .none:=Dflts.noKw hD
 obtain ⟨a,vs,ns,rfl,rfl,hobj,hints,hlen⟩:=zjV hn hpre hwl
 refine enter_call (codeAny_mono (call w s₀ s₁ mg mb fa o pm cd doc a vs ns G Y ho (fd_plain hd) hcd hmg hobj hints hlen hg) fun r s' hq=>?_)
 obtain ⟨rfl,h2,h3,h4⟩:=hq
 exact ⟨.inl ⟨.bool true,.bool true,[],rfl,fun _=>rfl,.bool true,zj1 l _,fun _=>⟨List.Pairwise.nil,fun _ hm=>(nomatch hm)⟩⟩,h2,h3,h4⟩
end Att
namespace L2
open PySem PySem.Spec PyProof.Rows
theorem zgb:∀ {vs:List Value} {ns:List Int},IntsAre vs ns->Vals (ns.map V.int) vs
 | _,_,.nil=>.nil
 | _,_,.cons n t h=>.cons ⟨t,rfl⟩ (zgb h)
end L2
namespace L2
open PySem PySem.Spec PyProof.Rows
noncomputable abbrev CX0:CXT:=fun _ _ _ _ _ _=>False
noncomputable abbrev E0:XK:=fun _ _ _=>False
theorem pass0 {X:Cx}:Passes CX0 X E0:=fun _ _ _ _ _ _ _ h=>h.elim
structure Fun (K:PySem.W.Frag)(x qual:Str)(st:Stmt)(f:Addr)(fd:FuncData):Prop where
 ex:∃ (oc:Value) (od:Option Addr) (kV doc pm:Value) (an:Option Addr) (cdv ct:Value) (osl:Array (Option Value)),
  fd=PySem.W.fnOf x qual (zam st) (zak st) (zad st) .none kV doc pm an cdv ct/\K.lookup f=some ⟨oc,od,.func fd,osl⟩/\PySem.W.codeIn K cdv qual=true
 kp:PySem.W.keepIn K (.ref f)=true
section
variable {P:Program}{w:World}{K:PySem.W.Frag}{mg:Str->Option Value}{base:Heap}
theorem Fun.ok {x qual:Str}{st:Stmt}{f:Addr}{fd:FuncData}{N ps:List Str}{k:Nat}{sp:Sp}(F:Fun K x qual st f fd)(S:FnScope N ps (zad st))(len:∀ vs H Q E,sp vs H Q E->vs.length=ps.length)
  (hbody:∀ (cdv:Value) (A:Around) (outer:List Env) (s:Shared) (H:Hp) (vs:List V) (Q:VK) (E:XK),Room k (A.deeper (envOfC qual (zad st) s.heap.objs.size f cdv))->sp vs H Q E ->
   ∃ t,PSs (cxOf CX0 P w K mg base N qual (zad st) f cdv A outer s H E).nox (zak st) t/\t { nx:=fun _ H'=>Q .non H',rt:=Q } (start N vs) H):FnOk P w K mg base CX0 (k + 1) f fd ps sp:=by
 obtain ⟨oc,od,kV,doc,pm,an,cdv,ct,osl,rfl,lk,hcd⟩:=F.ex
 refine zpj lk hcd S len fun A outer s H vs Q E hr hsp=>?_
 obtain ⟨t,h,q⟩:=hbody cdv A outer s H vs Q E hr hsp
 exact ⟨t,h.nox,q⟩
theorem Fun.binds {x qual:Str}{st:Stmt}{f:Addr}{fd:FuncData}{ps:List Str}(F:Fun K x qual st f fd)
  (h:∀ (kV doc pm:Value) (an:Option Addr) (cdv ct:Value) (us:List Value),us.length=ps.length->bindArgs (PySem.W.fnOf x qual (zam st) (zak st) (zad st) .none kV doc pm an cdv ct) ⟨us,[]⟩=pure (ps.zip us)):Binds K fd ps []:=by
 obtain ⟨oc,od,kV,doc,pm,an,cdv,ct,osl,rfl,lk,hcd⟩:=F.ex
 exact .all (h kV doc pm an cdv ct)
theorem zat {x qual:Str}{st:Stmt}{f:Addr}{oc:Value}{od an:Option Addr}{osl:Array (Option Value)}{kV doc pm cdv ct:Value}(l:K.lookup f=some ⟨oc,od,.func (PySem.W.fnOf x qual (zam st) (zak st) (zad st) .none kV doc pm an cdv ct),osl⟩)
  (c:PySem.W.codeIn K cdv qual=true) (k:PySem.W.keepIn K (.ref f)=true):Fun K x qual st f (PySem.W.fnOf x qual (zam st) (zak st) (zad st) .none kV doc pm an cdv ct):=⟨⟨oc,od,kV,doc,pm,an,cdv,ct,osl,rfl,l,c⟩,k⟩
end
section
variable {X:Cx}
theorem pv (i:Nat){x:Str}{pos:Pos}(hN:X.N[i]?=some x:=by rfl)(hv:Vis X.env.scope x:=by first | exact Or.inl rfl | exact Or.inr (Or.inl rfl) | exact Or.inr (Or.inr rfl))(hd:(x == ("__debug__" : Str))=false:=by decide)
  (hcd:(x == ("__classdict__" : Str))=false:=by decide):PE X (.Name x pos) (tVar i):=zmL hN hv hd hcd
end
theorem ite2 {c A B:Prop}[Decidable c](h1:c->A)(h2:¬ c->B):if c then A else B:=by
 by_cases h:c
 ·rw [if_pos h]
  exact h1 h
 ·rw [if_neg h]
  exact h2 h
noncomputable def Same (H H':Hp):Prop:=∀ b o,H b=some o->H' b=some o
theorem Same.refl (H:Hp):Same H H:=fun _ _ h=>h
theorem Same.trans {H H1 H2:Hp}(a:Same H H1)(b:Same H1 H2):Same H H2:=fun c o h=>b c o (a c o h)
theorem Same.free {H H':Hp}(e:Same H H'){l:Addr}(h:H' l=Option.none):H l=Option.none:=by
 cases q:H l with
 | none=>rfl
 | some o =>
  rw [e l o q] at h
  cases h
theorem Same.seq {K:PySem.W.Frag}{H H':Hp}{a:Addr}{xs:List V}(e:Same H H')(h:SqL K H a xs):SqL K H' a xs:=by
 rcases h with (h | ⟨o,h⟩) | h
 ·exact .inl (.inl (e _ _ h))
 ·exact .inl (.inr ⟨o,e _ _ h⟩)
 ·exact .inr h
end L2
namespace L2
open PySem PySem.Spec PyProof.Rows
section
variable {κ:Type}[DecidableEq κ]
noncomputable def valV (kvs:List (κ×V))(k:κ):Option V:=(kvs.find? fun kv=>decide (kv.1=k)).map (·.2)
noncomputable def putK (kvs:List (κ×V))(k:κ)(v:V):List (κ×V) :=
 if (kvs.any fun kv=>decide (kv.1=k))=true then kvs.map (fun kv=>if kv.1=k then (kv.1,v) else kv) else kvs ++ [(k,v)]
theorem zdS {p:κ×V}{r:List (κ×V)}{k:κ}(e:p.1=k):valV (p :: r) k=some p.2:=by simp [valV,List.find?_cons,e]
theorem zdT {p:κ×V}{r:List (κ×V)}{k:κ}(e:¬ p.1=k):valV (p :: r) k=valV r k:=by simp [valV,List.find?_cons,e]
theorem zhI (kvs:List (κ×V))(k:κ)(v:V):(putK kvs k v).length<=kvs.length + 1:=by
 unfold putK
 split
 ·rw [List.length_map];omega
 ·rw [List.length_append,List.length_cons,List.length_nil];omega
theorem RelO.getD {o:Option V}{u:Option Value}{d:V}{d':Value}(r:RelO o u)(rd:RelV d d'):RelV (o.getD d) (u.getD d'):=by
 cases o with
 | none=>cases u with
  | none=>exact rd
  | some _=>exact (show False from r).elim
 | some _=>cases u with
  | none=>exact (show False from r).elim
  | some _=>exact r
theorem KV.val {kvs:List (κ×V)}{vs:List (κ×Value)}(r:KV kvs vs)(k:κ):RelO (valV kvs k) (valueAt vs k):=by
 unfold KV at r
 induction r with
 | nil=>exact True.intro
 | @cons p q ps qs h t ih =>
  obtain ⟨h1,h2⟩:=h
  by_cases e:p.1=k
  ·have e':q.1=k:=h1.symm.trans e
   have b:valueAt (q :: qs) k=some q.2:=by simp [valueAt,List.find?_cons,e']
   rw [zdS e,b];exact h2
  ·have e':¬ q.1=k:=fun z=>e (h1.trans z)
   have b:valueAt (q :: qs) k=valueAt qs k:=by simp [valueAt,List.find?_cons,e']
   rw [zdT e,b];exact ih
theorem KV.any {kvs:List (κ×V)}{vs:List (κ×Value)}(r:KV kvs vs)(k:κ):(kvs.any fun kv=>decide (kv.1=k))=vs.any fun kv=>decide (kv.1=k):=by
 unfold KV at r
 induction r with
 | nil=>rfl
 | cons h t ih=>rw [List.any_cons,List.any_cons,ih,h.1]
theorem KV.repl {kvs:List (κ×V)}{vs:List (κ×Value)}(r:KV kvs vs)(k:κ){y:V}{u:Value}(ry:RelV y u) :
  KV (kvs.map fun kv=>if kv.1=k then (kv.1,y) else kv) (vs.map fun kv=>if kv.1=k then (kv.1,u) else kv):=by
 unfold KV at r ⊢
 induction r with
 | nil=>exact .nil
 | @cons p q ps qs h t ih =>
  rw [List.map_cons,List.map_cons]
  refine .cons ?_ ih
  obtain ⟨h1,h2⟩:=h
  by_cases e:p.1=k
  ·rw [if_pos e,if_pos (h1.symm.trans e)];exact ⟨h1,ry⟩
  ·rw [if_neg e,if_neg (fun z=>e (h1.trans z))];exact ⟨h1,h2⟩
theorem KV.put {kvs:List (κ×V)}{vs:List (κ×Value)}(r:KV kvs vs)(k:κ){y:V}{u:Value}(ry:RelV y u):KV (putK kvs k y) (stored vs k u):=by
 unfold putK stored
 rw [r.any k]
 by_cases e:(vs.any fun kv=>decide (kv.1=k))=true
 ·rw [if_pos e,if_pos e];exact r.repl k ry
 ·rw [if_neg e,if_neg e];exact Paired.snoc r ⟨rfl,ry⟩
theorem KV.length {kvs:List (κ×V)}{vs:List (κ×Value)}(r:KV kvs vs):kvs.length=vs.length:=Paired.length r
end
theorem zkN {P:Program}{w:World}{k:Key}{u:Value}(r:RelV (kV k) u):(zaV P w).is k u=true:=by
 cases k with
 | inl i=>obtain ⟨t,e⟩:=(show ∃ t,u=Value.int i t from r);subst e;exact zhF P w i t
 | inr x=>obtain ⟨t,e⟩:=(show ∃ t,u=Value.str x t from r);subst e;exact zhE P w x t
theorem zgJ {P:Program}{w:World}:∀ {ks:List Key} {us:List Value},Vals (ks.map kV) us->ItemsAre (zaV P w) ks us
 | [],_,r=>by rw [List.map_nil] at r;cases r;exact .nil
 | k :: ks,_,r=>by
  rw [List.map_cons] at r
  cases r with
  | cons h t=>exact .cons (zkN h) (zgJ t)
noncomputable abbrev KT (H:Hp):List (List Key×V)->List (List Key×Addr×Value)->Prop:=Paired fun p q=>p.1=q.1/\H q.2.1=some (.tup (p.1.map kV))/\RelV p.2 q.2.2
theorem KT.val {H:Hp}{kvs:List (List Key×V)}{xs:List (List Key×Addr×Value)}(r:KT H kvs xs)(k:List Key):RelO (valV kvs k) ((atKey xs k).map (·.2)):=by
 induction r with
 | nil=>exact True.intro
 | @cons p q ps qs h t ih =>
  obtain ⟨h1,_,h2⟩:=h
  by_cases e:p.1=k
  ·have e':q.1=k:=h1.symm.trans e
   have b:atKey (q :: qs) k=some q.2:=by simp [atKey,List.find?_cons,e']
   rw [zdS e,b];exact h2
  ·have e':¬ q.1=k:=fun z=>e (h1.trans z)
   have b:atKey (q :: qs) k=atKey qs k:=by simp [atKey,List.find?_cons,e']
   rw [zdT e,b];exact ih
section
variable {P:Program}{w:World}{H:Hp}{h:Heap}{a:Addr}
theorem zoE {u:HO}(ok:HOk P w H h)(e:Rd H a u):ObjOk P w H h a u:=e.ok ok
theorem zmr {kvs:List (Key×V)}(ok:HOk P w H h)(e:Rd H a (.dK kvs)):kvs.length<=sizeLine/\(a == sysModules)=false/\∃ vs,KV kvs vs/\h.DictOf (zaV P w) a vs :=
 show ObjOk P w H h a (.dK kvs) from zoE ok e
theorem zkL {ks:List Key}(ok:HOk P w H h)(e:H a=some (.tup (ks.map kV))):(tupleKind (zaV P w)).is h ks a:=by
 obtain ⟨_,its,r,o,h1,h2,n,h3⟩:=(show ObjOk P w H h a (.tup (ks.map kV)) from ok a _ e)
 exact ⟨o,its.toArray,n,h1,h2,h3,by simpa using zgJ r⟩
theorem zod {kvs:List (List Key×V)}(ok:HOk P w H h)(e:Rd H a (.dT kvs)):kvs.length<=sizeLine/\(a == sysModules)=false /\
  ∃ xs,KT H kvs xs/\h.DictOfH (tupleKind (zaV P w)) a xs:=by
 obtain ⟨z,y,xs,r,o,es,ep,h1,h2,h3,h4,h5⟩:=(show ObjOk P w H h a (.dT kvs) from zoE ok e)
 refine ⟨z,y,xs,r,o,es,ep,h1,h2,h3,h4,fun x hx=>?_,h5⟩
 have all:∀ {l:List (List Key×V)} {m:List (List Key×Addr×Value)},KT H l m->∀ x ∈ m,(tupleKind (zaV P w)).is h x.1 x.2.1:=by
  intro l m q
  induction q with
  | nil=>intro x hx;exact nomatch hx
  | @cons p q ps qs hq t ih =>
   intro x hx
   rcases List.mem_cons.mp hx with e | hx
   ·subst e
    exact zkL ok (by rw [← hq.1];exact hq.2.1)
   ·exact ih x hx
 exact all r x hx
end
noncomputable def DGet (H:Hp)(a:Addr)(y:V)(r:Option V):Prop :=
 (∃ kvs k,Rd H a (.dK kvs)/\y=kV k/\r=valV kvs k)∨∃ kvs k b,Rd H a (.dT kvs)/\y = .ref b/\H b=some (.tup (k.map kV))/\r=valV kvs k
theorem DGet.k {H:Hp}{a:Addr}{kvs:List (Key×V)}{k:Key}(e:H a=some (.dK kvs)):DGet H a (kV k) (valV kvs k):=.inl ⟨kvs,k,.inl e,rfl,rfl⟩
section
variable {X:Cx}{pins:List (Addr×Obj)}{σ:St}{H:Hp}{s:Shared}{a:Addr}{y v:V}{u r:Value}{o:Option V}{A:Around}{E:Value->Shared->Prop}
theorem Inv.big (I:Inv X pins σ H s):sysModules < s.heap.objs.size:=by
 have h:mainGlobals < s.heap.objs.size:=(I.mod.glob.keeps I.bk).lt
 exact Nat.lt_trans (by decide) h
theorem zpl {P:Program}{w:World}{H':Hp}{h':Heap}{kvs:List (Key×V)}{vs:List (Key×Value)}(z:kvs.length<=sizeLine)(hd:(a == sysModules)=false)(rel:KV kvs vs)(dd:h'.DictOf (zaV P w) a vs) :
  ObjOk P w H' h' a (.dK kvs):=⟨z,hd,vs,rel,dd⟩
end
section
variable {X:Cx}{pins:List (Addr×Obj)}{σ:St}{H:Hp}{s:Shared}{a:Addr}{kvs:List (Key×V)}{k:Key}{u:Value}{A:Around}{E:Value->Shared->Prop}
theorem zpH {Q:Value->Shared->Prop}(I:Inv X pins σ H s)(e:Rd H a (.dK kvs))(h:∀ t s',Inv X pins σ H s'->Q (.int kvs.length t) s'):wpAny (model X.prog X.w) A (call (.builtin "len") [.ref a]) Q E s:=by
 obtain ⟨z,hd,vs,rel,dd⟩:=zmr I.hok e
 refine call_len_dict hd dd (by rw [← rel.length];rw [sizeLine_eq] at z;omega) ?_
 rw [← rel.length]
 exact h _ _ (I.tok _)
end
theorem zms {P:Program}{w:World}{H:Hp}(h:Heap)(hb:sysModules < h.objs.size):ObjOk P w H (h.push { cls:=.type "dict",data:=.dict #[] }) h.objs.size (.dK []) :=
 ⟨Nat.zero_le _,beq_eq_false_iff_ne.mpr (Ne.symm (Nat.ne_of_lt hb)),[],.nil,Heap.DictOf.new h⟩
noncomputable def zmH:TE:=fun _ H Q=>∀ p,H p=none->Q (.ref p) (upd H p (.dK []))
section
variable {X:Cx}{pos:Pos}
theorem zlO:PE X (.Dict [] [] pos) zmH:=fun pins s σ H Q I h =>
 wpAny_Dict_empty ⟨.ref s.heap.objs.size,_,I.laid (a:=s.heap.objs.size) (o:=.dK []) (t':=s.toks) (fun _ _ q=>Heap.get?_push_of_some _ q) (Nat.le_refl _) (zms s.heap I.big),rfl,h _ (I.hok.fresh (Nat.le_refl _))⟩
end
noncomputable def zcZ (kvs more:List (Key×V)):List (Key×V):=more.foldl (fun acc kv=>putK acc kv.1 kv.2) kvs
theorem KV.merge:∀ {more:List (Key×V)} {rs:List (Key×Value)} {kvs:List (Key×V)} {vs:List (Key×Value)},KV more rs->KV kvs vs->KV (zcZ kvs more) (merged vs rs):=by
 intro more rs kvs vs r
 unfold KV at r
 induction r generalizing kvs vs with
 | nil=>intro q;exact q
 | @cons p q ps qs h t ih =>
  intro r0
  have e:KV (putK kvs p.1 p.2) (stored vs q.1 q.2):=by
   have:=r0.put p.1 h.2
   rw [← h.1];exact this
  exact ih e
theorem zdo:∀ (more kvs:List (Key×V)),(zcZ kvs more).length<=kvs.length + more.length
 | [],kvs=>by show kvs.length<=kvs.length + 0;omega
 | p :: r,kvs=>by
  have h1:=zdo r (putK kvs p.1 p.2)
  have h2:=zhI kvs p.1 p.2
  show (zcZ (putK kvs p.1 p.2) r).length<=_
  rw [List.length_cons];omega
structure M1 (X:Cx)(o:Expr)(m:Str)(apos:Pos)(e:Expr)(cpos:Pos):Prop where
 base:attributeBase o m X.env (eval o X.env)=eval o X.env
 few:((backTo cpos (starEach [e] X.env)).all (fun x=>!x.1) && (backToKw cpos (keywordEach [] X.env)).all (fun x=>x.1.isSome)
  && decide (([e]:List Expr).length + ([]:List Keyword).length + (if ([]:List Keyword).isEmpty then 0 else 1) < 30))=true
 line:(apos.endLine == cpos.line)=true
 trees:backTo cpos (starEach [e] X.env)=[(false,eval e X.env)]
structure M2 (X:Cx)(o:Expr)(m:Str)(apos:Pos)(e f:Expr)(cpos:Pos):Prop where
 base:attributeBase o m X.env (eval o X.env)=eval o X.env
 few:((backTo cpos (starEach [e,f] X.env)).all (fun x=>!x.1) && (backToKw cpos (keywordEach [] X.env)).all (fun x=>x.1.isSome)
  && decide (([e,f]:List Expr).length + ([]:List Keyword).length + (if ([]:List Keyword).isEmpty then 0 else 1) < 30))=true
 line:(apos.endLine == cpos.line)=true
 trees:backTo cpos (starEach [e,f] X.env)=[(false,eval e X.env),(false,eval f X.env)]
noncomputable def IsD (H:Hp)(a:Addr):Prop:=(∃ kvs,Rd H a (.dK kvs))∨∃ kvs,Rd H a (.dT kvs)
theorem zmV {X:Cx}{pins:List (Addr×Obj)}{σ:St}{H:Hp}{s:Shared}{a:Addr}(I:Inv X pins σ H s)(d:IsD H a) :
  s.TypeIs (.ref a) "dict"/\(∀ b,Value.ref a = .ref b->∃ ob,s.heap.get? b=some ob/\ob.dict=none)/\(a == sysModules)=false:=by
 rcases d with ⟨kvs,e⟩ | ⟨kvs,e⟩
 ·obtain ⟨_,hd,vs,_,dd⟩:=zmr I.hok e
  refine ⟨dd.typeIs,fun b q=>?_,hd⟩
  cases q
  obtain ⟨ob,_,_,h1,h2,_⟩:=dd
  exact ⟨ob,h1,h2.2.1⟩
 ·obtain ⟨_,hd,xs,_,dd⟩:=zod I.hok e
  refine ⟨dd.typeIs,fun b q=>?_,hd⟩
  cases q
  obtain ⟨ob,_,_,h1,h2,_⟩:=dd
  exact ⟨ob,h1,h2.2.1⟩
section
variable {X:Cx}{pins:List (Addr×Obj)}{σ:St}{H:Hp}{s:Shared}{a:Addr}{y d:V}{u r:Value}{o:Option V}{A:Around}{E:Value->Shared->Prop}
theorem zpo {Q:Value->Shared->Prop}(hu:A.units + 1 < cLine)(I:Inv X pins σ H s)(g:DGet H a y o)(ry:RelV y u)(h:∀ w' s',Inv X pins σ H s'->RelV (o.getD .non) w'->Q w' s') :
  wpAny (model X.prog X.w) A (call (.builtin "dict.get") [.ref a,u]) Q E s:=by
 rcases g with ⟨kvs,k,e,ey,l⟩ | ⟨kvs,k,b,e,ey,eb,l⟩
 ·subst ey
  obtain ⟨z,hd,vs,rel,dd⟩:=zmr I.hok e
  refine call_meetsIn PySem.F.slot_dict_get dd.typeIs PySem.F.entry_dict_get (PySem.F.args_dict_get_2 _ _) (meets_dict_get (zaV X.prog X.w) a (zkN ry) hd) ⟨_,dd.mapOf,h _ _ (I.tok _) ?_⟩
  rw [l]
  exact (rel.val k).getD rfl
 ·subst ey
  cases (show u=Value.ref b from ry)
  obtain ⟨z,hd,xs,rel,dd⟩:=zod I.hok e
  refine call_meetsIn PySem.F.slot_dict_get dd.typeIs PySem.F.entry_dict_get (PySem.F.args_dict_get_2 _ _) (meetsH_dict_get (tupleKind (zaV X.prog X.w)) a b hd) ⟨tupleKind_room_in1 hu,k,xs,zkL I.hok eb,dd,h _ _ (I.tok _) ?_⟩
  rw [l]
  exact (rel.val k).getD rfl
theorem zpn {Q:Value->Shared->Prop}(hu:A.units + 1 < cLine)(I:Inv X pins σ H s)(g:DGet H a y o)(ry:RelV y u)(rd:RelV d r)(h:∀ w' s',Inv X pins σ H s'->RelV (o.getD d) w'->Q w' s') :
  wpAny (model X.prog X.w) A (call (.builtin "dict.get") [.ref a,u,r]) Q E s:=by
 rcases g with ⟨kvs,k,e,ey,l⟩ | ⟨kvs,k,b,e,ey,eb,l⟩
 ·subst ey
  obtain ⟨z,hd,vs,rel,dd⟩:=zmr I.hok e
  refine call_meetsIn PySem.F.slot_dict_get dd.typeIs PySem.F.entry_dict_get (PySem.F.args_dict_get_3 _ _ _) (meets_dict_get_default (zaV X.prog X.w) a (zkN ry) hd r) ⟨_,dd.mapOf,h _ _ (I.tok _) ?_⟩
  rw [l]
  exact (rel.val k).getD rd
 ·subst ey
  cases (show u=Value.ref b from ry)
  obtain ⟨z,hd,xs,rel,dd⟩:=zod I.hok e
  refine call_meetsIn PySem.F.slot_dict_get dd.typeIs PySem.F.entry_dict_get (PySem.F.args_dict_get_3 _ _ _) (meetsH_dict_get_default (tupleKind (zaV X.prog X.w)) a b hd r) ⟨tupleKind_room_in1 hu,k,xs,zkL I.hok eb,dd,h _ _ (I.tok _) ?_⟩
  rw [l]
  exact (rel.val k).getD rd
end
noncomputable def zow (td ty:TE):TE:=fun σ H Q=>td σ H fun x H1=>∃ a,x = .ref a/\IsD H1 a/\ty σ H1 fun y H2=>∃ o,DGet H2 a y o/\Q (o.getD .non) H2
noncomputable def zov (td ty tx:TE):TE:=fun σ H Q=>td σ H fun x H1=>∃ a,x = .ref a/\IsD H1 a/\ty σ H1 fun y H2=>tx σ H2 fun z H3=>∃ o,DGet H3 a y o/\Q (o.getD z) H3
section
variable {X:Cx}{o e f:Expr}{apos cpos:Pos}{td ty tx:TE}
theorem zij (hu:X.A.units + 1 < cLine)(ho:PE X o td)(he:PE X e ty)(m:M1 X o "get" apos e cpos):PE X (.Call (.Attribute o "get" apos) [e] [] cpos) (zow td ty):=by
 intro pins s σ H Q I h
 refine wpAny_Call_method m.base m.few m.line PySem.F.plainAttrs_dict PySem.F.slot_dict_get PySem.F.type_dict_get (thn (ho pins s σ H _ I h) fun u s1 ⟨x,H1,I1,rx,a,ex,d,q1⟩=>?_)
 subst ex
 obtain rfl:u=Value.ref a:=rx
 obtain ⟨t1,t2,_⟩:=zmV I1 d
 refine ⟨t1,t2,?_⟩
 rw [m.trees]
 refine Calls.callWith_builtin rfl (Calls.evalArgs_plain (Calls.spliced_cons (thn (he pins s1 σ H1 _ I1 q1) fun iv s2 ⟨y,H2,I2,ry,ov,g,q2⟩=>Calls.spliced_nil ?_)))
 exact zpo hu I2 g ry fun w' s3 I3 rw'=>⟨_,H2,I3,rw',q2⟩
theorem zlP (hu:X.A.units + 1 < cLine)(ho:PE X o td)(he:PE X e ty)(hf:PE X f tx)(m:M2 X o "get" apos e f cpos):PE X (.Call (.Attribute o "get" apos) [e,f] [] cpos) (zov td ty tx):=by
 intro pins s σ H Q I h
 refine wpAny_Call_method m.base m.few m.line PySem.F.plainAttrs_dict PySem.F.slot_dict_get PySem.F.type_dict_get (thn (ho pins s σ H _ I h) fun u s1 ⟨x,H1,I1,rx,a,ex,d,q1⟩=>?_)
 subst ex
 obtain rfl:u=Value.ref a:=rx
 obtain ⟨t1,t2,_⟩:=zmV I1 d
 refine ⟨t1,t2,?_⟩
 rw [m.trees]
 refine Calls.callWith_builtin rfl (Calls.evalArgs_plain (Calls.spliced_cons (thn (he pins s1 σ H1 _ I1 q1) fun iv s2 ⟨y,H2,I2,ry,q2⟩ =>
  Calls.spliced_cons (thn (hf pins s2 σ H2 _ I2 q2) fun fv s3 ⟨z,H3,I3,rz,ov,g,q3⟩=>Calls.spliced_nil ?_))))
 exact zpn hu I3 g ry rz fun w' s4 I4 rw'=>⟨_,H3,I4,rw',q3⟩
end
end L2
namespace L2
open PySem PySem.Spec PyProof.Rows
section
variable {κ:Type}[DecidableEq κ]
theorem zkr:∀ {l:List κ} {k:κ},l.Nodup->¬ k ∈ l->(l ++ [k]).Nodup
 | [],k,_,_=>by simp
 | a :: r,k,h,hk=>by
  obtain ⟨h1,h2⟩:=List.nodup_cons.mp h
  show (a :: (r ++ [k])).Nodup
  refine List.nodup_cons.mpr ⟨fun m=>?_,zkr h2 fun m=>hk (List.mem_cons.mpr (Or.inr m))⟩
  rcases List.mem_append.mp m with q | q
  ·exact h1 q
  ·exact hk (List.mem_cons.mpr (Or.inl (List.mem_singleton.mp q).symm))
end
section
variable {X:Cx}
theorem zlg:CallR X (.builtin "len") (fun xs H Q=>∃ a kvs,xs=[V.ref a]/\H a=some (.dK kvs)/\Q (.int kvs.length) H):=by
 intro pins s σ H xs us Q I r h
 obtain ⟨a,kvs,rfl,ha,q⟩:=h
 obtain ⟨u,rfl,ru⟩:=vals1 r
 cases ru
 exact zpH I (.inl ha) fun t s' I'=>⟨.int kvs.length,H,I',⟨t,rfl⟩,q⟩
end
end L2
namespace L2
open PySem PySem.Spec PyProof.Rows
noncomputable def closL (cells:List (Str×Addr)):List (Str×NameKind)->List (Str×Addr)->List (Str×Addr)
 | [],cs=>cs
 | (n,k) :: r,cs=>closL cells r (if k = .free then (n,(cells.lookup n).getD 0) :: cs else cs)
theorem zfY {scope:Scope}{env:Env}(h:∀ x ∈ scope.names,x.2 = .free->∃ c,env.cells.lookup x.1=some c):closureFor scope env=pure (closL env.cells scope.names []):=by
 have go:∀ (l:List (Str×NameKind)) (cs:List (Str×Addr)),(∀ x ∈ l,x.2 = .free->∃ c,env.cells.lookup x.1=some c) ->
   (forIn l cs fun (x:Str×NameKind) (r:List (Str×Addr))=>match x with | (name,kind)=>if (kind == NameKind.free)=true then do let a ← cellOf env name;pure (ForInStep.yield ((name,a) :: r)) else pure (ForInStep.yield r):Sem (List (Str×Addr)))=pure (closL env.cells l cs):=by
  intro l
  induction l with
  | nil=>intro cs _;rfl
  | cons x r ih =>
   intro cs hx
   obtain ⟨n,k⟩:=x
   have hr:=fun y hy=>hx y (List.mem_cons_of_mem _ hy)
   rw [List.forIn_cons]
   by_cases hk:k = .free
   ·subst hk
    obtain ⟨c,hc⟩:=hx (n,.free) List.mem_cons_self rfl
    have hc':List.lookup n env.cells=some c:=hc
    have e1:cellOf env n=pure c:=by unfold cellOf;rw [hc']
    simp only [beq_self_eq_true,if_true,e1,pure_bind]
    rw [ih _ hr]
    show _=pure (closL env.cells r (if NameKind.free = .free then (n,(env.cells.lookup n).getD 0) :: cs else cs))
    rw [if_pos rfl,hc']
    rfl
   ·have hb:(k == NameKind.free)=false:=by simpa using hk
    simp only [hb,Bool.false_eq_true,if_false,pure_bind]
    rw [ih _ hr]
    show _=pure (closL env.cells r (if k = .free then (n,(env.cells.lookup n).getD 0) :: cs else cs))
    rw [if_neg hk]
 exact (congrArg (fun (m:Sem (List (Str×Addr)))=>m >>= fun s=>pure s) (go scope.names [] h)).trans rfl
theorem zgW {cells:List (Str×Addr)}{x:Str}{c:Addr}:∀ (l:List (Str×NameKind)) (cs:List (Str×Addr)),(closL cells l cs).lookup x=some c->cs.lookup x=some c∨(x,NameKind.free) ∈ l/\c=(cells.lookup x).getD 0
 | [],_,h=>.inl h
 | (n,k) :: r,cs,h=>by
  unfold closL at h
  rcases zgW r _ h with q | ⟨q,e⟩
  ·by_cases hk:k = .free
   ·rw [if_pos hk] at q
    rw [List.lookup_cons] at q
    by_cases hx:x=n
    ·subst hx
     rw [beq_self_eq_true] at q
     subst hk
     exact .inr ⟨List.mem_cons_self,(Option.some.inj q).symm⟩
    ·have hb:(x == n)=false:=by simpa using hx
     rw [hb] at q
     exact .inl q
   ·rw [if_neg hk] at q
    exact .inl q
  ·exact .inr ⟨List.mem_cons_of_mem _ q,e⟩
theorem zgX {cells:List (Str×Addr)}{x:Str}:∀ (l:List (Str×NameKind)) (cs:List (Str×Addr)),((x,NameKind.free) ∈ l∨(cs.lookup x).isSome)->((closL cells l cs).lookup x).isSome
 | [],cs,h=>by
  rcases h with h | h
  ·cases h
  ·exact h
 | (n,k) :: r,cs,h=>by
  unfold closL
  refine zgX r _ ?_
  by_cases hk:k = .free
  ·rw [if_pos hk,List.lookup_cons]
   by_cases hx:x=n
   ·subst hx
    rw [beq_self_eq_true]
    exact .inr rfl
   ·have hb:(x == n)=false:=by simpa using hx
    rw [hb]
    rcases h with h | h
    ·rcases List.mem_cons.mp h with e | e
     ·cases e;exact absurd rfl hx
     ·exact .inl e
    ·exact .inr h
  ·rw [if_neg hk]
   rcases h with h | h
   ·rcases List.mem_cons.mp h with e | e
    ·cases e;exact absurd rfl hk
    ·exact .inl e
   ·exact .inr h
theorem zc7 {α β:Type}[BEq α][LawfulBEq α]{x:α}{v:β}:∀ {l:List (α×β)},l.lookup x=some v->(x,v) ∈ l
 | [],h=>by simp at h
 | (n,k) :: r,h=>by
  rw [List.lookup_cons] at h
  by_cases e:x=n
  ·subst e;rw [beq_self_eq_true] at h;cases h;exact List.mem_cons_self
  ·have hb:(x == n)=false:=by simpa using e
   rw [hb] at h
   exact List.mem_cons_of_mem _ (zc7 h)
theorem zcF {env:Env}{x:Str}:∀ {names:List (Str×NameKind)} {k':NameKind},(∀ y ∈ names,y.2≠.cell) ->
  (names.map fun (n,k)=>if (k == NameKind.free && env.scope.kind == .function && env.kindOf n == some .cell) then (n,NameKind.cell) else (n,k)).lookup x=some k'->(k' = .cell∨k' = .free)->names.lookup x=some .free
 | [],_,_,h,_=>by simp at h
 | (n,k) :: r,k',hc,h,hk'=>by
  have ih:=@zcF env x r k' (fun y hy=>hc y (List.mem_cons_of_mem _ hy))
  have hk:=hc (n,k) List.mem_cons_self
  have h:List.lookup x ((if (k == NameKind.free && env.scope.kind == .function && env.kindOf n == some .cell)=true then (n,NameKind.cell) else (n,k)) :: _)=some k':=h
  by_cases hx:x=n
  ·subst hx
   rw [List.lookup_cons,beq_self_eq_true]
   by_cases q:(k == NameKind.free && env.scope.kind == .function && env.kindOf x == some .cell)=true
   ·simp only [Bool.and_eq_true,beq_iff_eq] at q
    show some k=some .free
    rw [q.1.1]
   ·rw [if_neg q,List.lookup_cons,beq_self_eq_true] at h
    have h:some k=some k':=h
    cases h
    rcases hk' with e | e
    ·exact absurd e hk
    ·show some k=some .free
     rw [e]
  ·have hb:(x == n)=false:=by simpa using hx
   rw [List.lookup_cons,hb]
   by_cases q:(k == NameKind.free && env.scope.kind == .function && env.kindOf n == some .cell)=true
   ·rw [if_pos q,List.lookup_cons,hb] at h
    exact ih h hk'
   ·rw [if_neg q,List.lookup_cons,hb] at h
    exact ih h hk'
theorem zcE {env:Env}{x:Str}:∀ {names:List (Str×NameKind)},names.lookup x=some .free ->
  (names.map fun (n,k)=>if (k == NameKind.free && env.scope.kind == .function && env.kindOf n == some .cell) then (n,NameKind.cell) else (n,k)).lookup x=some .cell ∨
  (names.map fun (n,k)=>if (k == NameKind.free && env.scope.kind == .function && env.kindOf n == some .cell) then (n,NameKind.cell) else (n,k)).lookup x=some .free
 | [],h=>by simp at h
 | (n,k) :: r,h=>by
  have ih:=@zcE env x r
  show List.lookup x ((if (k == NameKind.free && env.scope.kind == .function && env.kindOf n == some .cell)=true then (n,NameKind.cell) else (n,k)) :: _)=_∨List.lookup x ((if (k == NameKind.free && env.scope.kind == .function && env.kindOf n == some .cell)=true then (n,NameKind.cell) else (n,k)) :: _)=_
  by_cases hx:x=n
  ·subst hx
   rw [List.lookup_cons,beq_self_eq_true] at h
   have h:some k=some .free:=h
   cases h
   by_cases q:(NameKind.free == NameKind.free && env.scope.kind == .function && env.kindOf x == some .cell)=true
   ·rw [if_pos q,List.lookup_cons,beq_self_eq_true];exact .inl rfl
   ·rw [if_neg q,List.lookup_cons,beq_self_eq_true];exact .inr rfl
  ·have hb:(x == n)=false:=by simpa using hx
   rw [List.lookup_cons,hb] at h
   by_cases q:(k == NameKind.free && env.scope.kind == .function && env.kindOf n == some .cell)=true
   ·rw [if_pos q,List.lookup_cons,hb];exact ih h
   ·rw [if_neg q,List.lookup_cons,hb];exact ih h
noncomputable def srcOk (N:List Str)(names:List (Str×NameKind)):List (Option Nat)->List Str->Bool
 | [],[]=>true
 | none :: r,_ :: n=>srcOk N names r n
 | some i :: r,x :: n=>N[i]? == some x && names.lookup x == some .free && srcOk N names r n
 | _,_=>false
theorem zee {N:List Str}{names:List (Str×NameKind)}:∀ {src:List (Option Nat)} {n:List Str},srcOk N names src n=true->src.length=n.length
 | [],[],_=>rfl
 | none :: r,_ :: n,h=>by simp [zee (src:=r) (n:=n) h]
 | some i :: r,x :: n,h=>by
  simp only [srcOk,Bool.and_eq_true] at h
  simp [zee (src:=r) (n:=n) h.2]
 | [],_ :: _,h=>by simp [srcOk] at h
 | none :: _,[],h=>by simp [srcOk] at h
 | some _ :: _,[],h=>by simp [srcOk] at h
theorem zef {N:List Str}{names:List (Str×NameKind)}:∀ {src:List (Option Nat)} {n:List Str} {j i:Nat} {x:Str},srcOk N names src n=true->src[j]?=some (some i)->n[j]?=some x->N[i]?=some x/\names.lookup x=some .free
 | [],_,_,_,_,_,h,_=>by simp at h
 | _ :: _,[],_,_,_,_,_,h=>by simp at h
 | none :: r,_ :: n,0,_,_,_,h,_=>by simp at h
 | none :: r,_ :: n,j + 1,_,_,h,h1,h2=>zef (src:=r) (n:=n) (j:=j) h (by simpa using h1) (by simpa using h2)
 | some k :: r,y :: n,0,i,x,h,h1,h2=>by
  simp at h1 h2
  subst h1 h2
  simp only [srcOk,Bool.and_eq_true,beq_iff_eq] at h
  exact h.1
 | some _ :: r,_ :: n,j + 1,_,_,h,h1,h2=>by
  simp only [srcOk,Bool.and_eq_true] at h
  exact zef (src:=r) (n:=n) (j:=j) h.2 (by simpa using h1) (by simpa using h2)
structure CompSc (X:Cx)(scope:Scope)(N':List Str)(src:List (Option Nat)):Prop where
 kind:scope.kind = .function
 cell:∀ y ∈ scope.names,y.2≠.cell
 names:∀ y ∈ scope.names,y.2 = .local->scope.names.lookup y.1=some .local
 free:∀ y ∈ scope.names,y.2 = .free->(X.env.scope.names.lookup y.1=some .cell∨X.env.scope.names.lookup y.1=some .free)
 nd:N'.Nodup
 map:srcOk X.N scope.names src N'=true
noncomputable def stC (src:List (Option Nat))(σ:St):St:=src.map fun o=>o.bind fun i=>(σ[i]?).join
noncomputable def blk (X:Cx)(scope:Scope)(N':List Str)(C:Addr)(s₂:Shared)(H₂:Hp)(fp:List Addr):Cx :=
 { X with N:=N',s₀:=s₂,H₀:=H₂,env:=compEnvC scope (closL X.env.cells scope.names []) C X.env,outer:=X.stack,stack:=X.stack,ex:=fp,fn:=fun _=>false,pn:=[],xe:=fun _ _=>False }
section
variable {X:Cx}{pins:List (Addr×Obj)}{σ:St}{H:Hp}{s:Shared}{scope:Scope}{N':List Str}{src:List (Option Nat)}
theorem CompSc.cells (S:CompSc X scope N' src)(I:Inv X pins σ H s):∀ x ∈ scope.names,x.2 = .free->∃ c,X.env.cells.lookup x.1=some c:=fun x hx hk=>I.ok.has x.1 (S.free x hx hk)
theorem CompSc.cl (S:CompSc X scope N' src)(I:Inv X pins σ H s){x:Str}{c:Addr}(h:(closL X.env.cells scope.names []).lookup x=some c):X.env.cells.lookup x=some c:=by
 rcases zgW _ _ h with q | ⟨q,e⟩
 ·simp at q
 ·obtain ⟨d,hd⟩:=S.cells I (x,.free) q rfl
  have hd:X.env.cells.lookup x=some d:=hd
  rw [hd] at e
  rw [hd,e];rfl
theorem CompSc.clHas (S:CompSc X scope N' src)(I:Inv X pins σ H s){x:Str}(h:scope.names.lookup x=some .free):∃ c,(closL X.env.cells scope.names []).lookup x=some c/\X.env.cells.lookup x=some c:=by
 have q:=zgX (cells:=X.env.cells) (x:=x) scope.names [] (.inl (zc7 h))
 obtain ⟨c,hc⟩:=Option.isSome_iff_exists.mp q
 exact ⟨c,hc,S.cl I hc⟩
theorem CompSc.ok (S:CompSc X scope N' src)(I:Inv X pins σ H s){fp:List Addr}{C:Addr}(hf:∀ b ∈ fp,FpOk X pins H b)(hlt:∀ b ∈ fp,b < s.heap.objs.size)(hC:s.heap.objs.size<=C):(blk X scope N' C s H fp).Ok where
 mod:=I.mod
 kind:=S.kind
 glob:=I.ok.glob
 blt:=I.ok.blt
 above:=hC
 inj:=fun x y c h1 h2=>I.ok.inj x y c (S.cl I h1) (S.cl I h2)
 has:=fun x hx=>by
  have q:scope.names.lookup x=some .free:=by
   rcases hx with h | h
   ·exact zcF S.cell h (.inl rfl)
   ·exact zcF S.cell h (.inr rfl)
  obtain ⟨c,hc,_⟩:=S.clHas I q
  exact ⟨c,hc⟩
 cab:=fun x c h _=>by cases h
 hd:=I.ok.hd
 frames:=I.ok.frames
 stk:=.inl rfl
 exf:=fun b hb=>⟨Nat.ne_of_lt (Nat.lt_of_lt_of_le (hlt b hb) hC),fun x c e=>(hf b hb).2.2.2.2.1 x c (S.cl I e)⟩
 bs:=I.bs
 bsz:=Nat.le_trans I.ok.bsz I.sz
 noex:=fun b o e hb=>by
  rcases (hf b hb).2.2.2.1 with z | z
  ·exact I.ok.noex b o e z
  ·exact absurd (Nat.lt_of_lt_of_le (Heap.lt_size e) (Nat.le_trans I.ok.bsz z)) (Nat.lt_irrefl _)
 exfs:=fun b hb z=>by
  rcases List.mem_cons.mp (I.stkSub b z) with e | e
  ·exact (hf b hb).2.1 e
  ·exact (hf b hb).2.2.1 e
 funs:=I.stack
 frf:=I.stkFree
theorem CompSc.start (S:CompSc X scope N' src)(I:Inv X pins σ H s){fp:List Addr}{C:Addr}{h':Heap}{tk:Nat}{m:Str->Option Value}{pl:List (Addr×Obj)}(hf:∀ b ∈ fp,FpOk X pins H b)(hlt:∀ b ∈ fp,b < s.heap.objs.size)(hC:s.heap.objs.size<=C)
  (old:∀ b o,s.heap.get? b=some o->h'.get? b=some o) (hns:h'.Ns C m)
  (hpl:∀ p ∈ pl,h'.get? p.1=some p.2/\s.heap.objs.size<=p.1/\p.1≠C/\∀ v,p.2.data≠.cell v) :
  Inv (blk X scope N' C s H fp) pl (stC src σ) H { s with heap:=h',toks:=tk } where
 ok:=S.ok I hf hlt hC
 os:=rfl
 bare:=I.bare
 base:=Un.kept old
 loc:=by
  obtain ⟨m0,hn0,hl0⟩:=I.loc
  refine ⟨m,hns,fun j x v h1 h2 h3=>?_⟩
  have h2:(src.map fun o=>o.bind fun i=>(σ[i]?).join)[j]?=some (some v):=h2
  rw [List.getElem?_map] at h2
  cases e:src[j]? with
  | none=>rw [e] at h2;cases h2
  | some o =>
   rw [e] at h2
   cases o with
   | none=>cases h2
   | some i =>
    have h2:some ((σ[i]?).join)=some (some v):=h2
    obtain ⟨e1,e2⟩:=zef S.map e h1
    have hv:σ[i]?=some (some v):=by
     cases q:σ[i]? with
     | none=>rw [q] at h2;cases h2
     | some w=>rw [q] at h2;cases w with
      | none=>cases h2
      | some w=>cases h2;rfl
    have hfr:=S.free (x,.free) (zc7 e2) rfl
    obtain ⟨u,r,l⟩:=hl0 i x v e1 hv (.inr hfr)
    refine ⟨u,r,.inr ⟨zcE e2,?_⟩⟩
    obtain ⟨c,hc,hc'⟩:=S.clHas I e2
    refine ⟨c,hc,?_⟩
    rcases l with ⟨k,_⟩ | ⟨_,c',hc2,hcell⟩
    ·have k:X.env.scope.names.lookup x=some .local:=k
     have hfr:X.env.scope.names.lookup x=some .cell∨X.env.scope.names.lookup x=some .free:=hfr
     rw [k] at hfr
     rcases hfr with z | z <;> cases z
    ·rw [hc'] at hc2;cases hc2
     obtain ⟨o,ho,hd⟩:=hcell
     exact ⟨o,old _ _ ho,hd⟩
 cell:=fun x c e=>by
  obtain ⟨v,o,ho,hd⟩:=I.cell x c (S.cl I e)
  exact ⟨v,o,old _ _ ho,hd⟩
 free:=I.hok.fresh hC
 freeC:=fun x c e=>I.freeC x c (S.cl I e)
 pin:=fun p hp=>by
  obtain ⟨a,b,c,d⟩:=hpl p (by simpa [blk] using hp)
  refine ⟨a,I.hok.fresh b,c,fun z=>?_,d⟩
  rcases List.mem_cons.mp (I.stkSub _ z) with e | e
  ·exact absurd (Nat.lt_of_lt_of_le I.lt (by rw [← e];exact b)) (Nat.lt_irrefl _)
  ·exact I.nofs b e
 hok:=I.hok.kept old
 len:=by
  show (src.map _).length=N'.length
  rw [List.length_map]
  exact zee S.map
end
end L2
namespace L2
open PySem PySem.Spec PyProof.Rows
noncomputable def zhg (ifs:List Expr)(env:Env):Sem Bool:=forIn ifs true fun c (b:Bool)=>if b=true then isTrue c env (eval c env) >>= fun b=>pure (.yield b) else pure (.yield b)
section
variable (M:Model)(A:Around)(env:Env)(E:Value->Shared->Prop)
noncomputable def Drawn (it:Value)(tg:Expr)(stop go:Shared->Prop)(s:Shared):Prop :=
 wpAny M A (pyNext it) (fun r t=>r.elim (stop t) fun v=>wpAny M A (letOwnedTupleGo tg it v) (fun _ t=>wpAny M A (assign tg env v) (fun _=>go) E t) E t) E s
noncomputable def Laid (ifs:List Expr)(lay:Sem Unit)(nxt:Shared->Prop)(s:Shared):Prop :=
 wpAny M A (zhg ifs env) (fun ok t=>if ok=true then wpAny M A lay (fun _=>nxt) E t else nxt t) E s
end
noncomputable def zh3 (p:Pos)(it:Value)(tg:Expr)(env:Env)(k:Sem PySem.Fin):Sem PySem.Fin:=standAt p >>= fun _=>pyNext it >>= fun r=>match r with
 | none=>pure (.done .next)
 | some v=>letOwnedTupleGo tg it v >>= fun _=>assign tg env v >>= fun _=>k
noncomputable def layOn (ifs:List Expr)(lay:Sem Unit)(env:Env)(c:Code):Sem PySem.Fin:=zhg ifs env >>= fun ok=>if ok=true then lay >>= fun _=>again c else again c
noncomputable def zmR (elt:Expr)(acc:Value)(env:Env):Sem Unit:=eval elt env >>= fun x=>call (.builtin "list.append") [acc,x] >>= fun _=>pure ()
section
variable {M:Model}{A:Around}{env:Env}{E:Value->Shared->Prop}{it:Value}{tg:Expr}{s:Shared}
theorem Drawn.mono {stop go stop' go':Shared->Prop}(h:Drawn M A env E it tg stop go s)(h1:∀ t,stop t->stop' t)(h2:∀ t,go t->go' t):Drawn M A env E it tg stop' go' s :=
 thn h fun r t q=>by
  cases r
  ·exact h1 t q
  ·exact thn q fun _ _ q=>thn q fun _ t q=>h2 t q
theorem Drawn.run {p:Pos}{k:Sem PySem.Fin}{Q:PySem.Fin->Shared->Prop}(h:Drawn M A env E it tg (Q (.done .next)) (fun t=>wpAny M A k Q E t) s):wpAny M A (zh3 p it tg env k) Q E s:=by
 unfold zh3
 refine wpAny_bind (wpAny_standAt (wpAny_bind (thn h fun r t q=>?_)))
 cases r
 ·exact wpAny_pure q
 ·exact wpAny_bind (thn q fun _ _ q=>wpAny_bind q)
theorem Laid.run {ifs:List Expr}{lay:Sem Unit}{c:Code}{Q:PySem.Fin->Shared->Prop}(h:Laid M A env E ifs lay (Q (.again c)) s):wpAny M A (layOn ifs lay env c) Q E s:=by
 unfold layOn
 refine wpAny_bind (thn h fun ok t q=>?_)
 cases ok
 ·exact wpAny_pure q
 ·exact wpAny_bind (thn q fun _ _ q=>wpAny_pure q)
end
theorem zlw (elt tg iter:Expr)(ifs:List Expr)(scope:Scope)(pos:Pos)(it acc:Value)(env:Env) :
  compTurn (.ListComp elt [⟨tg,iter,ifs,0⟩] scope pos) 0 it acc env=zh3 iter.pos it tg env (layOn ifs (zmR elt acc env) env (.compLoop (.ListComp elt [⟨tg,iter,ifs,0⟩] scope pos) 0 it acc env)):=rfl
section
variable {prog:Program}{w:World}{A:Around}{R:Result->Shared->Prop}{s:Shared}{elt tg:Expr}{gens:List Comprehension}{scope:Scope}{pos:Pos}{d:Nat}{it acc:Value}{env:Env}{p:Pos}{k:Sem PySem.Fin}
noncomputable abbrev XN (prog:Program)(w:World)(A:Around)(env:Env)(R:Result->Shared->Prop):Value->Shared->Prop:=notedBy (model prog w) A env fun x t=>R (.error x) t
theorem zi9 (hb:compTurn (.ListComp elt gens scope pos) d it acc env=zh3 p it tg env k)(I:Nat->Shared->Prop)
  (turn:∀ n s,I n s->Drawn (model prog w) A env (XN prog w A env R) it tg (R (.ok .next)) (fun t=>wpAny (model prog w) A k (fun f t=>f = .again (.compLoop (.ListComp elt gens scope pos) d it acc env)/\∃ m,m < n/\I m t) (XN prog w A env R) t) s)
  (n:Nat) (h:I n s):codeAny (model prog w) A (.compLoop (.ListComp elt gens scope pos) d it acc env) R s:=by
 apply codeAny_loop rfl I _ n h
 intro n s i
 have q:=turn n s i
 change wpAny _ A (Sem.onRaise (compTurn (.ListComp elt gens scope pos) d it acc env) _) _ _ s
 rw [hb]
 apply wpAny_noted
 apply Drawn.run
 exact q.mono (fun _ z=>z) fun t z=>thn z fun f t ⟨hf,m⟩=>by subst hf;exact ⟨rfl,m⟩
end
noncomputable def PTs (X:Cx)(ifs:List Expr)(t:TT):Prop :=
 ∀ (pins:List (Addr×Obj)) (s:Shared) (σ:St) (H:Hp) (Q:Bool->Hp->Prop),Inv X pins σ H s->t σ H Q->wpAny (model X.prog X.w) X.A (zhg ifs X.env) (TP X pins σ Q) X.xe s
noncomputable def tYes:TT:=fun _ H Q=>Q true H
theorem zbx {X:Cx}:PTs X [] tYes:=fun _ _ _ H _ I h=>wpAny_tests_nil ⟨H,I,h⟩
theorem zeu {X:Cx}{c:Expr}{t:TT}(h:PT X c t):PTs X [c] t:=fun pins s σ H Q I q=>wpAny_tests_one (h pins s σ H Q I q)
noncomputable abbrev CW:=Nat->Nat->List V->St->Hp->Prop
noncomputable abbrev zcH (items:Array Value)(n:Nat):Obj:={ cls:=.type "list",data:=.seq items n }
section
variable {Y:Cx}{pins:List (Addr×Obj)}{D it:Addr}{fp:List Addr}{tn:Nat->Heap->Prop}{J:It}{W:CW}{Fin:List V->St->Hp->Prop}{R:Result->Shared->Prop}{tg:Expr}{g:TG}{Nx:Nat->Nat->List V->St->Hp->Prop}
noncomputable def Betw (Y:Cx)(pins:List (Addr×Obj))(D:Addr)(fp:List Addr)(tn:Nat->Heap->Prop)(W:CW)(n:Nat)(s:Shared):Prop :=
 ∃ i σ H acc items,Inv Y pins σ H s/\tn i s.heap/\(∀ b ∈ fp,H b=none)/\H D=none/\s.heap.PlainList D items/\Vals acc items.toList/\acc.length<=sizeLine/\W i n acc σ H
structure Mid (Y:Cx)(pins:List (Addr×Obj))(D:Addr)(fp:List Addr)(tn:Nat->Heap->Prop)(i:Nat)(acc:List V)(more:List (Addr×Obj))(items:Array Value)(n:Nat):Prop where
 vals:Vals acc items.toList
 len:acc.length<=sizeLine
 own:∀ p ∈ more,p.1 ∈ fp
 back:∀ {pl:List (Addr×Obj)} {σ:St} {H:Hp} {s:Shared},(∀ p ∈ more,p ∈ pl)->Inv Y pl σ H s->tn i s.heap/\∀ b ∈ fp,H b=none
structure Place (Y:Cx)(pins:List (Addr×Obj))(D:Addr)(fp:List Addr):Prop where
 off:D ∉ fp
 list:∀ H:Hp,H D=none->FpOk Y pins H D
 iter:∀ H:Hp,(∀ b ∈ fp,H b=none)->∀ b ∈ fp,FpOk Y pins H b
theorem zoJ {a:Addr×Obj}{pn pins more:List (Addr×Obj)}:a ∈ pn ++ (pins ++ a :: more):=by simp
theorem Place.pin {σ:St}{H:Hp}{s:Shared}{items:Array Value}{n:Nat}(P:Place Y pins D fp)(I:Inv Y pins σ H s)(hD:H D=none)(ho:s.heap.get? D=some (zcH items n)):Inv Y (pins ++ [(D,zcH items n)]) σ H s:=by
 refine I.pins_of fun p hp=>?_
 simp only [List.mem_append,List.mem_singleton] at hp
 rcases hp with hp | rfl
 ·exact I.pin p (List.mem_append_right _ hp)
 ·have f:=P.list H hD
  exact ⟨ho,f.1,f.2.1,f.2.2.1,fun _ z=>nomatch z⟩
theorem Place.more {items:Array Value}{n:Nat}(P:Place Y pins D fp)(H:Hp)(hn:∀ b ∈ fp,H b=none)(b:Addr)(hb:b ∈ fp):FpOk Y (pins ++ [(D,zcH items n)]) H b:=by
 have f:=P.iter H hn b hb
 refine ⟨f.1,f.2.1,f.2.2.1,f.2.2.2.1,f.2.2.2.2.1,fun p hp z=>?_⟩
 rw [← List.append_assoc,List.mem_append,List.mem_singleton] at hp
 rcases hp with hp | rfl
 ·exact f.2.2.2.2.2 p hp z
 ·exact P.off (show D ∈ fp from (show D=b from z) ▸ hb)
theorem Mid.list {i:Nat}{acc:List V}{more:List (Addr×Obj)}{items:Array Value}{n:Nat}{σ:St}{H:Hp}{s:Shared}(I:Inv Y (pins ++ (D,zcH items n) :: more) σ H s):H D=none/\s.heap.get? D=some (zcH items n)/\Inv Y pins σ H s:=by
 have q:=I.pin (D,zcH items n) zoJ
 exact ⟨q.2.1,q.1,I.pins_of fun p hp=>I.pin p (by simp [hp])⟩
theorem zk5 (hc:Y.calm=true)(hx:∀ e s,¬ Y.xe e s)(T:Turn Y.prog Y.w Y.K tg J fp it tn)(P:Place Y pins D fp)(hg:PG Y tg g)
  (turn:∀ i m acc σ H,W i m acc σ H->(J.stop i H/\Fin acc σ H)∨(J.go i H/\∀ x H',J.yld i H x H'->g x σ H' (Nx i m acc)))
  (hR:∀ s σ H acc items,Inv Y pins σ H s->H D=none->s.heap.PlainList D items->Vals acc items.toList->acc.length<=sizeLine->Fin acc σ H->R (.ok .next) s)
  (n:Nat) (s:Shared) (B:Betw Y pins D fp tn W n s) {E:Value->Shared->Prop} :
  Drawn (model Y.prog Y.w) Y.A Y.env E (.ref it) tg (R (.ok .next))
   (fun t=>∃ i acc items k more σ H,Mid Y pins D fp tn (i + 1) acc more items k/\Inv Y (pins ++ (D,zcH items k) :: more) σ H t/\Nx i n acc σ H) s:=by
 obtain ⟨i,σ,H,acc,items,I,st,fr,fD,⟨k,ho⟩,rv,hz,w⟩:=B
 have Ip:=P.pin I fD ho
 rcases turn i n acc σ H w with ⟨stop,fin⟩ | ⟨go,step⟩
 ·refine thn (T.done Y rfl rfl rfl hc i _ s σ H _ Ip (P.more H fr) st stop) fun r t ⟨hr,It⟩=>?_
  subst hr
  obtain ⟨l1,l2,l3⟩:=Mid.list (i:=i) (acc:=acc) It
  exact hR t σ H acc items l3 l1 ⟨k,l2⟩ rv hz fin
 ·refine thn (T.item Y rfl rfl rfl hc i _ s σ H _ Ip (P.more H fr) st go) fun r t ⟨u,hr,q⟩=>?_
  subst hr
  refine thn q fun _ t1 ⟨x,H1,I1,r1,y1,st1,fr1⟩=>?_
  have I1p:=I1.pinned (P.more H1 fr1) (T.obj _ _ st1)
  rw [List.append_assoc] at I1p
  refine wpAny_mono (hg _ t1 σ H1 x u _ I1p r1 (step x H1 y1)) (fun _ t2 ⟨σ2,H2,I2,q2⟩=>?_) fun e t z=>(hx e t z).elim
  refine ⟨i,acc,items,k,zgo fp t1.heap,σ2,H2,⟨rv,hz,fun p hp=>(zgv hp).1,fun {pl σ3 H3 s3} sub I3=>?_⟩,I2,q2⟩
  have at3:∀ b ∈ fp,∀ o,t1.heap.get? b=some o->s3.heap.get? b=some o/\H3 b=none:=fun b hb o e=>by
   have z:=I3.pin (b,o) (List.mem_append_right _ (sub _ (zdC hb e)))
   exact ⟨z.1,z.2.1⟩
  refine ⟨T.keep _ _ _ st1 fun b hb o e=>(at3 b hb o e).1,fun b hb=>?_⟩
  obtain ⟨o,e,_⟩:=T.obj _ _ st1 b hb
  exact (at3 b hb o e).2
theorem zmf {ifs:List Expr}{elt:Expr}{tt:TT}{te:TE}{i n k:Nat}{acc:List V}{more:List (Addr×Obj)}{items:Array Value}{σ:St}{H:Hp}{t:Shared}{E:Value->Shared->Prop}(hx:∀ e s,¬ Y.xe e s)(P:Place Y pins D fp)(T:Turn Y.prog Y.w Y.K tg J fp it tn)(ht:PTs Y ifs tt)(he:PE Y elt te)
  (B:Mid Y pins D fp tn (i + 1) acc more items k) (I:Inv Y (pins ++ (D,zcH items k) :: more) σ H t)
  (q:tt σ H fun b H3=>if b=true then te σ H3 fun y H4=>acc.length < sizeLine/\∃ m',m' < n/\W (i + 1) m' (acc ++ [y]) σ H4 else ∃ m',m' < n/\W (i + 1) m' acc σ H3) :
  Laid (model Y.prog Y.w) Y.A Y.env E ifs (zmR elt (.ref D) Y.env) (fun t=>∃ m,m < n/\Betw Y pins D fp tn W m t) t:=by
 refine wpAny_mono (ht _ t σ H _ I q) (fun ok t1 ⟨H1,I1,q1⟩=>?_) fun e t z=>(hx e t z).elim
 cases ok
 ·rw [if_neg Bool.false_ne_true] at q1 ⊢
  obtain ⟨m,hm,w⟩:=q1
  obtain ⟨b1,b2⟩:=B.back (fun p hp=>by simp [hp]) I1
  obtain ⟨l1,l2,l3⟩:=Mid.list (i:=i) (acc:=acc) I1
  exact ⟨m,hm,i + 1,σ,H1,acc,items,l3,b1,b2,l1,⟨k,l2⟩,B.vals,B.len,w⟩
 ·rw [if_pos rfl] at q1 ⊢
  refine wpAny_bind (wpAny_mono (he _ t1 σ H1 _ I1 q1) (fun y t2 ⟨yv,H2,I2,r2,hl,m,hm,w⟩=>?_) fun e t z=>(hx e t z).elim)
  obtain ⟨b1,b2⟩:=B.back (fun p hp=>by simp [hp]) I2
  obtain ⟨l1,l2,l3⟩:=Mid.list (i:=i) (acc:=acc) I2
  have small:items.size<=sizeLine:=by rw [← Array.length_toList,← B.vals.length];exact B.len
  refine wpAny_bind (wpAny_list_append_plain (hsz:=small) ⟨k,l2⟩ fun h3 p3 s3=>wpAny_pure ?_)
  have f:=P.list H2 l1
  have far:∀ b o,b≠D->t2.heap.get? b=some o->h3.get? b=some o:=fun b o hb e=>s3.extBut b o hb e
  refine ⟨m,hm,i + 1,σ,H2,acc ++ [yv],items.push y,l3.turned (t':=t2.toks) far f.1 f.2.1 f.2.2.2.1 f.2.2.2.2.1 f.2.2.2.2.2,T.keep _ _ _ b1 fun b hb o e=>far b o (fun z=>P.off (z ▸ hb)) e,b2,l1,p3,?_,?_,w⟩
  ·rw [Array.toList_push]
   exact B.vals.append (.cons r2 .nil)
  ·rw [List.length_append]
   exact hl
end
noncomputable def CTurn (J:It)(g:TG)(tt:TT)(te:TE)(Fin:List V->Hp->Prop)(W:CW):Prop:=∀ i m acc σ H,W i m acc σ H ->
 (J.stop i H/\Fin acc H) ∨
 (J.go i H/\∀ x H',J.yld i H x H'->g x σ H' fun σ2 H2=>tt σ2 H2 fun b H3 =>
  if b=true then te σ2 H3 fun y H4=>acc.length < sizeLine/\∃ m',m' < m/\W (i + 1) m' (acc ++ [y]) σ2 H4 else ∃ m',m' < m/\W (i + 1) m' acc σ2 H3)
noncomputable def tComp (src:List (Option Nat))(wi:TI)(g:TG)(tt:TT)(te:TE):TE:=fun σ H Q=>wi σ H fun J H1=>∃ W:CW,(∃ m,W 0 m [] (stC src σ) H1)/\CTurn J g tt te (fun acc H=>∀ p,H p=none->Q (.ref p) (upd H p (.lst acc))) W
section
variable {X:Cx}{scope:Scope}{N':List Str}{src:List (Option Nat)}{pins:List (Addr×Obj)}{σ:St}{H₂:Hp}{s₂:Shared}{fp:List Addr}{it:Addr}{tn:Nat->Heap->Prop}{J:It}{tg:Expr}
theorem zoe {pl:List (Addr×Obj)}{σc:St}{H':Hp}{s':Shared}{C D:Addr}{acc:List V}{items:Array Value}(I2:Inv X pins σ H₂ s₂)(hf:∀ b ∈ fp,FpOk X pins H₂ b)
  (I':Inv (blk X scope N' C s₂ H₂ fp) pl σc H' s') (hD:s₂.heap.objs.size<=D) (hDn:H' D=none) (hz:acc.length<=sizeLine) (r:Vals acc items.toList) (hp:s'.heap.PlainList D items):Inv X pins σ (upd H' D (.lst acc)) s':=by
 have u:=I'.base
 have neD:∀ b o,s₂.heap.get? b=some o->b≠D:=fun b o e=>Nat.ne_of_lt (Nat.lt_of_lt_of_le (Heap.lt_size e) hD)
 have neT:∀ b o,H' b=some o->b≠D:=fun b o e z=>by rw [z,hDn] at e;cases e
 refine I2.call' (ch:=fp) I'.os ⟨u.keep,u.slot,fun b o e n hx=>?_,u.there,fun b xs e=>?_,fun b o xs e=>?_,fun b ps e=>?_⟩ (fun b o e=>?_) I'.bare fun b hb=>?_
 ·rw [zac (neD b o e)];exact u.free b o e n hx
 ·have q:=u.tups b xs e
  rw [zac (neT b _ q)];exact q
 ·have q:=u.frzs b o xs e
  rw [zac (neT b _ q)];exact q
 ·obtain ⟨more,q⟩:=u.tbls b ps e
  exact ⟨more,by rw [zac (neT b _ q)];exact q⟩
 ·by_cases hb:b=D
  ·subst hb
   rw [upd_same] at e
   cases e
   obtain ⟨n,ho⟩:=hp
   exact ⟨hz,items.toList,n,r,by simpa using ho⟩
  ·rw [zac hb] at e
   exact (I'.hok b o e).stay (fun _ _ _ q=>q) (fun c q=>by rw [zac (neT c _ q)];exact q) fun c xs q=>by rw [zac (neT c _ q)];exact q
 ·obtain ⟨f0,f1,f2,f3,f4,f5⟩:=hf b hb
  exact ⟨f3,f1,f4,f5⟩
structure Begun (X:Cx)(scope:Scope)(N':List Str)(src:List (Option Nat))(s₂:Shared)(H₂:Hp)(σ:St)(fp:List Addr)(tn:Nat->Heap->Prop)(D C:Addr)(t:Shared):Prop where
 at_:s₂.heap.objs.size=D
 le:s₂.heap.objs.size<=C
 ne:D≠C
 place:Place (blk X scope N' C s₂ H₂ fp) [] D fp
 betw:∀ W:CW,(∃ m,W 0 m [] (stC src σ) H₂)->∃ m,Betw (blk X scope N' C s₂ H₂ fp) [] D fp tn W m t
 turn:tn 0 t.heap
theorem zlt {h h':Heap}{o o':Obj}(ho:o.isFreed=false)(hs:Heap.SameBut (h.push o).objs.size ((h.push o).push o') h'):(∀ b x,h.get? b=some x->h'.get? b=some x)/\h'.get? h.objs.size=some o:=by
 have key:∀ b x,(h.push o).get? b=some x->h'.get? b=some x:=fun b x e=>hs.extBut b x (Nat.ne_of_lt (Heap.lt_size e)) (Heap.get?_push_of_some o' e)
 exact ⟨fun b x e=>key b x (Heap.get?_push_of_some o e),key _ _ (Heap.get?_push_size h ho)⟩
theorem zhU {gens:List Comprehension}{elt iter:Expr}{ifs:List Expr}{pos:Pos}{RR:Value->Addr->Result->Shared->Prop}{E:Value->Shared->Prop}(S:CompSc X scope N' src)(I2:Inv X pins σ H₂ s₂)(T:Turn X.prog X.w X.K tg J fp it tn)(st2:tn 0 s₂.heap)(hf:∀ b ∈ fp,FpOk X pins H₂ b)
  (k:∀ D C t,Begun X scope N' src s₂ H₂ σ fp tn D C t->codeAny (model X.prog X.w) X.A (.compLoop (.ListComp elt (⟨tg,iter,ifs,0⟩ :: gens) scope pos) 0 (.ref it) (.ref D) (blk X scope N' C s₂ H₂ fp).env) (RR (.ref D) C) t) :
  wpAny (model X.prog X.w) X.A (newList []) (fun acc s₃=>wpAny (model X.prog X.w) X.A (newFunctionEnv scope X.env.globals (closL X.env.cells scope.names []) [] X.env.qual none .none (some X.env)) (fun cenv s₄ =>
   codeAny (model X.prog X.w) X.A (.compStart (.ListComp elt (⟨tg,iter,ifs,0⟩ :: gens) scope pos) 0 (.ref it) acc { cenv with scope:=relabel scope X.env }) (RR acc cenv.locals) s₄) E s₃) E s₂:=by
 refine wpAny_newObj_type ?_
 refine wpAny_newFunctionEnv S.cell (fun _ z=>nomatch z) (fun h₁ ns sb=>?_) S.kind
 obtain ⟨old,new⟩:=zlt rfl sb
 have sz:(s₂.heap.push { cls:=.type "list",dict:=none,data:=.seq ([]:List Value).toArray }).objs.size=s₂.heap.objs.size + 1:=Heap.size_push ..
 dsimp only at ns old new ⊢
 rw [sz] at ns ⊢
 have lt:∀ b ∈ fp,b < s₂.heap.objs.size:=fun b hb=>let ⟨_,e,_⟩:=T.obj 0 _ st2 b hb;Heap.lt_size e
 have st1:tn 0 h₁:=T.keep _ _ _ st2 fun b _ o e=>old b o e
 have off:s₂.heap.objs.size ∉ fp:=fun z=>Nat.lt_irrefl _ (lt _ z)
 have I1:=S.start (tk:=s₂.toks + ([]:List (Str×Value)).length) (pl:=[]) I2 hf lt (Nat.le_succ _) old ns (fun _ z=>nomatch z)
 have pl:Place (blk X scope N' (s₂.heap.objs.size + 1) s₂ H₂ fp) [] s₂.heap.objs.size fp:=by
  refine ⟨off,fun H hn=>?_,fun H hn b hb=>?_⟩
  ·have f:=I2.fpOk (Nat.le_refl _) hn
   refine ⟨hn,Nat.ne_of_lt (Nat.lt_succ_self _),fun z=>?_,.inr (Nat.le_refl _),fun x c e=>f.2.2.2.2.1 x c (S.cl I2 e),fun _ z=>nomatch z⟩
   exact (List.mem_cons.mp (I2.stkSub _ z)).elim f.2.1 f.2.2.1
  ·exact ⟨hn b hb,Nat.ne_of_lt (Nat.lt_succ_of_lt (lt b hb)),I1.ok.exfs b hb,.inl hb,fun x c e=>(hf b hb).2.2.2.2.1 x c (S.cl I2 e),fun _ z=>nomatch z⟩
 have bg:Begun X scope N' src s₂ H₂ σ fp tn s₂.heap.objs.size (s₂.heap.objs.size + 1) { s₂ with heap:=h₁,toks:=s₂.toks + ([]:List (Str×Value)).length } :=
  ⟨rfl,Nat.le_succ _,Nat.ne_of_lt (Nat.lt_succ_self _),pl,fun W ⟨m,w⟩=>⟨m,0,_,H₂,[],#[],I1,st1,fun b hb=>(hf b hb).1,I2.hok.fresh (Nat.le_refl _),⟨_,new⟩,.nil,Nat.zero_le _,w⟩,st1⟩
 have go:=k _ _ _ bg
 exact codeAny_compStart_list go (T.self _ 0 _ _ _ st1 go)
theorem Begun.out {D C:Addr}{t s:Shared}{H':Hp}{acc:List V}{items:Array Value}{σc:St}(B:Begun X scope N' src s₂ H₂ σ fp tn D C t)(I2:Inv X pins σ H₂ s₂)(hf:∀ b ∈ fp,FpOk X pins H₂ b)(I:Inv (blk X scope N' C s₂ H₂ fp) [] σc H' s)(hD:H' D=none)(hp:s.heap.PlainList D items)(r:Vals acc items.toList)(hz:acc.length<=sizeLine) :
  H' C=none/\(∃ m,s.heap.Ns C m)/\Inv X pins σ (upd H' D (.lst acc)) s :=
 ⟨I.free,⟨_,I.loc.choose_spec.1⟩,zoe I2 hf I (Nat.le_of_eq B.at_) hD hz r hp⟩
variable {elt iter:Expr}{ifs:List Expr}{pos:Pos}{g:TG}{tt:TT}{te:TE}
theorem zfg {W:CW}{Fin:List V->Hp->Prop}{RR:Value->Addr->Result->Shared->Prop}{E:Value->Shared->Prop}
  (hc:X.calm=true) (S:CompSc X scope N' src) (I2:Inv X pins σ H₂ s₂) (T:Turn X.prog X.w X.K tg J fp it tn) (st2:tn 0 s₂.heap) (hf:∀ b ∈ fp,FpOk X pins H₂ b)
  (hg:∀ C,PG (blk X scope N' C s₂ H₂ fp) tg g) (ht:∀ C,PTs (blk X scope N' C s₂ H₂ fp) ifs tt) (he:∀ C,PE (blk X scope N' C s₂ H₂ fp) elt te)
  (w0:∃ m,W 0 m [] (stC src σ) H₂) (turn:CTurn J g tt te Fin W)
  (hRR:∀ D C s' H' acc,s₂.heap.objs.size<=C->H' C=none->D≠C->(∃ m,s'.heap.Ns C m)->Inv X pins σ (upd H' D (.lst acc)) s'->H' D=none->Fin acc H'->RR (.ref D) C (.ok .next) s') :
  wpAny (model X.prog X.w) X.A (newList []) (fun acc s₃=>wpAny (model X.prog X.w) X.A (newFunctionEnv scope X.env.globals (closL X.env.cells scope.names []) [] X.env.qual none .none (some X.env)) (fun cenv s₄ =>
   codeAny (model X.prog X.w) X.A (.compStart (.ListComp elt [⟨tg,iter,ifs,0⟩] scope pos) 0 (.ref it) acc { cenv with scope:=relabel scope X.env }) (RR acc cenv.locals) s₄) E s₃) E s₂:=by
 refine zhU S I2 T st2 hf fun D C t B=>?_
 obtain ⟨m,b⟩:=B.betw W w0
 refine zi9 (zlw ..) (Betw (blk X scope N' C s₂ H₂ fp) [] D fp tn W) (fun n s b=>?_) m b
 refine (zk5 (Y:=blk X scope N' C s₂ H₂ fp) hc (fun _ _ z=>z) T B.place (hg C) turn (fun s σc H acc items I hD hp r hz fin=>?_) n s b).mono (fun _ z=>z) ?_
 ·obtain ⟨o1,o2,o3⟩:=B.out I2 hf I hD hp r hz
  exact hRR D C s H acc B.le o1 B.ne o2 o3 hD fin
 ·rintro t ⟨i,acc,items,k,more,σ3,H3,mid,I3,q3⟩
  exact Laid.run (thn (zmf (W:=W) (fun _ _ z=>z) B.place T (ht C) (he C) mid I3 q3) fun ok t q=>by
   cases ok
   ·exact ⟨rfl,q⟩
   ·exact thn q fun _ _ q=>⟨rfl,q⟩)
theorem zmp {Q:VK}{D C:Addr}{s':Shared}{H':Hp}{acc:List V}(I2:Inv X pins σ H₂ s₂)(hC:s₂.heap.objs.size<=C)(hCn:H' C=none)(hDC:D≠C)(hns:∃ m,s'.heap.Ns C m)(I':Inv X pins σ (upd H' D (.lst acc)) s')(q:Q (.ref D) (upd H' D (.lst acc))) :
  compPost (model X.prog X.w) X.A X.xe none (EP X pins σ Q) (.ref D) C (.ok .next) s':=by
 obtain ⟨m,hn⟩:=hns
 have f:=I2.fpOk (H':=upd H' D (.lst acc)) hC (by rw [zac (Ne.symm hDC)];exact hCn)
 exact ⟨m,hn,fun h' hs'=>⟨.ref D,_,I'.turned (t':=s'.toks) (fun b o hb e=>hs'.extBut b o hb e) f.1 f.2.1 f.2.2.2.1 f.2.2.2.2.1 f.2.2.2.2.2,rfl,q⟩⟩
theorem zmq {D':Ends}{D C:Addr}{s':Shared}{H':Hp}{acc:List V}{i:Nat}{y:Str}{py:Pos}(hN:X.N.Nodup)(hiy:X.N[i]?=some y)(hy:X.env.scope.names.lookup y=some .local)(I2:Inv X pins σ H₂ s₂)(hC:s₂.heap.objs.size<=C)(hCn:H' C=none)(hDC:D≠C)(hns:∃ m,s'.heap.Ns C m)(I':Inv X pins σ (upd H' D (.lst acc)) s')(q:D'.nx (σ.set i (some (.ref D))) (upd H' D (.lst acc))) :
  compPost (model X.prog X.w) X.A X.xe (some (assign (.Name y py) X.env)) (fun _ s'=>SP X pins D' .next s') (.ref D) C (.ok .next) s':=by
 obtain ⟨m,hn⟩:=hns
 have f:=I2.fpOk (H':=upd H' D (.lst acc)) hC (by rw [zac (Ne.symm hDC)];exact hCn)
 refine wpAny_assign_Name (zgh I' hN hiy (.inl hy) (v:=.ref D) rfl (fun t It ⟨a,sb,ha⟩=>?_) (.inr hy))
 have ne:C≠a:=ha.elim (fun e=>e ▸ f.2.1) fun e z=>f.2.2.2.2.1 y a e z.symm
 exact ⟨m,hn.sameBut sb ne,fun h' hs'=>⟨_,_,It.turned (t':=t.toks) (fun b o hb e=>hs'.extBut b o hb e) f.1 f.2.1 f.2.2.2.1 f.2.2.2.2.1 f.2.2.2.2.2,q⟩⟩
theorem zjw {gens:List Comprehension}{y:Str}{py spos:Pos}{Q:Flow->Shared->Prop}{s:Shared}(hsw:swapsWith (.ListComp elt gens scope pos) (some (.Name y py)) spos.line X.env=pure true)
  (h:wpAny (model X.prog X.w) X.A (comprehension (.ListComp elt gens scope pos) scope X.env (firstIterPos gens pos) (newList []) (firstAsync gens) (firstIter gens X.env) (some (assign (.Name y py) X.env))) (fun _=>Q .next) X.xe s) :
  wpAny (model X.prog X.w) X.A (exec (.Assign [.Name y py] (.ListComp elt gens scope pos) spos) X.env) Q X.xe s:=by
 have u:wpAny (model X.prog X.w) X.A (evalThenUse (.ListComp elt gens scope pos) X.env (assign (.Name y py) X.env)) (fun _=>Q .next) X.xe s:=wpAny_bind (thn h fun _ _ q=>wpAny_pure q)
 exact (exec_Assign_Name_used y py _ spos hsw) ▸ wpAny_bind (wpAny_standAt (wpAny_bind (thn u fun _ _ q=>wpAny_pure q)))
theorem zgU {gens:List Comprehension}{wi:TI}{use:Option (Value->Sem Unit)}{Q:Value->Shared->Prop}{s:Shared}{H:Hp}{K:It->Hp->Prop}{ps:Pos}(S:CompSc X scope N' src)(hi:PI X tg iter wi)(hs:∀ x,foldedSetIterable iter X.env x=pure x)(I:Inv X pins σ H s)(h:wi σ H K)
  (k:∀ s₂ H₂ it fp tn J,Inv X pins σ H₂ s₂->Turn X.prog X.w X.K tg J fp it tn->tn 0 s₂.heap->(∀ b ∈ fp,FpOk X pins H₂ b)->K J H₂ ->
   wpAny (model X.prog X.w) X.A (newList []) (fun acc s₃=>wpAny (model X.prog X.w) X.A (newFunctionEnv scope X.env.globals (closL X.env.cells scope.names []) [] X.env.qual none .none (some X.env)) (fun cenv s₄ =>
    codeAny (model X.prog X.w) X.A (.compStart (.ListComp elt (⟨tg,iter,ifs,0⟩ :: gens) scope pos) 0 (.ref it) acc { cenv with scope:=relabel scope X.env }) (compPost (model X.prog X.w) X.A X.xe use Q acc cenv.locals) s₄) X.xe s₃) X.xe s₂) :
  wpAny (model X.prog X.w) X.A (comprehension (.ListComp elt (⟨tg,iter,ifs,0⟩ :: gens) scope pos) scope X.env ps (newList []) false (eval iter X.env) use) Q X.xe s:=by
 refine wpAny_comprehension_free rfl hs (zfY (S.cells I)) S.kind S.names (thn (hi pins s σ H K I h) fun _ _ q=>thn q ?_)
 rintro _ s₂ ⟨it,fp,tn,J,H₂,rfl,I2,T,st,f,q⟩
 exact k s₂ H₂ it fp tn J I2 T st f q
theorem zbV {wi:TI}(hc:X.calm=true)(S:CompSc X scope N' src)(hi:PI X tg iter wi)(hg:∀ C s H fp,PG (blk X scope N' C s H fp) tg g)(ht:∀ C s H fp,PTs (blk X scope N' C s H fp) ifs tt)(he:∀ C s H fp,PE (blk X scope N' C s H fp) elt te)
  (hs:∀ x,foldedSetIterable iter X.env x=pure x:=by intro _;rfl):PE X (.ListComp elt [⟨tg,iter,ifs,0⟩] scope pos) (tComp src wi g tt te):=by
 intro pins s σ H Q I h
 rw [eval_ListComp]
 refine zgU S hi hs I h fun s₂ H₂ it fp tn J I2 T st f ⟨W,w0,turn⟩=>?_
 exact zfg hc S I2 T st f (fun C=>hg C s₂ H₂ fp) (fun C=>ht C s₂ H₂ fp) (fun C=>he C s₂ H₂ fp) w0 turn fun D C s' H' acc a1 a2 a3 a4 a5 a6 fin=>zmp I2 a1 a2 a3 a4 a5 (fin D a6)
theorem zc5 {wi:TI}{i:Nat}{y:Str}{py spos:Pos}(hN:X.N.Nodup)(hiy:X.N[i]?=some y)(hy:X.env.scope.names.lookup y=some .local)(hsw:swapsWith (.ListComp elt [⟨tg,iter,ifs,0⟩] scope pos) (some (.Name y py)) spos.line X.env=pure true)
  (hc:X.calm=true) (S:CompSc X scope N' src) (hi:PI X tg iter wi) (hg:∀ C s H fp,PG (blk X scope N' C s H fp) tg g) (ht:∀ C s H fp,PTs (blk X scope N' C s H fp) ifs tt) (he:∀ C s H fp,PE (blk X scope N' C s H fp) elt te)
  (hs:∀ x,foldedSetIterable iter X.env x=pure x:=by intro _;rfl):PS X (.Assign [.Name y py] (.ListComp elt [⟨tg,iter,ifs,0⟩] scope pos) spos) (tAsg (tComp src wi g tt te) (gName i)):=by
 intro pins s σ H D I h
 refine zjw hsw ?_
 refine zgU S hi hs I h fun s₂ H₂ it fp tn J I2 T st f ⟨W,w0,turn⟩=>?_
 exact zfg hc S I2 T st f (fun C=>hg C s₂ H₂ fp) (fun C=>ht C s₂ H₂ fp) (fun C=>he C s₂ H₂ fp) w0 turn fun D C s' H' acc a1 a2 a3 a4 a5 a6 fin=>zmq hN hiy hy I2 a1 a2 a3 a4 a5 (fin D a6)
end
end L2
namespace L2
open PySem PySem.Spec PyProof.Rows
noncomputable def zim:List Str->Bool
 | []=>true
 | x :: r=>!r.contains x && zim r
theorem zgx:∀ {l:List Str},zim l=true->l.Nodup
 | [],_=>List.nodup_nil
 | x :: r,h=>by
  simp only [zim,Bool.and_eq_true,Bool.not_eq_true',List.contains_eq_mem,decide_eq_false_iff_not] at h
  exact List.nodup_cons.mpr ⟨h.1,zgx h.2⟩
noncomputable def compB (N:List Str)(names:List (Str×NameKind))(scope:Scope)(N':List Str)(src:List (Option Nat)):Bool :=
 decide (scope.kind = .function) && scope.names.all (fun y=>decide (y.2≠.cell)) && scope.names.all (fun y=>decide (y.2≠.local) || decide (scope.names.lookup y.1=some .local)) &&
 scope.names.all (fun y=>decide (y.2≠.free) || (decide (names.lookup y.1=some .cell) || decide (names.lookup y.1=some .free))) && zim N' && srcOk N scope.names src N'
theorem CompSc.by {X:Cx}{N:List Str}{names:List (Str×NameKind)}{scope:Scope}{N':List Str}{src:List (Option Nat)}(h:compB N names scope N' src=true)(hN:X.N=N)(hE:X.env.scope.names=names):CompSc X scope N' src:=by
 subst hN hE
 simp only [compB,Bool.and_eq_true,List.all_eq_true,Bool.or_eq_true,decide_eq_true_eq] at h
 obtain ⟨⟨⟨⟨⟨h1,h2⟩,h3⟩,h4⟩,h5⟩,h6⟩:=h
 exact ⟨h1,h2,fun y hy hk=>(h3 y hy).resolve_left fun z=>z hk,fun y hy hk=>(h4 y hy).resolve_left fun z=>z hk,zgx h5,h6⟩
noncomputable def Own (P:Program)(w:World)(K:PySem.W.Frag)(mg:Str->Option Value)(base:Heap)(CX:CXT)(k:Nat)(x:Str)(sp:Sp):Prop :=
 ∃ f fd ps,FnOk P w K mg base CX k f fd ps sp/\mg x=some (.ref f)/\PySem.W.keepIn K (.ref f)=true/\Binds K fd ps []
section
variable {X:Cx}{CX:CXT}{k:Nat}{sp:Sp}{E:XK}{x:Str}{p pos:Pos}{e:Expr}{es:List Expr}{t:TA}
theorem zan (O:Own X.prog X.w X.K X.mg X.base CX k x sp)(hr:Room k X.A)(hx:Passes CX X E)(hg:Gl X x)(ha:PA X (e :: es) t)(hdb:(x == ("__debug__" : Str))=false:=by decide)
  (he:starEach (e :: es) X.env=(false,eval e X.env) :: starEach es X.env:=by rfl) (hpl:(backTo pos (starEach es X.env)).any (·.1)=false:=by rfl):PE X (.Call (.Name x p) (e :: es) [] pos) (tCall sp [] E t):=by
 obtain ⟨f,fd,ps,F,hm,hk,hb⟩:=O
 exact znv F hr hg hm hk hb .nil hx ha hdb he hpl
theorem zbL {v:V}(hm:∃ u,X.mg x=some u/\RelV v u)(hg:Gl X x)(hd:(x == ("__debug__" : Str))=false:=by decide):PE X (.Name x pos) (tC v):=by
 obtain ⟨u,h,r⟩:=hm
 exact znu hg h r hd
end
noncomputable def OwnM (P:Program)(w:World)(K:PySem.W.Frag)(mg:Str->Option Value)(base:Heap)(CX:CXT)(k:Nat)(C:Addr)(m:Str)(sp:Sp):Prop :=
 ∃ f fd ps,FnOk P w K mg base CX k f fd ps sp/\Meth K C m f/\Binds K fd ps []/\Cls K C
end L2
namespace L2
open PySem PySem.Spec PyProof.Rows
section
variable {X:Cx}
noncomputable def ixV (H:Hp):V->V->Option V
 | .ref p,.int i=>match H p with
  | some (.lst xs)=>atI xs i
  | some (.tup xs)=>atI xs i
  | some (.frz _ (.lst xs))=>atI xs i
  | _=>none
 | .str z,.int i=>if z.length<=sizeLine then (atI z.cps.toList i).map fun c=>.str ⟨#[c]⟩ else none
 | _,_=>none
theorem ix_F:IxR X (fun x y H Q=>∃ v,ixV H x y=some v/\Q v H):=by
 intro value slice pins s σ H x y v u Q I rx ry h hs
 obtain ⟨z,e,q⟩:=h
 refine zmS value slice pins s σ H x y v u Q I rx ry ?_ hs
 cases x with
 | ref p =>
  cases y with
  | int i =>
   unfold ixV at e
   dsimp only at e
   split at e
   ·rename_i xs hp;exact .inl ⟨p,xs,i,z,rfl,rfl,SqL.of hp,e,q⟩
   ·rename_i xs hp;exact .inr (.inl ⟨p,xs,i,z,rfl,rfl,SqT.of hp,e,q⟩)
   ·rename_i o xs hp;exact .inl ⟨p,xs,i,z,rfl,rfl,.inl (.inr ⟨o,hp⟩),e,q⟩
   ·cases e
  | _=>cases e
 | str t =>
  cases y with
  | int i =>
   unfold ixV at e
   dsimp only at e
   split at e
   ·rename_i hz
    cases ea:atI t.cps.toList i with
    | none=>rw [ea] at e;cases e
    | some c =>
     rw [ea] at e
     cases e
     exact .inr (.inr ⟨t,i,c,rfl,rfl,hz,ea,q⟩)
   ·cases e
  | _=>cases e
 | _=>cases e
noncomputable def lenV (H:Hp):V->Option Nat
 | .ref p=>match H p with
  | some (.lst xs)=>some xs.length
  | some (.tup xs)=>some xs.length
  | some (.frz _ (.lst xs))=>some xs.length
  | some (.dK kvs)=>some kvs.length
  | _=>none
 | .str z=>if z.length<=sizeLine then some z.length else none
 | _=>none
theorem CallR.or' {f:Value}{r r':List V->Hp->VK->Prop}(h:CallR X f r)(h':CallR X f r'):CallR X f (fun xs H Q=>r xs H Q∨r' xs H Q):=by
 intro pins s σ H xs us Q I rs q
 rcases q with q | q
 ·exact h pins s σ H xs us Q I rs q
 ·exact h' pins s σ H xs us Q I rs q
theorem CallR.imp {f:Value}{r r':List V->Hp->VK->Prop}(h:CallR X f r)(i:∀ xs H Q,r' xs H Q->r xs H Q):CallR X f r':=fun pins s σ H xs us Q I rs q=>h pins s σ H xs us Q I rs (i _ _ _ q)
theorem OpR.imp {f:Value->Value->Sem Value}{r r':R2}(h:OpR X f r)(i:∀ x y H Q,r' x y H Q->r x y H Q):OpR X f r':=fun pins s σ H x y v u Q I rx ry q=>h pins s σ H x y v u Q I rx ry (i _ _ _ _ q)
noncomputable def r1 (f:Hp->V->Option V):List V->Hp->VK->Prop:=fun xs H Q=>∃ x v,xs=[x]/\f H x=some v/\Q v H
theorem zaM:CallR X (.builtin "len") (r1 fun H x=>(lenV H x).map fun n=>.int n):=by
 refine ((zcJ.or' zg1).or' zlg).imp fun xs H Q h=>?_
 obtain ⟨x,v,rfl,e,q⟩:=h
 cases x with
 | ref p =>
  unfold lenV at e
  dsimp only at e
  split at e
  ·rename_i xs hp;cases e;exact .inl (.inl ⟨p,xs,rfl,.inl (SqL.of hp),q⟩)
  ·rename_i xs hp;cases e;exact .inl (.inl ⟨p,xs,rfl,.inr (SqT.of hp),q⟩)
  ·rename_i o xs hp;cases e;exact .inl (.inl ⟨p,xs,rfl,.inl (.inl (.inr ⟨o,hp⟩)),q⟩)
  ·rename_i kvs hp;cases e;exact .inr ⟨p,kvs,rfl,hp,q⟩
  ·cases e
 | str z =>
  unfold lenV at e
  dsimp only at e
  split at e
  ·rename_i hz;cases e;exact .inl (.inr ⟨z,rfl,hz,q⟩)
  ·cases e
 | _=>cases e
noncomputable def intV:V->Option V
 | .int i=>some (.int i)
 | .bl k=>some (.int (if k then 1 else 0))
 | _=>none
theorem zg3:CallR X (.type "int") (r1 fun _ x=>intV x):=by
 refine zlh.imp fun xs H Q h=>?_
 obtain ⟨x,v,rfl,e,q⟩:=h
 cases x with
 | int i=>cases e;exact .inl ⟨i,rfl,q⟩
 | bl k=>cases e;exact .inr ⟨k,rfl,q⟩
 | _=>cases e
noncomputable def addV:V->V->Option V
 | .int i,.int j=>some (.int (i + j))
 | .str i,.str j=>if i.length + j.length<=sizeLine then some (.str (i ++ j)) else none
 | _,_=>none
noncomputable def catO (H:Hp):V->V->Option HO
 | .ref a,.ref b=>match H a,H b with
  | some (.lst xs),some (.lst ys)=>if xs.length + ys.length<=sizeLine then some (.lst (xs ++ ys)) else none
  | some (.tup xs),some (.tup ys)=>if xs.length + ys.length<=sizeLine/\xs≠[]/\ys≠[] then some (.tup (xs ++ ys)) else none
  | _,_=>none
 | _,_=>none
noncomputable def rAddF:R2:=fun x y H Q=>(∃ v,addV x y=some v/\Q v H)∨(∃ o,catO H x y=some o/\∀ p,H p=none->Q (.ref p) (upd H p o))
theorem zaG:OpR X (binaryOp .Add) rAddF:=by
 refine ((zoT.or zi1).or (zoS.or znF)).imp fun x y H Q h=>?_
 rcases h with ⟨v,e,q⟩ | ⟨o,e,q⟩
 ·cases x with
  | int i=>cases y with
   | int j=>cases e;exact .inl (.inl ⟨i,j,rfl,rfl,q⟩)
   | _=>cases e
  | str i=>cases y with
   | str j =>
    unfold addV at e
    dsimp only at e
    split at e
    ·rename_i hz;cases e;exact .inl (.inr ⟨i,j,rfl,rfl,hz,q⟩)
    ·cases e
   | _=>cases e
  | _=>cases e
 ·cases x with
  | ref a=>cases y with
   | ref b =>
    unfold catO at e
    dsimp only at e
    split at e
    ·rename_i xs ys ha hb
     split at e
     ·rename_i hz;cases e;exact .inr (.inl ⟨a,b,xs,ys,rfl,rfl,ha,hb,hz,q⟩)
     ·cases e
    ·rename_i xs ys ha hb
     split at e
     ·rename_i hz;cases e;exact .inr (.inr ⟨a,b,xs,ys,rfl,rfl,SqT.of ha,SqT.of hb,hz.2.1,hz.1,fun w=>absurd w hz.2.2,fun _=>q⟩)
     ·cases e
    ·cases e
   | _=>cases e
  | _=>cases e
end
end L2
namespace L2
open PySem PySem.Spec PyProof.Rows
inductive D where
 | non | bl (b:Bool) | int (i:Int) | str (x:Str) | tup (xs:List D) | lst (xs:List D)
mutual
noncomputable def Rep (H:Hp):D->V->Prop
 | .non,v=>v = .non
 | .bl b,v=>v = .bl b
 | .int i,v=>v = .int i
 | .str x,v=>v = .str x
 | .tup ds,v=>∃ a vs,v = .ref a/\H a=some (.tup vs)/\Reps H ds vs
 | .lst ds,v=>∃ a vs,v = .ref a/\H a=some (.lst vs)/\Reps H ds vs
noncomputable def Reps (H:Hp):List D->List V->Prop
 | [],vs=>vs=[]
 | d :: ds,vs=>∃ v r,vs=v :: r/\Rep H d v/\Reps H ds r
end
mutual
theorem Rep.same {H H':Hp}(s:Same H H'):∀ {d:D} {v:V},Rep H d v->Rep H' d v
 | .non,_,h=>h
 | .bl _,_,h=>h
 | .int _,_,h=>h
 | .str _,_,h=>h
 | .tup _,_,⟨a,vs,e,h,r⟩=>⟨a,vs,e,s _ _ h,Reps.same s r⟩
 | .lst _,_,⟨a,vs,e,h,r⟩=>⟨a,vs,e,s _ _ h,Reps.same s r⟩
theorem Reps.same {H H':Hp}(s:Same H H'):∀ {ds:List D} {vs:List V},Reps H ds vs->Reps H' ds vs
 | [],_,h=>h
 | _ :: _,_,⟨v,r,e,h,q⟩=>⟨v,r,e,Rep.same s h,Reps.same s q⟩
end
theorem Reps.length {H:Hp}:∀ {ds:List D} {vs:List V},Reps H ds vs->vs.length=ds.length
 | [],_,h=>by cases h;rfl
 | _ :: _,_,⟨v,r,e,_,q⟩=>by subst e;simp [Reps.length q]
theorem Reps.append {H:Hp}:∀ {ds es:List D} {vs ws:List V},Reps H ds vs->Reps H es ws->Reps H (ds ++ es) (vs ++ ws)
 | [],_,_,_,h,k=>by cases h;exact k
 | _ :: _,_,_,_,⟨v,r,e,h,q⟩,k=>by subst e;exact ⟨v,r ++ _,rfl,h,Reps.append q k⟩
theorem Reps.get {H:Hp}:∀ {ds:List D} {vs:List V} {i:Nat} {v:V},Reps H ds vs->vs[i]?=some v->∃ d,ds[i]?=some d/\Rep H d v
 | [],_,_,_,h,e=>by cases h;simp at e
 | d :: _,_,0,_,⟨v,r,e,h,q⟩,k=>by subst e;simp at k;subst k;exact ⟨d,rfl,h⟩
 | _ :: _,_,i + 1,_,⟨v,r,e,h,q⟩,k=>by subst e;simp at k;obtain ⟨d,h1,h2⟩:=Reps.get q k;exact ⟨d,by simpa using h1,h2⟩
theorem Reps.get' {H:Hp}:∀ {ds:List D} {vs:List V} {i:Nat} {d:D},Reps H ds vs->ds[i]?=some d->∃ v,vs[i]?=some v/\Rep H d v
 | [],_,_,_,_,e=>by simp at e
 | d :: _,_,0,_,⟨v,r,e,h,q⟩,k=>by subst e;simp at k;subst k;exact ⟨v,rfl,h⟩
 | _ :: _,_,i + 1,_,⟨v,r,e,h,q⟩,k=>by subst e;simp at k;obtain ⟨w,h1,h2⟩:=Reps.get' q k;exact ⟨w,by simpa using h1,h2⟩
mutual
noncomputable def eqD:D->D->Bool
 | .non,.non=>true
 | .bl a,.bl b=>a == b
 | .bl a,.int b=>(if a then 1 else 0) == b
 | .int a,.bl b=>a == (if b then 1 else 0)
 | .int a,.int b=>a == b
 | .str a,.str b=>a == b
 | .tup xs,.tup ys=>eqDs xs ys
 | .lst xs,.lst ys=>eqDs xs ys
 | _,_=>false
noncomputable def eqDs:List D->List D->Bool
 | [],[]=>true
 | x :: xs,y :: ys=>eqD x y && eqDs xs ys
 | _,_=>false
end
mutual
noncomputable def depD:D->Nat
 | .tup xs=>depDs xs + 1
 | .lst xs=>depDs xs + 1
 | _=>0
noncomputable def depDs:List D->Nat
 | []=>0
 | x :: xs=>max (depD x) (depDs xs)
end
end L2
namespace L2
open PySem PySem.Spec PyProof.Rows PySem.SeqAt
mutual
theorem Rep.inj {H:Hp}:∀ {d e:D} {v:V},Rep H d v->Rep H e v->d=e
 | .non,e,v,h,k=>by cases h;cases e <;> first | rfl | (exact absurd k (by simp [Rep])) | (obtain ⟨_,_,z,_⟩:=k;cases z)
 | .bl b,e,v,h,k=>by cases h;cases e <;> first | (cases k;rfl) | (exact absurd k (by simp [Rep])) | (obtain ⟨_,_,z,_⟩:=k;cases z)
 | .int b,e,v,h,k=>by cases h;cases e <;> first | (cases k;rfl) | (exact absurd k (by simp [Rep])) | (obtain ⟨_,_,z,_⟩:=k;cases z)
 | .str b,e,v,h,k=>by cases h;cases e <;> first | (cases k;rfl) | (exact absurd k (by simp [Rep])) | (obtain ⟨_,_,z,_⟩:=k;cases z)
 | .tup ds,e,v,⟨a,vs,h1,h2,h3⟩,k=>by
  subst h1
  cases e with
  | tup es =>
   obtain ⟨b,ws,k1,k2,k3⟩:=k
   cases k1
   rw [h2] at k2
   cases k2
   rw [Reps.inj h3 k3]
  | lst es =>
   obtain ⟨b,ws,k1,k2,k3⟩:=k
   cases k1
   rw [h2] at k2
   cases k2
  | _=>exact absurd k (by simp [Rep])
 | .lst ds,e,v,⟨a,vs,h1,h2,h3⟩,k=>by
  subst h1
  cases e with
  | lst es =>
   obtain ⟨b,ws,k1,k2,k3⟩:=k
   cases k1
   rw [h2] at k2
   cases k2
   rw [Reps.inj h3 k3]
  | tup es =>
   obtain ⟨b,ws,k1,k2,k3⟩:=k
   cases k1
   rw [h2] at k2
   cases k2
  | _=>exact absurd k (by simp [Rep])
theorem Reps.inj {H:Hp}:∀ {ds es:List D} {vs:List V},Reps H ds vs->Reps H es vs->ds=es
 | [],[],_,_,_=>rfl
 | [],e :: es,_,h,k=>by cases h;obtain ⟨_,_,z,_⟩:=k;cases z
 | d :: ds,[],_,h,k=>by cases k;obtain ⟨_,_,z,_⟩:=h;cases z
 | d :: ds,e :: es,_,⟨v,r,h1,h2,h3⟩,⟨w,q,k1,k2,k3⟩=>by
  subst h1
  cases k1
  rw [Rep.inj h2 k2,Reps.inj h3 k3]
end
mutual
theorem zb5:∀ d:D,eqD d d=true
 | .non=>rfl
 | .bl b=>by simp [eqD]
 | .int b=>by simp [eqD]
 | .str b=>by simp [eqD]
 | .tup xs=>by rw [eqD];exact zeH xs
 | .lst xs=>by rw [eqD];exact zeH xs
theorem zeH:∀ ds:List D,eqDs ds ds=true
 | []=>rfl
 | d :: ds=>by rw [eqDs,zb5 d,zeH ds];rfl
end
theorem zeY (n:Nat)(f:Nat->Bool):(List.range (n + 1)).all f=(f 0 && (List.range n).all fun j=>f (j + 1)):=by
 have e:=List.range_succ_eq_map (n:=n);rw [e,List.all_cons,List.all_map]
 rfl
theorem zb4:∀ ds es:List D,eqDs ds es=((List.range (min ds.length es.length)).all (fun j=>eqD (ds.getD j .non) (es.getD j .non)) && ds.length == es.length)
 | [],[]=>rfl
 | [],e :: es=>by simp [eqDs]
 | d :: ds,[]=>by simp [eqDs]
 | d :: ds,e :: es=>by
  rw [eqDs,zb4 ds es]
  have e1:min (d :: ds).length (e :: es).length=min ds.length es.length + 1:=by simp only [List.length_cons];omega
  rw [e1,zeY]
  simp only [List.getD_cons_zero,List.getD_cons_succ,List.length_cons]
  rw [Bool.and_assoc]
  congr 2
  rw [Bool.eq_iff_iff];simp
section
variable {P:Program}{w:World}{H:Hp}{s:Shared}
theorem zb3 (ok:HOk P w H s.heap){a:Addr}{vs:List V}(h:H a=some (.lst vs)):∃ its:List Value,Vals vs its/\s.heap.IsList a its.toArray:=by
 obtain ⟨_,its,n,r,e⟩:=ok a _ h
 exact ⟨its,r,⟨_,e,rfl,n,rfl⟩⟩
theorem zcI (ok:HOk P w H s.heap){a:Addr}{vs:List V}(h:H a=some (.tup vs)):∃ its:List Value,Vals vs its/\s.heap.IsTuple a its.toArray:=by
 obtain ⟨_,its,r,e⟩:=ok a _ h
 exact ⟨its,r,e⟩
theorem zbk (A:Around):A.in1.units=A.units + 1:=rfl
noncomputable def Shp (u:Value):Prop:=u = .none∨(∃ b,u = .bool b)∨(∃ i t,u = .int i t)∨(∃ x t,u = .str x t)∨∃ a,u = .ref a
theorem zmI {H:Hp}{d:D}{v:V}{u:Value}(h:Rep H d v)(r:RelV v u):Shp u:=by
 cases d with
 | non=>cases h;exact .inl r
 | bl b=>cases h;exact .inr (.inl ⟨b,r⟩)
 | int i=>cases h;obtain ⟨t,e⟩:=r;exact .inr (.inr (.inl ⟨i,t,e⟩))
 | str x=>cases h;obtain ⟨t,e⟩:=r;exact .inr (.inr (.inr (.inl ⟨x,t,e⟩)))
 | tup ds=>obtain ⟨a,vs,e,_⟩:=h;subst e;exact .inr (.inr (.inr (.inr ⟨a,r⟩)))
 | lst ds=>obtain ⟨a,vs,e,_⟩:=h;subst e;exact .inr (.inr (.inr (.inr ⟨a,r⟩)))
theorem zoc {A:Around}{s:Shared}{u u':Value}{b:Bool}(hu:Shp u)(hu':Shp u')(hs:u≠u')(q:RcAt A s u u' b):EqAt A s u u' b:=by
 intro prog w E Q hq
 unfold eqBool
 refine wpAny_holding ?_
 refine wpAny_ite_split (fun hab=>absurd (eq_of_beq hab) hs) (fun _=>?_)
 have q':=q prog w E (fun v s'=>wpAny (model prog w) A (truthOfDropped v) Q E s') (wpAny_truthy_bool hq)
 rcases hu with rfl | ⟨_,rfl⟩ | ⟨_,_,rfl⟩ | ⟨_,_,rfl⟩ | ⟨_,rfl⟩ <;> rcases hu' with rfl | ⟨_,rfl⟩ | ⟨_,_,rfl⟩ | ⟨_,_,rfl⟩ | ⟨_,rfl⟩ <;> exact wpAny_bind q'
theorem zk4 {A:Around}{d e:D}{v v':V}{u u':Value}(h:Rep H d v)(k:Rep H e v')(r:RelV v u)(r':RelV v' u')(q:RcAt A s u u' (eqD d e)):EqAt A s u u' (eqD d e):=by
 by_cases hs:u=u'
 ·subst hs
  have e1:v=v':=r.inj r'
  subst e1
  have e2:=Rep.inj h k
  subst e2
  rw [zb5]
  exact EqAt.same u
 ·exact zoc (zmI h r) (zmI k r') hs q
noncomputable def zf2 (s:Shared)(H:Hp)(n:Nat):Prop:=∀ (d e:D) (A:Around) (v v':V) (u u':Value),depD d < n->Rep H d v->Rep H e v'->RelV v u->RelV v' u'->A.units + depD d < cLine->RcAt A s u u' (eqD d e)
theorem ziD {n:Nat}(ih:zf2 s H n):∀ {ds es:List D} {A:Around} {vs ws:List V} {us us':List Value},depDs ds < n->Reps H ds vs->Reps H es ws->Vals vs us->Vals ws us'->A.units + depDs ds < cLine ->
  ∀ j (h1:j < us.length) (h2:j < us'.length),EqAt A s us[j] us'[j] (eqD (ds.getD j .non) (es.getD j .non)):=by
 intro ds
 induction ds with
 | nil=>intro es A vs ws us us' _ h _ r _ _ j h1;cases h;cases r;exact absurd h1 (Nat.not_lt_zero _)
 | cons d ds hs =>
  intro es A vs ws us us' hn h k r r' hu j h1 h2
  cases es with
  | nil=>cases k;cases r';exact absurd h2 (Nat.not_lt_zero _)
  | cons e es =>
   obtain ⟨v,vr,q1,q2,q3⟩:=h
   obtain ⟨y,wr,p1,p2,p3⟩:=k
   subst q1 p1
   rw [depDs] at hu hn
   cases r with
   | cons r1 r2 =>
    cases r' with
    | cons r1' r2' =>
     cases j with
     | zero=>exact zk4 q2 p2 r1 r1' (ih d e A v y _ _ (Nat.lt_of_le_of_lt (Nat.le_max_left _ _) hn) q2 p2 r1 r1' (Nat.lt_of_le_of_lt (Nat.add_le_add_left (Nat.le_max_left _ _) _) hu))
     | succ j=>exact hs (Nat.lt_of_le_of_lt (Nat.le_max_right _ _) hn) q3 p3 r2 r2' (Nat.lt_of_le_of_lt (Nat.add_le_add_left (Nat.le_max_right _ _) _) hu) j (Nat.lt_of_succ_lt_succ h1) (Nat.lt_of_succ_lt_succ h2)
theorem znm (ok:HOk P w H s.heap){n:Nat}(ih:zf2 s H n){ds es:List D}{A:Around}{v v':V}{u u':Value}(hn:depDs ds < n)(h:Rep H (.tup ds) v)(k:Rep H (.tup es) v')(r:RelV v u)(r':RelV v' u')(hu:A.units + depDs ds + 1 < cLine):RcAt A s u u' (eqD (.tup ds) (.tup es)):=by
 obtain ⟨a,vs,h1,h2,h3⟩:=h
 obtain ⟨b,ws,k1,k2,k3⟩:=k
 subst h1 k1;cases r;cases r'
 obtain ⟨its,rv,hl⟩:=zcI ok h2
 obtain ⟨its2,rv2,hl2⟩:=zcI ok k2
 have q:=RcAt.tuples (A:=A) hl hl2 (by omega) (e:=fun j=>eqD (ds.getD j .non) (es.getD j .non)) fun j h1 h2=>ziD ih hn h3 k3 rv rv2 (A:=A.in1) (by rw [zbk];omega) j h1 h2
 have e1:its.toArray.size=ds.length:=by rw [List.size_toArray,← rv.length,h3.length]
 have e2:its2.toArray.size=es.length:=by rw [List.size_toArray,← rv2.length,k3.length]
 rw [e1,e2,← zb4] at q
 exact q
theorem znn (ok:HOk P w H s.heap){n:Nat}(ih:zf2 s H n){ds es:List D}{A:Around}{v v':V}{u u':Value}(hn:depDs ds < n)(h:Rep H (.lst ds) v)(k:Rep H (.lst es) v')(r:RelV v u)(r':RelV v' u')(hu:A.units + depDs ds + 1 < cLine):RcAt A s u u' (eqD (.lst ds) (.lst es)):=by
 obtain ⟨a,vs,h1,h2,h3⟩:=h
 obtain ⟨b,ws,k1,k2,k3⟩:=k
 subst h1 k1;cases r;cases r'
 obtain ⟨its,rv,hl⟩:=zb3 ok h2
 obtain ⟨its2,rv2,hl2⟩:=zb3 ok k2
 have e1:its.toArray.size=ds.length:=by rw [List.size_toArray,← rv.length,h3.length]
 have e2:its2.toArray.size=es.length:=by rw [List.size_toArray,← rv2.length,k3.length]
 by_cases hz:its.toArray.size=its2.toArray.size
 ·have q:=RcAt.lists (A:=A) hl hl2 hz (by omega) (e:=fun j=>eqD (ds.getD j .non) (es.getD j .non)) fun j h1 h2=>ziD ih hn h3 k3 rv rv2 (A:=A.in1) (by rw [zbk];omega) j h1 h2
  have e3:ds.length=es.length:=by rw [← e1,← e2];exact hz
  have e4:eqD (.lst ds) (.lst es)=(List.range its.toArray.size).all fun j=>eqD (ds.getD j .non) (es.getD j .non):=by
   rw [eqD,zb4,e3,Nat.min_self,e1,e3,beq_self_eq_true,Bool.and_true]
  rw [e4]
  exact q
 ·have q:=RcAt.lists_lengths (A:=A) hl hl2 (bne_iff_ne.mpr hz) (by omega)
  have e4:eqD (.lst ds) (.lst es)=false:=by
   rw [eqD,zb4]
   have:(ds.length == es.length)=false:=beq_eq_false_iff_ne.mpr (by rw [← e1,← e2];exact hz)
   rw [this,Bool.and_false]
  rw [e4]
  exact q
inductive Kd (s:Shared):D->Value->Prop
 | non:Kd s .non .none
 | bl (b:Bool):Kd s (.bl b) (.bool b)
 | int (i:Int) (t:Tok):Kd s (.int i) (.int i t)
 | str (x:Str) (t:Tok):Kd s (.str x) (.str x t)
 | tup {ds:List D} {a:Addr} {its:List Value}:s.heap.IsTuple a its.toArray->Kd s (.tup ds) (.ref a)
 | lst {ds:List D} {a:Addr} {its:List Value}:s.heap.IsList a its.toArray->Kd s (.lst ds) (.ref a)
theorem zmh (ok:HOk P w H s.heap):∀ {d:D} {v:V} {u:Value},Rep H d v->RelV v u->Kd s d u
 | .non,_,_,h,r=>by cases h;cases r;exact .non
 | .bl b,_,_,h,r=>by cases h;cases r;exact .bl b
 | .int i,_,_,h,r=>by cases h;obtain ⟨t,rfl⟩:=r;exact .int i t
 | .str x,_,_,h,r=>by cases h;obtain ⟨t,rfl⟩:=r;exact .str x t
 | .tup _,_,_,⟨_,_,e,h,_⟩,r=>by subst e;cases r;obtain ⟨_,_,hl⟩:=zcI ok h;exact .tup hl
 | .lst _,_,_,⟨_,_,e,h,_⟩,r=>by subst e;cases r;obtain ⟨_,_,hl⟩:=zb3 ok h;exact .lst hl
theorem zno {A:Around}{d e:D}{u u':Value}(hA:A.units < cLine)(h:Kd s d u)(k:Kd s e u')(n1:∀ xs ys,d = .tup xs->e≠.tup ys)(n2:∀ xs ys,d = .lst xs->e≠.lst ys):RcAt A s u u' (eqD d e):=by
 cases h with
 | non=>cases k with
  | non=>exact RcAt.none_none
  | bl c=>exact RcAt.none_bool c
  | int c t=>exact RcAt.none_int c t
  | str c t=>exact RcAt.none_str c t
  | tup l=>exact RcAt.none_tuple l hA
  | lst l=>exact RcAt.none_list l hA
 | bl x=>cases k with
  | non=>exact RcAt.bool_none x
  | bl c=>exact RcAt.bool_bool x c
  | int c t=>exact RcAt.bool_int x c t
  | str c t=>exact RcAt.bool_str x c t
  | tup l=>exact RcAt.bool_tuple x l hA
  | lst l=>exact RcAt.bool_list x l hA
 | int x tx=>cases k with
  | non=>exact RcAt.int_none x tx
  | bl c=>exact RcAt.int_bool x tx c
  | int c t=>exact RcAt.int_int x tx c t
  | str c t=>exact RcAt.int_str x tx c t
  | tup l=>exact RcAt.int_tuple x tx l hA
  | lst l=>exact RcAt.int_list x tx l hA
 | str x tx=>cases k with
  | non=>exact RcAt.str_none x tx
  | bl c=>exact RcAt.str_bool x tx c
  | int c t=>exact RcAt.str_int x tx c t
  | str c t=>exact RcAt.str_str x tx c t
  | tup l=>exact RcAt.str_tuple x tx l hA
  | lst l=>exact RcAt.str_list x tx l hA
 | tup m=>cases k with
  | non=>exact RcAt.tuple_none m hA
  | bl c=>exact RcAt.tuple_bool c m hA
  | int c t=>exact RcAt.tuple_int c t m hA
  | str c t=>exact RcAt.tuple_str c t m hA
  | tup l=>exact absurd rfl (n1 _ _ rfl)
  | lst l=>exact RcAt.tuple_list m l hA
 | lst m=>cases k with
  | non=>exact RcAt.list_none m hA
  | bl c=>exact RcAt.list_bool c m hA
  | int c t=>exact RcAt.list_int c t m hA
  | str c t=>exact RcAt.list_str c t m hA
  | tup l=>exact RcAt.list_tuple m l hA
  | lst l=>exact absurd rfl (n2 _ _ rfl)
theorem zet (ok:HOk P w H s.heap):∀ n,zf2 s H n
 | 0=>fun _ _ _ _ _ _ _ h=>absurd h (Nat.not_lt_zero _)
 | n + 1=>fun d e A v v' u u' hn h k r r' hu=>by
  have hA:A.units < cLine:=Nat.lt_of_le_of_lt (Nat.le_add_right _ _) hu
  by_cases c1:∃ xs ys,d = .tup xs/\e = .tup ys
  ·obtain ⟨xs,ys,rfl,rfl⟩:=c1
   rw [depD] at hu hn
   exact znm ok (zet ok n) (Nat.lt_of_succ_lt_succ hn) h k r r' hu
  ·by_cases c2:∃ xs ys,d = .lst xs/\e = .lst ys
   ·obtain ⟨xs,ys,rfl,rfl⟩:=c2
    rw [depD] at hu hn
    exact znn ok (zet ok n) (Nat.lt_of_succ_lt_succ hn) h k r r' hu
   ·exact zno hA (zmh ok h r) (zmh ok k r') (fun xs ys e1 e2=>c1 ⟨xs,ys,e1,e2⟩) (fun xs ys e1 e2=>c2 ⟨xs,ys,e1,e2⟩)
theorem rcAtD (ok:HOk P w H s.heap)(d e:D)(A:Around)(v v':V)(u u':Value)(h:Rep H d v)(k:Rep H e v')(r:RelV v u)(r':RelV v' u')(hu:A.units + depD d < cLine):RcAt A s u u' (eqD d e):=zet ok _ d e A v v' u u' (Nat.lt_succ_self _) h k r r' hu
theorem eqAtD (ok:HOk P w H s.heap)(d e:D)(A:Around)(v v':V)(u u':Value)(h:Rep H d v)(k:Rep H e v')(r:RelV v u)(r':RelV v' u')(hu:A.units + depD d < cLine):EqAt A s u u' (eqD d e):=zk4 h k r r' (rcAtD ok d e A v v' u u' h k r r' hu)
end
section
variable {X:Cx}
noncomputable def rEqD:R2:=fun x y H Q=>∃ d e,Rep H d x/\Rep H e y/\depD d<=60/\Q (.bl (eqD d e)) H
noncomputable def rNeD:R2:=fun x y H Q=>∃ d e,Rep H d x/\Rep H e y/\depD d<=60/\Q (.bl (!eqD d e)) H
theorem zbr (hu:X.A.units + 64 < cLine):OpR X (compareOp .Eq) rEqD:=by
 intro pins s σ H x y v u Q I rx ry h
 obtain ⟨d,e,hd,he,hz,q⟩:=h
 exact rcAtD I.hok d e X.A x y v u hd he rx ry (by omega) X.prog X.w X.xe _ ⟨.bl _,H,I,rfl,q⟩
end
end L2
namespace L2
open PySem PySem.Spec PyProof.Rows PySem.SeqAt
section
variable {P:Program}{w:World}{H:Hp}{s:Shared}
theorem znj (ok:HOk P w H s.heap){ds es:List D}{A:Around}{v v':V}{u u':Value}(h:Rep H (.tup ds) v)(k:Rep H (.tup es) v')(r:RelV v u)(r':RelV v' u')(hu:A.units + depDs ds + 1 < cLine):RcNeAt A s u u' (!eqD (.tup ds) (.tup es)):=by
 obtain ⟨a,vs,h1,h2,h3⟩:=h
 obtain ⟨b,ws,k1,k2,k3⟩:=k
 subst h1 k1;cases r;cases r'
 obtain ⟨its,rv,hl⟩:=zcI ok h2
 obtain ⟨its2,rv2,hl2⟩:=zcI ok k2
 have q:=RcNeAt.tuples (A:=A) hl hl2 (by omega) (e:=fun j=>eqD (ds.getD j .non) (es.getD j .non)) fun j h1 h2=>ziD (zet ok _) (Nat.lt_succ_self _) h3 k3 rv rv2 (A:=A.in1) (by rw [zbk];omega) j h1 h2
 have e1:its.toArray.size=ds.length:=by rw [List.size_toArray,← rv.length,h3.length]
 have e2:its2.toArray.size=es.length:=by rw [List.size_toArray,← rv2.length,k3.length]
 rw [e1,e2,← zb4] at q
 exact q
theorem znk (ok:HOk P w H s.heap){ds es:List D}{A:Around}{v v':V}{u u':Value}(h:Rep H (.lst ds) v)(k:Rep H (.lst es) v')(r:RelV v u)(r':RelV v' u')(hu:A.units + depDs ds + 1 < cLine):RcNeAt A s u u' (!eqD (.lst ds) (.lst es)):=by
 obtain ⟨a,vs,h1,h2,h3⟩:=h
 obtain ⟨b,ws,k1,k2,k3⟩:=k
 subst h1 k1;cases r;cases r'
 obtain ⟨its,rv,hl⟩:=zb3 ok h2
 obtain ⟨its2,rv2,hl2⟩:=zb3 ok k2
 have e1:its.toArray.size=ds.length:=by rw [List.size_toArray,← rv.length,h3.length]
 have e2:its2.toArray.size=es.length:=by rw [List.size_toArray,← rv2.length,k3.length]
 by_cases hz:its.toArray.size=its2.toArray.size
 ·have q:=RcNeAt.lists (A:=A) hl hl2 hz (by omega) (e:=fun j=>eqD (ds.getD j .non) (es.getD j .non)) fun j h1 h2=>ziD (zet ok _) (Nat.lt_succ_self _) h3 k3 rv rv2 (A:=A.in1) (by rw [zbk];omega) j h1 h2
  have e3:ds.length=es.length:=by rw [← e1,← e2];exact hz
  have e4:eqD (.lst ds) (.lst es)=(List.range its.toArray.size).all fun j=>eqD (ds.getD j .non) (es.getD j .non):=by
   rw [eqD,zb4,e3,Nat.min_self,e1,e3,beq_self_eq_true,Bool.and_true]
  rw [e4]
  exact q
 ·have q:=RcNeAt.lists_lengths (A:=A) hl hl2 (bne_iff_ne.mpr hz) (by omega)
  have e4:eqD (.lst ds) (.lst es)=false:=by
   rw [eqD,zb4]
   have:(ds.length == es.length)=false:=beq_eq_false_iff_ne.mpr (by rw [← e1,← e2];exact hz)
   rw [this,Bool.and_false]
  rw [e4]
  exact q
theorem znl {A:Around}{d e:D}{u u':Value}(hA:A.units < cLine)(h:Kd s d u)(k:Kd s e u')(n1:∀ xs ys,d = .tup xs->e≠.tup ys)(n2:∀ xs ys,d = .lst xs->e≠.lst ys):RcNeAt A s u u' (!eqD d e):=by
 cases h with
 | non=>cases k with
  | non=>exact RcNeAt.none_none
  | bl c=>exact RcNeAt.none_bool c
  | int c t=>exact RcNeAt.none_int c t
  | str c t=>exact RcNeAt.none_str c t
  | tup l=>exact RcNeAt.none_tuple l hA
  | lst l=>exact RcNeAt.none_list l hA
 | bl x=>cases k with
  | non=>exact RcNeAt.bool_none x
  | bl c=>exact RcNeAt.bool_bool x c
  | int c t=>exact RcNeAt.bool_int x c t
  | str c t=>exact RcNeAt.bool_str x c t
  | tup l=>exact RcNeAt.bool_tuple x l hA
  | lst l=>exact RcNeAt.bool_list x l hA
 | int x tx=>cases k with
  | non=>exact RcNeAt.int_none x tx
  | bl c=>exact RcNeAt.int_bool x tx c
  | int c t=>exact RcNeAt.int_int x tx c t
  | str c t=>exact RcNeAt.int_str x tx c t
  | tup l=>exact RcNeAt.int_tuple x tx l hA
  | lst l=>exact RcNeAt.int_list x tx l hA
 | str x tx=>cases k with
  | non=>exact RcNeAt.str_none x tx
  | bl c=>exact RcNeAt.str_bool x tx c
  | int c t=>exact RcNeAt.str_int x tx c t
  | str c t=>exact RcNeAt.str_str x tx c t
  | tup l=>exact RcNeAt.str_tuple x tx l hA
  | lst l=>exact RcNeAt.str_list x tx l hA
 | tup m=>cases k with
  | non=>exact RcNeAt.tuple_none m hA
  | bl c=>exact RcNeAt.tuple_bool c m hA
  | int c t=>exact RcNeAt.tuple_int c t m hA
  | str c t=>exact RcNeAt.tuple_str c t m hA
  | tup l=>exact absurd rfl (n1 _ _ rfl)
  | lst l=>exact RcNeAt.tuple_list m l hA
 | lst m=>cases k with
  | non=>exact RcNeAt.list_none m hA
  | bl c=>exact RcNeAt.list_bool c m hA
  | int c t=>exact RcNeAt.list_int c t m hA
  | str c t=>exact RcNeAt.list_str c t m hA
  | tup l=>exact RcNeAt.list_tuple m l hA
  | lst l=>exact absurd rfl (n2 _ _ rfl)
theorem znp (ok:HOk P w H s.heap)(d e:D)(A:Around)(v v':V)(u u':Value)(h:Rep H d v)(k:Rep H e v')(r:RelV v u)(r':RelV v' u')(hu:A.units + depD d < cLine):RcNeAt A s u u' (!eqD d e):=by
 have hA:A.units < cLine:=Nat.lt_of_le_of_lt (Nat.le_add_right _ _) hu
 by_cases c1:∃ xs ys,d = .tup xs/\e = .tup ys
 ·obtain ⟨xs,ys,rfl,rfl⟩:=c1
  rw [depD] at hu
  exact znj ok h k r r' hu
 ·by_cases c2:∃ xs ys,d = .lst xs/\e = .lst ys
  ·obtain ⟨xs,ys,rfl,rfl⟩:=c2
   rw [depD] at hu
   exact znk ok h k r r' hu
  ·exact znl hA (zmh ok h r) (zmh ok k r') (fun xs ys e1 e2=>c1 ⟨xs,ys,e1,e2⟩) (fun xs ys e1 e2=>c2 ⟨xs,ys,e1,e2⟩)
end
section
variable {X:Cx}
theorem zdL (hu:X.A.units + 64 < cLine):OpR X (compareOp .NotEq) rNeD:=by
 intro pins s σ H x y v u Q I rx ry h
 obtain ⟨d,e,hd,he,hz,q⟩:=h
 exact znp I.hok d e X.A x y v u hd he rx ry (by omega) X.prog X.w X.xe _ ⟨.bl _,H,I,rfl,q⟩
noncomputable def inD (d:D)(ds:List D):Bool:=ds.any fun e=>eqD e d
noncomputable def rInD (neg:Bool):R2:=fun x y H Q=>∃ d ds,Rep H d x/\(Rep H (.lst ds) y∨Rep H (.tup ds) y)/\depDs ds<=60/\Q (.bl (if neg then !inD d ds else inD d ds)) H
open Classical in
noncomputable def datOf (H:Hp)(y:Value):D:=if h:∃ d v,absV y=some v/\Rep H d v then h.choose else .non
theorem zmv {H:Hp}{d:D}{v:V}{y:Value}(r:RelV v y)(h:Rep H d v):datOf H y=d:=by
 have e:∃ d v,absV y=some v/\Rep H d v:=⟨d,v,r.abs,h⟩
 unfold datOf
 rw [dif_pos e]
 obtain ⟨v',h1,h2⟩:=e.choose_spec
 rw [r.abs] at h1
 cases h1
 exact Rep.inj h2 h
theorem zgN {P:Program}{w:World}{H:Hp}{s:Shared}(ok:HOk P w H s.heap){A:Around}{d:D}{v:V}{u:Value}(h:Rep H d v)(r:RelV v u):∀ (ds:List D) (vs:List V) (us:List Value),Reps H ds vs->Vals vs us->A.units + depDs ds < cLine ->
  (∀ y ∈ us,EqAt A s y u (eqD (datOf H y) d))/\us.any (fun y=>eqD (datOf H y) d)=inD d ds
 | [],vs,us,h1,r1,_=>by cases h1;cases r1;exact ⟨by simp,rfl⟩
 | e :: ds,vs,us,h1,r1,hu=>by
  obtain ⟨v1,vr,q1,q2,q3⟩:=h1
  subst q1
  rw [depDs] at hu
  cases r1 with
  | @cons _ u1 _ ur r1 r2 =>
   obtain ⟨hf,hs⟩:=zgN ok (A:=A) h r ds vr ur q3 r2 (by omega)
   have hd:=eqAtD ok e d A v1 v u1 u q2 h r1 r (by omega)
   have e1:=zmv r1 q2
   refine ⟨fun y hy=>?_,?_⟩
   ·rcases List.mem_cons.mp hy with z | z
    ·subst z;rw [e1];exact hd
    ·exact hf y z
   ·rw [List.any_cons,e1,hs];rfl
theorem zoU (hu:X.A.units + 64 < cLine):OpR X (compareOp .In) (fun x y H Q=>rInD false x y H Q∨∃ i j,x = .str i/\y = .str j/\Q (.bl (!(Builtin.Str.occurrences j i 0 j.length 1).isEmpty)) H):=by
 refine OpR.or ?_ zdm
 intro pins s σ H x y v u Q I rx ry h
 obtain ⟨d,ds,hd,hy,hz,q⟩:=h
 have q:Q (.bl (inD d ds)) H:=q
 rcases hy with ⟨a,vs,e,ha,hr⟩ | ⟨a,vs,e,ha,hr⟩
 ·subst e;cases ry
  obtain ⟨its,rv,hl⟩:=zb3 I.hok ha
  obtain ⟨h1,h2⟩:=zgN I.hok (A:=X.A.in1) hd rx ds vs its hr rv (by rw [zbk];omega)
  refine in_listAt (fun y=>eqD (datOf H y) d) hl (fun y hy=>h1 y (by simpa using hy)) ?_
  refine ⟨.bl (inD d ds),H,I,?_,q⟩
  show _=Value.bool _
  rw [← h2];simp
 ·subst e;cases ry
  obtain ⟨its,rv,hl⟩:=zcI I.hok ha
  obtain ⟨h1,h2⟩:=zgN I.hok (A:=X.A.in1) hd rx ds vs its hr rv (by rw [zbk];omega)
  refine in_tupleAt (fun y=>eqD (datOf H y) d) hl (fun y hy=>h1 y (by simpa using hy)) ?_
  refine ⟨.bl (inD d ds),H,I,?_,q⟩
  show _=Value.bool _
  rw [← h2];simp
theorem zkf (hu:X.A.units + 64 < cLine):OpR X (compareOp .NotIn) (fun x y H Q=>rInD true x y H Q∨∃ i j,x = .str i/\y = .str j/\Q (.bl (!(!(Builtin.Str.occurrences j i 0 j.length 1).isEmpty))) H):=by
 refine OpR.or ?_ zgs
 intro pins s σ H x y v u Q I rx ry h
 obtain ⟨d,ds,hd,hy,hz,q⟩:=h
 have q:Q (.bl (!inD d ds)) H:=q
 rcases hy with ⟨a,vs,e,ha,hr⟩ | ⟨a,vs,e,ha,hr⟩
 ·subst e;cases ry
  obtain ⟨its,rv,hl⟩:=zb3 I.hok ha
  obtain ⟨h1,h2⟩:=zgN I.hok (A:=X.A.in1) hd rx ds vs its hr rv (by rw [zbk];omega)
  refine notIn_listAt (fun y=>eqD (datOf H y) d) hl (fun y hy=>h1 y (by simpa using hy)) ?_
  refine ⟨.bl (!inD d ds),H,I,?_,q⟩
  show _=Value.bool _
  rw [← h2];simp
 ·subst e;cases ry
  obtain ⟨its,rv,hl⟩:=zcI I.hok ha
  obtain ⟨h1,h2⟩:=zgN I.hok (A:=X.A.in1) hd rx ds vs its hr rv (by rw [zbk];omega)
  refine notIn_tupleAt (fun y=>eqD (datOf H y) d) hl (fun y hy=>h1 y (by simpa using hy)) ?_
  refine ⟨.bl (!inD d ds),H,I,?_,q⟩
  show _=Value.bool _
  rw [← h2];simp
end
end L2
namespace L2
open PySem PySem.Spec PyProof.Rows
section
variable {X:Cx}{pins:List (Addr×Obj)}{σ:St}{H:Hp}{s:Shared}
noncomputable def tyN (H:Hp):V->Option String
 | .non=>some "NoneType"
 | .bl _=>some "bool"
 | .int _=>some "int"
 | .str _=>some "str"
 | .ref p=>match H p with
  | some (.lst _)=>some "list"
  | some (.tup _)=>some "tuple"
  | some (.dK _)=>some "dict"
  | _=>none
 | _=>none
noncomputable def okT (c:String):Bool:=c == "str" || c == "int" || c == "bool" || c == "list" || c == "tuple" || c == "dict"
noncomputable def subT (t c:String):Bool:=t == c || (t == "bool" && c == "int")
noncomputable def tysV:List V->Option (List String)
 | []=>some []
 | .ty n :: r=>(tysV r).map (n :: ·)
 | _ :: _=>none
noncomputable def clsV (H:Hp):V->Option (List String)
 | .ty n=>some [n]
 | .ref p=>match H p with
  | some (.tup vs)=>tysV vs
  | _=>none
 | _=>none
noncomputable def isV (H:Hp)(x c:V):Option Bool:=match tyN H x,clsV H c with
 | some t,some cs=>if cs.all okT then some (cs.any (subT t)) else none
 | _,_=>none
theorem zpF {x:V}{u:Value}{t:String}(I:Inv X pins σ H s)(rx:RelV x u)(e:tyN H x=some t) :
  ∃ HH:Heap->Prop,PySem.W.KitX X.K u (.type t) HH/\HH s.heap/\u≠.builtin "__main__.__loader__#opaque":=by
 cases x with
 | non=>cases e;cases rx;exact ⟨_,PySem.W.kitx_none,True.intro,fun z=>nomatch z⟩
 | bl b=>cases e;cases rx;exact ⟨_,PySem.W.kitx_bool,True.intro,fun z=>nomatch z⟩
 | int i=>cases e;obtain ⟨t,rfl⟩:=rx;exact ⟨_,PySem.W.kitx_int,True.intro,fun z=>nomatch z⟩
 | str i=>cases e;obtain ⟨t,rfl⟩:=rx;exact ⟨_,PySem.W.kitx_str,True.intro,fun z=>nomatch z⟩
 | ref p =>
  cases rx
  unfold tyN at e
  dsimp only at e
  split at e
  ·rename_i xs hp;cases e
   obtain ⟨_,_,n,_,h1⟩:=(show ObjOk X.prog X.w H s.heap p (.lst xs) from I.hok p _ hp)
   exact ⟨_,PySem.W.kitx_list,⟨_,h1,rfl⟩,fun z=>nomatch z⟩
  ·rename_i xs hp;cases e
   obtain ⟨_,_,_,o,h1,h2,_⟩:=(show ObjOk X.prog X.w H s.heap p (.tup xs) from I.hok p _ hp)
   exact ⟨_,PySem.W.kitx_tuple,⟨o,h1,h2⟩,fun z=>nomatch z⟩
  ·rename_i kvs hp;cases e
   obtain ⟨_,_,vs,_,o,es,ep,h1,h2,_⟩:=(show ObjOk X.prog X.w H s.heap p (.dK kvs) from I.hok p _ hp)
   exact ⟨_,PySem.W.kitx_dict,⟨o,h1,h2.1⟩,fun z=>nomatch z⟩
  ·cases e
 | _=>cases e
theorem zoq {x:V}{t:String}(e:tyN H x=some t):t="NoneType"∨t="bool"∨t="int"∨t="str"∨t="list"∨t="tuple"∨t="dict":=by
 cases x with
 | non=>cases e;simp
 | bl b=>cases e;simp
 | int i=>cases e;simp
 | str i=>cases e;simp
 | ref p =>
  unfold tyN at e
  dsimp only at e
  split at e <;> cases e <;> simp
 | _=>cases e
theorem zo1 {c:String}(e:okT c=true):c="str"∨c="int"∨c="bool"∨c="list"∨c="tuple"∨c="dict":=by
 simp only [okT,Bool.or_eq_true,beq_iff_eq] at e
 rcases e with ((((e | e) | e) | e) | e) | e <;> simp [e]
theorem zkI {K:PySem.W.Frag}{x:V}{t c:String}(e:tyN H x=some t)(hc:okT c=true):PySem.W.kitOne K (.type t) (.type c)=some (subT t c):=by
 rcases zoq e with rfl | rfl | rfl | rfl | rfl | rfl | rfl <;> rcases zo1 hc with rfl | rfl | rfl | rfl | rfl | rfl <;> with_unfolding_all rfl
theorem zkJ {K:PySem.W.Frag}{x:V}{t:String}(e:tyN H x=some t):∀ {cs:List String},cs.all okT=true->PySem.W.kitAny K (.type t) (cs.map Value.type)=some (cs.any (subT t))
 | [],_=>rfl
 | c :: r,h=>by
  replace h:=Bool.and_eq_true_iff.mp (List.all_cons ▸ h)
  rw [List.map_cons]
  unfold PySem.W.kitAny
  rw [zkI e h.1]
  cases q:subT t c with
  | true=>simp [q]
  | false=>simp only [List.any_cons,q,Bool.false_or];exact zkJ e h.2
theorem zgd:∀ {vs:List V} {cs:List String} {us:List Value},tysV vs=some cs->Vals vs us->us=cs.map Value.type
 | [],cs,us,h,r=>by cases h;cases r;rfl
 | .ty n :: vs,cs,us,h,r=>by
  unfold tysV at h
  cases e:tysV vs with
  | none=>rw [e] at h;cases h
  | some c2 =>
   rw [e] at h
   cases h
   cases r with
   | cons r1 r2 =>
    cases r1
    rw [List.map_cons,zgd e r2]
 | .non :: _,_,_,h,_=>by cases h
 | .bl _ :: _,_,_,h,_=>by cases h
 | .int _ :: _,_,_,h,_=>by cases h
 | .str _ :: _,_,_,h,_=>by cases h
 | .byt _ :: _,_,_,h,_=>by cases h
 | .flt _ :: _,_,_,h,_=>by cases h
 | .ref _ :: _,_,_,h,_=>by cases h
noncomputable def rIs:List V->Hp->VK->Prop:=fun xs H Q=>∃ x c b,xs=[x,c]/\isV H x c=some b/\Q (.bl b) H
theorem zai:CallR X (.builtin "isinstance") rIs:=by
 intro pins s σ H xs us Q I r h
 obtain ⟨x,c,b,rfl,e,q⟩:=h
 cases r with
 | cons rx r2 =>
  cases r2 with
  | cons rc r3 =>
   cases r3
   unfold isV at e
   split at e
   ·rename_i t cs et ec
    split at e
    ·rename_i hcs
     cases e
     obtain ⟨HH,Z,hh,hne⟩:=zpF I rx et
     have fin:∀ tk,EP X pins σ Q (.bool (cs.any (subT t))) { s with toks:=tk }:=fun tk=>⟨.bl _,H,I.tok tk,rfl,q⟩
     cases c with
     | ty n =>
      cases rc
      cases ec
      have h1:okT n=true:=by simpa using hcs
      refine PySem.W.kia_one Z I.kIn hh (zkI et h1) hne ?_
      intro tk
      have:=fin tk
      simpa using this
     | ref p =>
      cases rc
      unfold clsV at ec
      dsimp only at ec
      split at ec
      ·rename_i vs hp
       obtain ⟨_,its,rv,o,h1,h2,n,h3⟩:=(show ObjOk X.prog X.w H s.heap p (.tup vs) from I.hok p _ hp)
       obtain ⟨cl,dd,dt,sl⟩:=o
       cases h2
       cases h3
       have e1:=zgd ec rv
       subst e1
       exact PySem.W.kia_tup Z I.kIn hh h1 (zkJ et hcs) hne fin
      ·cases ec
     | _=>cases ec
    ·cases e
   ·cases e
noncomputable def seqV (H:Hp):V->Option (List V)
 | .ref p=>match H p with
  | some (.lst xs)=>some xs
  | some (.tup xs)=>some xs
  | _=>none
 | _=>none
theorem zjm:CallR X (.type "list") (fun xs H Q=>∃ x ys,xs=[x]/\seqV H x=some ys/\∀ l,H l=none->Q (.ref l) (upd H l (.lst ys))):=by
 refine zg0.imp fun xs H Q h=>?_
 obtain ⟨x,ys,rfl,e,q⟩:=h
 cases x with
 | ref p =>
  unfold seqV at e
  dsimp only at e
  split at e
  ·rename_i zs hp;cases e;exact ⟨p,_,rfl,.inl (SqL.of hp),q⟩
  ·rename_i zs hp;cases e;exact ⟨p,_,rfl,.inr (SqT.of hp),q⟩
  ·cases e
 | _=>cases e
theorem zlj:CallR X (.builtin "abs") (fun xs H Q=>∃ i,xs=[.int i]/\Q (.int (if i < 0 then -i else i)) H):=zmy
noncomputable def rSlF:V->Option Int->Option Int->Hp->VK->Prop:=fun x lo hi H Q=>∃ a,x = .ref a /\
 ((∃ xs,H a=some (.lst xs)/\∀ p,H p=none->Q (.ref p) (upd H p (.lst (cutV xs lo hi)))) ∨
  (∃ xs,H a=some (.tup xs)/\¬ (HT.sIx xs.length 0 lo=0/\HT.sIx xs.length xs.length hi=xs.length)/\∀ p,H p=none->Q (.ref p) (upd H p (.tup (cutV xs lo hi)))))
end
end L2
namespace L2
open PySem PySem.Spec PyProof.Rows
noncomputable def ForB (J:It)(g:TG)(tb:TS)(D:Ends)(σ:St)(H1:Hp):Prop:=∃ W:Nat->Nat->St->Hp->Prop,(∃ m,W 0 m σ H1)/\∀ i m σ H,W i m σ H ->
 (J.stop i H/\D.nx σ H)∨(J.go i H/\∃ N:St->Hp->Prop,(∀ σ' H',N σ' H'->∃ m',m' < m/\W (i + 1) m' σ' H')/\∀ x H',J.yld i H x H'->g x σ H' fun σ2 H2=>tb { D with nx:=N,ct:=N,bk:=D.nx } σ2 H2)
theorem tFor_eq {wi:TI}{g:TG}{tb:TS}{D:Ends}{σ:St}{H:Hp}:tFor wi g tb D σ H=wi σ H fun J H1=>ForB J g tb D σ H1:=rfl
noncomputable def CompB (J:It)(g:TG)(tt:TT)(te:TE)(Q:VK)(σ:St)(H1:Hp):Prop:=∃ W:CW,(∃ m,W 0 m [] σ H1)/\CTurn J g tt te (fun acc H=>∀ p,H p=none->Q (.ref p) (upd H p (.lst acc))) W
theorem tComp_eq {src:List (Option Nat)}{wi:TI}{g:TG}{tt:TT}{te:TE}{σ:St}{H:Hp}{Q:VK}:tComp src wi g tt te σ H Q=wi σ H fun J H1=>CompB J g tt te Q (stC src σ) H1:=rfl
section
variable {X:Cx}{tg:Expr}
noncomputable def iAny (K:PySem.W.Frag)(tl:TE):TI:=fun σ H R=>tl σ H fun x H1=>∃ a,x = .ref a/\((∃ xs,H1 a=some (.lst xs)/\R (Itl K a) H1)∨(∃ xs,H1 a=some (.tup xs)/\R (Itt K a) H1))
end
section
variable {g:TG}{tb:TS}{D:Ends}{σ:St}{H:Hp}{tt:TT}{te:TE}{Q:VK}{K:PySem.W.Frag}
theorem zbO {lo:Int}{n:Nat}(Pv:Nat->St->Hp->Prop)(h0:Pv 0 σ H)
  (hs:∀ i σ H,i < n->Pv i σ H->g (.int (lo + i)) σ H fun σ2 H2=>tb { D with nx:=Pv (i + 1),ct:=Pv (i + 1),bk:=D.nx } σ2 H2) (hd:∀ σ H,Pv n σ H->D.nx σ H):ForB (Itr lo n) g tb D σ H:=zkW Pv h0 hs hd
theorem zkX {a:Addr}(xs:List V)(Pv:Nat->St->Hp->Prop)(h0:Pv 0 σ H)(hl:∀ i σ H,i<=xs.length->Pv i σ H->H a=some (.lst xs))
  (hs:∀ i x σ H,xs[i]?=some x->Pv i σ H->g x σ H fun σ2 H2=>tb { D with nx:=Pv (i + 1),ct:=Pv (i + 1),bk:=D.nx } σ2 H2) (hd:∀ σ H,Pv xs.length σ H->D.nx σ H):ForB (Itl K a) g tb D σ H :=
 zmj Pv h0 (fun i σ H hi p=>SqL.of (hl i σ H hi p)) hs hd
theorem zml {a:Addr}(xs:List V)(Pv:Nat->St->Hp->Prop)(h0:Pv 0 σ H)(hl:∀ i σ H,i<=xs.length->Pv i σ H->H a=some (.tup xs))
  (hs:∀ i x σ H,xs[i]?=some x->Pv i σ H->g x σ H fun σ2 H2=>tb { D with nx:=Pv (i + 1),ct:=Pv (i + 1),bk:=D.nx } σ2 H2) (hd:∀ σ H,Pv xs.length σ H->D.nx σ H):ForB (Itt K a) g tb D σ H :=
 zn5 Pv h0 (fun i σ H hi p=>SqT.of (hl i σ H hi p)) hs hd
noncomputable def CStep (g:TG)(tt:TT)(te:TE)(x:V)(acc:List V)(σ:St)(H:Hp)(N:List V->St->Hp->Prop):Prop :=
 g x σ H fun σ2 H2=>tt σ2 H2 fun b H3=>if b=true then te σ2 H3 fun y H4=>acc.length < sizeLine/\N (acc ++ [y]) σ2 H4 else N acc σ2 H3
theorem zd9 {J:It}{n:Nat}(Pv:Nat->List V->St->Hp->Prop)(h0:Pv 0 [] σ H)
  (hs:∀ i acc σ H,i < n->Pv i acc σ H->J.go i H/\∀ x H',J.yld i H x H'->CStep g tt te x acc σ H' (Pv (i + 1)))
  (hd:∀ acc σ H,Pv n acc σ H->J.stop n H/\∀ p,H p=none->Q (.ref p) (upd H p (.lst acc))):CompB J g tt te Q σ H:=by
 refine ⟨fun i m acc σ H=>m=n - i/\i<=n/\Pv i acc σ H,⟨n,by simp,Nat.zero_le _,h0⟩,?_⟩
 rintro i m acc σ H ⟨rfl,hi,p⟩
 by_cases hlt:i < n
 ·obtain ⟨go,step⟩:=hs i acc σ H hlt p
  refine .inr ⟨go,fun x H' y=>?_⟩
  have e:∀ acc σ H,(∃ m',m' < n - i/\m'=n - (i + 1)/\i + 1<=n/\Pv (i + 1) acc σ H)=Pv (i + 1) acc σ H:=fun acc σ H=>propext ⟨fun ⟨_,_,_,_,q⟩=>q,fun q=>⟨n - (i + 1),by omega,rfl,hlt,q⟩⟩
  simp only [e]
  exact step x H' y
 ·have e:i=n:=by omega
  subst e
  obtain ⟨a,b⟩:=hd acc σ H p
  exact .inl ⟨a,b⟩
theorem zhS {lo:Int}{n:Nat}(Pv:Nat->List V->St->Hp->Prop)(h0:Pv 0 [] σ H)(hs:∀ i acc σ H,i < n->Pv i acc σ H->CStep g tt te (.int (lo + i)) acc σ H (Pv (i + 1)))
  (hd:∀ acc σ H,Pv n acc σ H->∀ p,H p=none->Q (.ref p) (upd H p (.lst acc))):CompB (Itr lo n) g tt te Q σ H :=
 zd9 Pv h0 (fun i acc σ H hi p=>⟨hi,fun x H' y=>by obtain ⟨rfl,rfl⟩:=y;exact hs i acc σ _ hi p⟩) fun acc σ H p=>⟨Nat.le_refl _,hd acc σ H p⟩
theorem zjj {a:Addr}(xs:List V)(Pv:Nat->List V->St->Hp->Prop)(h0:Pv 0 [] σ H)(hl:∀ i acc σ H,i<=xs.length->Pv i acc σ H->H a=some (.lst xs))
  (hs:∀ i x acc σ H,xs[i]?=some x->Pv i acc σ H->CStep g tt te x acc σ H (Pv (i + 1))) (hd:∀ acc σ H,Pv xs.length acc σ H->∀ p,H p=none->Q (.ref p) (upd H p (.lst acc))):CompB (Itl K a) g tt te Q σ H :=
 zd9 (n:=xs.length) Pv h0 (fun i acc σ H hi p=>⟨⟨xs,xs[i],SqL.of (hl i acc σ H (Nat.le_of_lt hi) p),by simp [hi]⟩,fun x H' y=>by obtain ⟨rfl,y⟩:=y;exact hs i x acc σ _ (y xs (SqL.of (hl i acc σ _ (Nat.le_of_lt hi) p))) p⟩)
  fun acc σ H p=>⟨⟨xs,SqL.of (hl _ acc σ H (Nat.le_refl _) p),Nat.le_refl _⟩,hd acc σ H p⟩
theorem zk8 {a:Addr}(xs:List V)(Pv:Nat->List V->St->Hp->Prop)(h0:Pv 0 [] σ H)(hl:∀ i acc σ H,i<=xs.length->Pv i acc σ H->H a=some (.tup xs))
  (hs:∀ i x acc σ H,xs[i]?=some x->Pv i acc σ H->CStep g tt te x acc σ H (Pv (i + 1))) (hd:∀ acc σ H,Pv xs.length acc σ H->∀ p,H p=none->Q (.ref p) (upd H p (.lst acc))):CompB (Itt K a) g tt te Q σ H :=
 zd9 (n:=xs.length) Pv h0 (fun i acc σ H hi p=>⟨⟨xs,xs[i],SqT.of (hl i acc σ H (Nat.le_of_lt hi) p),by simp [hi]⟩,fun x H' y=>by obtain ⟨rfl,y⟩:=y;exact hs i x acc σ _ (y xs (SqT.of (hl i acc σ _ (Nat.le_of_lt hi) p))) p⟩)
  fun acc σ H p=>⟨⟨xs,SqT.of (hl _ acc σ H (Nat.le_refl _) p),Nat.le_refl _⟩,hd acc σ H p⟩
theorem zon {c:TT}(Pv:St->Hp->Prop)(μ:St->Hp->Nat)(h0:Pv σ H)
  (hs:∀ σ H,Pv σ H->∃ b:Bool,(∀ R:Bool->Hp->Prop,R b H->c σ H R)/\(b=true->tb { D with nx:=fun σ' H'=>Pv σ' H'/\μ σ' H' < μ σ H,ct:=fun σ' H'=>Pv σ' H'/\μ σ' H' < μ σ H,bk:=D.nx } σ H)/\(b=false->D.nx σ H)):zjE c tb D σ H:=by
 refine ⟨fun m σ H=>m=μ σ H/\Pv σ H,⟨_,rfl,h0⟩,?_⟩
 rintro m σ H ⟨rfl,p⟩
 obtain ⟨b,hc,ht,hf⟩:=hs σ H p
 refine hc _ ?_
 cases b with
 | true=>exact ⟨_,fun σ' H' ⟨p',l⟩=>⟨_,l,rfl,p'⟩,ht rfl⟩
 | false=>exact hf rfl
theorem zkR {n:Nat}{i:Int}(h0:0<=i)(h1:i < n):ixN n i=some i.toNat:=by unfold ixN;rw [if_pos h0,if_pos h1]
theorem zeN {α:Type}{xs:List α}{i:Int}(h0:0<=i)(h1:i < xs.length):atI xs i=xs[i.toNat]?:=by unfold atI;rw [zkR h0 h1];rfl
theorem atI_zero {α:Type}{a:α}{xs:List α}:atI (a :: xs) 0=some a:=by rw [zeN (by decide) (by simp only [List.length_cons];omega)];rfl
theorem atI_one {α:Type}{a b:α}{xs:List α}:atI (a :: b :: xs) 1=some b:=by rw [zeN (by decide) (by simp only [List.length_cons];omega)];rfl
theorem ixN_zero {n:Nat}:ixN (n + 1) 0=some 0:=by rw [zkR (by decide) (by omega)];rfl
theorem ixN_one {n:Nat}:ixN (n + 1 + 1) 1=some 1:=by rw [zkR (by decide) (by omega)];rfl
end
theorem Same.upd {H:Hp}{a:Addr}{o:HO}(h:H a=none):Same H (upd H a o):=fun b u e=>by rw [zac (zab e h)];exact e
noncomputable def But (p:Addr)(H H':Hp):Prop:=∀ b o,b≠p->H b=some o->H' b=some o
theorem But.refl (p:Addr)(H:Hp):But p H H:=fun _ _ _ h=>h
theorem But.trans {p:Addr}{H H1 H2:Hp}(a:But p H H1)(b:But p H1 H2):But p H H2:=fun c o n h=>b c o n (a c o n h)
theorem But.upd (p:Addr)(H:Hp)(o:HO):But p H (upd H p o):=fun c u n h=>by rw [zac n];exact h
theorem But.new {p a:Addr}{H:Hp}{o:HO}(h:H a=none):But p H (L2.upd H a o):=fun c u n e=>by rw [zac (zab e h)];exact e
theorem Same.but {p:Addr}{H H':Hp}(s:Same H H'):But p H H':=fun b o _ h=>s b o h
end L2
namespace L2
open PySem PySem.Spec PyProof.Rows PyProof.Rows.LSm
section
variable {X:Cx}
theorem zeM:∀ {bs:List Bool} {us:List Value},Vals (bs.map V.bl) us->BoolsAre us bs
 | [],_,r=>by cases r;exact .nil
 | b :: bs,_,r=>by
  cases r with
  | cons r1 r2=>cases r1;exact .cons b (zeM r2)
theorem zjc {prog:Program}{w:World}{A:Around}{E:Value->Shared->Prop}{s:Shared}{p:Addr}{its:List Value}{bs:List Bool}(d:Bool){K:Bool->Shared->Prop}{fold:Nat->(Nat->Bool)->Bool}(hh:A.handled=none)(at_:s.heap.IsList p its.toArray)(are:BoolsAre its bs)
  (k:∀ h' tk,(∀ b x,s.heap.get? b=some x->h'.get? b=some x)->K (fold bs.length fun i=>(bs[i]?).getD d) { s with heap:=h',toks:=tk }) :
  wpAny (model prog w) A (pyIter (.ref p)) (fun it t=>∃ I fp wr n P St tr,it = .ref I/\Walks prog w A I fp wr n P St/\St 0 t.heap/\TruthOf prog w A P tr /\
   ∀ h' tk,(∀ b x,b ∉ wr->t.heap.get? b=some x->h'.get? b=some x)->K (fold n tr) { t with heap:=h',toks:=tk }) E s:=by
 have ne:p≠s.heap.objs.size:=let ⟨_,e,_⟩:=id at_;Nat.ne_of_lt (Heap.lt_size e)
 have truth:TruthOf prog w A (fun i v=>its.toArray[i]?=some v) fun i=>(bs[i]?).getD d:=by
  intro i v t Q X hv hQ
  obtain ⟨b,is,rfl⟩:=LSm.BoolsAre.get are i v (by simpa using hv)
  have hQ:Q ((bs[i]?).getD d) t:=hQ
  rw [is] at hQ
  exact wpAny_truthy_bool hQ
 have len:its.toArray.size=bs.length:=(List.size_toArray ..).trans (LSm.BoolsAre.length are)
 refine wpAny_pyIter_list at_ ⟨_,_,_,_,_,_,_,rfl,Walks.list hh s.heap.objs.size p ne its.toArray,?_,truth,fun h' tk hk=>?_⟩
 ·exact And.intro ⟨_,Heap.get?_push_size _ rfl,rfl,rfl⟩ (at_.push _)
 ·rw [len]
  exact k h' tk (LSm.kept_iter hk)
noncomputable def rAll:List V->Hp->VK->Prop:=fun xs H Q=>∃ (p:Addr) (bs:List Bool),xs=[.ref p]/\H p=some (.lst (bs.map V.bl))/\Q (.bl (bs.all id)) H
noncomputable def rAny:List V->Hp->VK->Prop:=fun xs H Q=>∃ (p:Addr) (bs:List Bool),xs=[.ref p]/\H p=some (.lst (bs.map V.bl))/\Q (.bl (bs.any id)) H
noncomputable def rSum:List V->Hp->VK->Prop:=fun xs H Q=>∃ (p:Addr) (ns:List Int),xs=[.ref p]/\H p=some (.lst (ns.map V.int))/\Q (.int ns.sum) H
theorem zfj (hc:X.calm=true){nm:String}{fold:Nat->(Nat->Bool)->Bool}{says:List Bool->Bool}(d:Bool)(is:∀ bs:List Bool,fold bs.length (fun i=>(bs[i]?).getD d)=says bs)
  (ask:∀ {s:Shared} {x:Value} {Q E:Value->Shared->Prop},wpAny (model X.prog X.w) X.A.in1 (pyIter x) (fun it t=>∃ I fp wr n P St tr,it = .ref I/\Walks X.prog X.w X.A.in1 I fp wr n P St/\St 0 t.heap/\TruthOf X.prog X.w X.A.in1 P tr /\
   ∀ h' tk,(∀ b x,b ∉ wr->t.heap.get? b=some x->h'.get? b=some x)->Q (.bool (fold n tr)) { t with heap:=h',toks:=tk }) E s->wpAny (model X.prog X.w) X.A (call (.builtin nm) [x]) Q E s) :
  CallR X (.builtin nm) fun xs H Q=>∃ (p:Addr) (bs:List Bool),xs=[.ref p]/\H p=some (.lst (bs.map V.bl))/\Q (.bl (says bs)) H:=by
 rintro pins s σ H _ us Q I r ⟨p,bs,rfl,hp,q⟩
 obtain ⟨u,rfl,e⟩:=vals1 r
 cases e
 obtain ⟨its,rv,pl,_⟩:=I.list (SqL.of hp)
 refine ask (zjc (K:=fun b t=>EP X pins σ Q (.bool b) t) d (show X.A.in1.handled=none from I.ok.hd hc) pl.isList (zeM rv) fun h' tk hk=>?_)
 rw [is bs]
 exact ⟨.bl (says bs),H,I.kept (t':=tk) hk,rfl,q⟩
theorem zeL (hc:X.calm=true):CallR X (.builtin "all") rAll:=zfj hc true LSm.range_all call_all_walk
theorem zli (hc:X.calm=true):CallR X (.builtin "any") rAny:=zfj hc false LSm.range_any call_any_walk
theorem zle (hc:X.calm=true):CallR X (.builtin "max") (fun xs H Q=>∃ i j,xs=[.int i,.int j]/\Q (.int (if j > i then j else i)) H):=zlf hc
theorem zgZ (hc:X.calm=true):CallR X (.builtin "min") (fun xs H Q=>∃ i j,xs=[.int i,.int j]/\Q (.int (if j < i then j else i)) H):=zld hc
end
end L2
namespace L2
open PySem PySem.Spec PyProof.Rows
noncomputable def Itz (K:PySem.W.Frag)(a b:Addr):It :=
 ⟨fun i H=>∃ xs ys x y,SqL K H a xs/\SqL K H b ys/\xs[i]?=some x/\ys[i]?=some y,
  fun i H z H'=>∃ T x y,z = .ref T/\H T=none/\H'=upd H T (.tup [x,y])/\∀ xs ys,SqL K H a xs->SqL K H b ys->xs[i]?=some x/\ys[i]?=some y,
  fun i H=>∃ xs ys,SqL K H a xs/\SqL K H b ys/\(xs.length<=i∨ys.length<=i)⟩
section
variable {X:Cx}{elts:List Expr}{tk0:_}{tpos:Pos}
noncomputable def iZip (K:PySem.W.Frag)(ta:TA):TI:=fun σ H R=>ta σ H fun vs H1=>∃ a b,vs=[.ref a,.ref b]/\(∃ xs,SqL K H1 a xs)/\(∃ ys,SqL K H1 b ys)/\R (Itz K a b) H1
end
end L2
namespace L2
open PySem PySem.Spec PyProof.Rows
noncomputable def zpw (J:It)(g:TG)(tt:TT)(te:TE)(Fin:List V->St->Hp->Prop)(W:CW):Prop:=∀ i m acc σ H,W i m acc σ H ->
 (J.stop i H/\Fin acc σ H) ∨
 (J.go i H/\∀ x H',J.yld i H x H'->g x σ H' fun σ2 H2=>tt σ2 H2 fun b H3 =>
  if b=true then te σ2 H3 fun y H4=>acc.length < sizeLine/\∃ m',m' < m/\W (i + 1) m' (acc ++ [y]) σ2 H4 else ∃ m',m' < m/\W (i + 1) m' acc σ2 H3)
noncomputable def InB (J:It)(g:TG)(tt:TT)(te:TE)(Fin:List V->St->Hp->Prop)(acc:List V)(σ:St)(H:Hp):Prop:=∃ W:CW,(∃ m,W 0 m acc σ H)/\zpw J g tt te Fin W
noncomputable def zm3 (J:It)(g1:TG)(wi2:TI)(g2:TG)(tt:TT)(te:TE)(Q:VK)(σ:St)(H1:Hp):Prop:=∃ W:CW,(∃ m,W 0 m [] σ H1)/\∀ i m acc σ H,W i m acc σ H ->
 (J.stop i H/\∀ p,H p=none->Q (.ref p) (upd H p (.lst acc))) ∨
 (J.go i H/\∀ x H',J.yld i H x H'->g1 x σ H' fun σ2 H2=>wi2 σ2 H2 fun J2 H3=>InB J2 g2 tt te (fun acc' σ' H4=>∃ m',m' < m/\W (i + 1) m' acc' σ' H4) acc σ2 H3)
noncomputable def zox (src:List (Option Nat))(wi:TI)(g1:TG)(wi2:TI)(g2:TG)(tt:TT)(te:TE):TE:=fun σ H Q=>wi σ H fun J H1=>zm3 J g1 wi2 g2 tt te Q (stC src σ) H1
end L2
namespace L2
open PySem PySem.Spec PyProof.Rows
open PySem.AutoSeq1 (wpAny_loadPart')
open PySem.MeetsSeq PySem.MeetsSeq2 PySem.MeetsSeq3
noncomputable def From (items:Array Value)(i:Nat)(ns:List Int):Prop:=i<=items.size/\IntsAre (items.toList.drop i) ns
theorem From.end_ {items:Array Value}{i:Nat}(h:From items i []):items.size=i/\items[i]?=none:=by
 obtain ⟨h1,h2⟩:=h
 have e:=h2.length
 rw [List.length_drop,Array.length_toList,List.length_nil] at e
 exact ⟨by omega,Array.getElem?_eq_none (by omega)⟩
theorem From.next {items:Array Value}{i:Nat}{a:Int}{ns:List Int}(h:From items i (a :: ns)):i < items.size/\(∃ t,items[i]?=some (.int a t))/\From items (i + 1) ns:=by
 obtain ⟨h1,h2⟩:=h
 generalize e:items.toList.drop i=us at h2
 cases h2 with
 | cons _ t r =>
  have lt:i < items.toList.length:=by
   have z:=congrArg List.length e
   rw [List.length_drop,List.length_cons] at z
   omega
  rw [List.drop_eq_getElem_cons lt] at e
  injection e with e1 e2
  rw [Array.length_toList] at lt
  refine ⟨lt,⟨t,?_⟩,lt,e2 ▸ r⟩
  rw [Array.getElem?_eq_getElem lt,← e1]
  rfl
noncomputable abbrev ziL (l b:Addr)(ol ob:Obj)(xs ys:List Int):PySem.Spec:=fun _ R s=>s.heap.get? l=some ol/\s.heap.get? b=some ob/\R (.ok (.ret (.bool (HT.lexLt xs ys)))) s
noncomputable abbrev ltAsk (l b:Addr)(i:Nat):Args:=⟨[.ref l,.ref b,rawInt i,rawInt 0],[]⟩
theorem ziq {l b:Addr}{ol ob:Obj}{xs ys:List Int}{i:Nat}{prog:Program}{w:World}{A:Around}{R:Result->Shared->Prop}{s:Shared}(m:Meets (Builtin.«list.__eq__.loop» (ltAsk l b i)) (ziL l b ol ob xs ys))(h:ziL l b ol ob xs ys A R s) :
  (Code.builtin "list.__eq__.loop" (ltAsk l b i)).quiet=true/\codeAny (model prog w) A (.builtin "list.__eq__.loop" (ltAsk l b i)) R s:=by
 refine ⟨plainId_quiet plain_eq_loop (ltAsk l b i),codeAny_builtin entry_eq_loop ?_⟩
 have u:=A.under_plainId plain_eq_loop (ltAsk l b i)
 rw [u]
 exact m prog w A R s h
theorem zky (l b:Addr)(us vs:Array Value)(n k:Nat)(du dv:Option Addr)(su sv:Array (Option Value)):∀ (xs ys:List Int) (i:Nat),From us i xs->From vs i ys ->
  Meets (Builtin.«list.__eq__.loop» (ltAsk l b i)) (ziL l b { cls:=.type "list",dict:=du,data:=.seq us n,slots:=su } { cls:=.type "list",dict:=dv,data:=.seq vs k,slots:=sv } xs ys)
 | [],ys,i,f,g=>by
  rintro prog w A R ⟨hp,ge,d,tk,os⟩ ⟨atL,atB,h⟩
  obtain ⟨z,no⟩:=f.end_
  have says:HT.lexLt [] ys=decide (us.size < vs.size):=by
   cases ys with
   | nil=>exact (decide_eq_false (by rw [z,(g.end_).1];exact Nat.lt_irrefl _)).symm
   | cons y r=>exact (decide_eq_true (by rw [z];exact (g.next).1)).symm
  rw [says] at h
  wp_walk using wpAny_loadPart' atL,wpAny_loadPart' atB
  rw [show ((i:Nat):Int).toNat=i from rfl,no]
  cases vs[i]? <;> wp_walk using wpAny_loadPart' atL,wpAny_loadPart' atB <;> exact h
 | x :: xs,[],i,f,g=>by
  rintro prog w A R ⟨hp,ge,d,tk,os⟩ ⟨atL,atB,h⟩
  obtain ⟨z,no⟩:=g.end_
  obtain ⟨lt,⟨t,is⟩,_⟩:=f.next
  have says:HT.lexLt (x :: xs) []=decide (us.size < vs.size):=(decide_eq_false (by omega)).symm
  rw [says] at h
  wp_walk using wpAny_loadPart' atL,wpAny_loadPart' atB
  rw [show ((i:Nat):Int).toNat=i from rfl,no,is]
  wp_walk using wpAny_loadPart' atL,wpAny_loadPart' atB
  exact h
 | x :: xs,y :: ys,i,f,g=>by
  have go:=zky l b us vs n k du dv su sv xs ys (i + 1) (f.next).2.2 (g.next).2.2
  rintro prog w A R ⟨hp,ge,d,tk,os⟩ ⟨atL,atB,h⟩
  obtain ⟨_,⟨t,isU⟩,_⟩:=f.next
  obtain ⟨_,⟨t',isV⟩,_⟩:=g.next
  wp_walk using wpAny_loadPart' atL,wpAny_loadPart' atB
  rw [show ((i:Nat):Int).toNat=i from rfl,isU,isV]
  obtain ⟨e,asked,iff⟩:=HT.eqAt_int A.in1 ⟨hp,ge,d,tk,os⟩ x t y t'
  refine wpAny_bind (asked prog w _ _ ?_)
  by_cases xy:x=y
  ·rw [HT.lexLt_cons,if_pos xy] at h
   rw [iff.mpr xy]
   wp_walk
   exact ziq go ⟨atL,atB,h⟩
  ·rw [HT.lexLt_cons,if_neg xy] at h
   have e0:e=false:=by cases e with | false=>rfl | true=>exact absurd (iff.mp rfl) xy
   subst e0
   have less:=HT.rcLt_int A.in1 ⟨hp,ge,d,tk,os⟩ x t y t' prog w
   wp_walk using wpAny_loadPart' atL,wpAny_loadPart' atB
   rw [isU,isV]
   wp_walk using less
   exact h
theorem zgE (l b:Addr)(us vs:Array Value)(n k:Nat)(du dv:Option Addr)(su sv:Array (Option Value))(xs ys:List Int)(hi:IntsAre us.toList xs)(hj:IntsAre vs.toList ys) :
  Meets (Builtin.«list.__lt__» ⟨[.ref l,.ref b],[]⟩) (ziL l b { cls:=.type "list",dict:=du,data:=.seq us n,slots:=su } { cls:=.type "list",dict:=dv,data:=.seq vs k,slots:=sv } xs ys):=by
 have go:=zky l b us vs n k du dv su sv xs ys 0 ⟨Nat.zero_le _,hi⟩ ⟨Nat.zero_le _,hj⟩
 rintro prog w A R ⟨hp,ge,d,tk,os⟩ ⟨atL,atB,h⟩
 have kind:=AutoSeq1.sub_list_list
 wp_walk using wpAny_loadPart' atL,wpAny_loadPart' atB
 exact ziq go ⟨atL,atB,h⟩
section
variable {prog:Program}{w:World}{A:Around}{E:Value->Shared->Prop}{s:Shared}
theorem zhH {l b:Addr}{items items2:Array Value}{ns ms:List Int}{Q:Value->Shared->Prop}(hl:s.heap.IsList l items)(hb:s.heap.IsList b items2)(hi:IntsAre items.toList ns)(hj:IntsAre items2.toList ms)
  (hu:A.units < cLine) (h:Q (.bool (HT.lexLt ns ms)) s):wpAny (model prog w) A (compareOp .Lt (.ref l) (.ref b)) Q E s:=by
 obtain ⟨⟨cls,dd,data,sl⟩,ho,hc,n,hd⟩:=id hl
 obtain ⟨⟨cls2,dd2,data2,sl2⟩,ho2,hc2,n2,hd2⟩:=id hb
 simp only at hc hd hc2 hd2
 subst hc hd hc2 hd2
 exact richCompare_meets_room (op:=.Lt) ⟨_,ho,rfl⟩ ⟨_,ho2,rfl⟩ PySem.F.slot_list_lt PySem.F.entry_list_lt (PySem.F.args_list_lt_2 _ _) (zgE l b items items2 n n2 dd dd2 sl sl2 ns ms hi hj)
  ⟨ho,ho2,show Value.bool (HT.lexLt ns ms)≠Value.notImplemented/\Q (.bool (HT.lexLt ns ms)) s from ⟨(fun x=>nomatch x),h⟩⟩ hu
end
section
variable {X:Cx}
noncomputable def rLtL:R2:=fun x y H Q=>∃ a b ns ms,x = .ref a/\y = .ref b/\H a=some (.lst (ns.map V.int))/\H b=some (.lst (ms.map V.int))/\Q (.bl (HT.lexLt ns ms)) H
theorem zoP (hu:X.A.units < cLine):OpR X (compareOp .Lt) rLtL:=by
 intro pins s σ H x y v u Q I rx ry h
 obtain ⟨a,b,ns,ms,rfl,rfl,ha,hb,q⟩:=h
 cases rx
 cases ry
 obtain ⟨its,r1,p1,_⟩:=I.list (SqL.of ha)
 obtain ⟨its2,r2,p2,_⟩:=I.list (SqL.of hb)
 have i1:IntsAre its.toArray.toList ns:=zfc r1
 have i2:IntsAre its2.toArray.toList ms:=zfc r2
 exact zhH p1.isList p2.isList i1 i2 hu ⟨.bl (HT.lexLt ns ms),H,I,rfl,q⟩
end
end L2
namespace L2
open PySem PySem.Spec PyProof.Rows
section
variable {X:Cx}{pos:Pos}
theorem znr {i j:Nat}{x y:Str}{px py:Pos}{k:_}(hc:X.calm=true)(hN:X.N.Nodup)(hi:X.N[i]?=some x)(hj:X.N[j]?=some y)(hx:X.env.scope.names.lookup x=some .local)(hy:X.env.scope.names.lookup y=some .local) :
  PG X (.Tuple [.Name x px,.Name y py] k pos) (gTup X.K 2 (gCons (gName i) (gCons (gName j) gNil))) :=
 zmK hc (zd0 (zaC hN hi (.inl hx) (.inr hx)) (zd0 (zaC hN hj (.inl hy) (.inr hy)) zj5))
end
section
variable {g g1 g2:TG}{tb:TS}{D:Ends}{σ:St}{H:Hp}{tt:TT}{te:TE}{Q:VK}{K:PySem.W.Frag}{wi2:TI}{acc:List V}{Fin:List V->St->Hp->Prop}
theorem tComp2_eq {src:List (Option Nat)}{wi:TI}{σ:St}{H:Hp}{Q:VK}:zox src wi g1 wi2 g2 tt te σ H Q=wi σ H fun J H1=>zm3 J g1 wi2 g2 tt te Q (stC src σ) H1:=rfl
end
section
variable {X:Cx}
theorem zgu (hu:X.A.units + 64 < cLine):OpR X (compareOp .Lt) (fun x y H Q=>(rI0 (fun i j=>.bl (decide (i < j))) x y H Q∨(∃ i j,x = .str i/\y = .str j/\Q (.bl (decide (i.cps.toList < j.cps.toList))) H))∨rLtL x y H Q) :=
 (zpD.or zke).or (zoP (by omega))
end
end L2
namespace L2
open PySem PySem.Spec PyProof.Rows
section
variable {H:Hp}{a p:Addr}{xs:List V}{Q:VK}{K:PySem.W.Frag}
theorem rIs_eq {x c:V}:rIs [x,c] H Q = ∃ b,isV H x c=some b/\Q (.bl b) H:=propext ⟨fun ⟨x',c',b,e,h,q⟩=>by cases e;exact ⟨b,h,q⟩,fun ⟨b,h,q⟩=>⟨x,c,b,rfl,h,q⟩⟩
theorem truV_bl {b k:Bool}:TruV K (.bl b) H k=(k=b):=rfl
theorem isV_ii {n:Int}:isV H (.int n) (.ty "int")=some true:=rfl
theorem isV_ib {n:Int}:isV H (.int n) (.ty "bool")=some false:=rfl
theorem isV_bb {n:Bool}:isV H (.bl n) (.ty "bool")=some true:=rfl
theorem isV_ll (h:H a=some (.lst xs)):isV H (.ref a) (.ty "list")=some true:=by unfold isV tyN;simp only [h];rfl
theorem zmU (h:H a=some (.lst xs))(h2:H p=some (.tup [.ty "list",.ty "tuple"])):isV H (.ref a) (.ref p)=some true:=by unfold isV tyN clsV;simp only [h,h2];rfl
theorem zmT (h:H a=some (.tup xs))(h2:H p=some (.tup [.ty "list",.ty "tuple"])):isV H (.ref a) (.ref p)=some true:=by unfold isV tyN clsV;simp only [h,h2];rfl
theorem lenV_l (h:H a=some (.lst xs)):lenV H (.ref a)=some xs.length:=by unfold lenV;simp only [h]
theorem lenV_t (h:H a=some (.tup xs)):lenV H (.ref a)=some xs.length:=by unfold lenV;simp only [h]
theorem seqV_l (h:H a=some (.lst xs)):seqV H (.ref a)=some xs:=by unfold seqV;simp only [h]
theorem seqV_t (h:H a=some (.tup xs)):seqV H (.ref a)=some xs:=by unfold seqV;simp only [h]
theorem ixV_l {i:Int}(h:H a=some (.lst xs)):ixV H (.ref a) (.int i)=atI xs i:=by unfold ixV;simp only [h]
theorem ixV_t {i:Int}(h:H a=some (.tup xs)):ixV H (.ref a) (.int i)=atI xs i:=by unfold ixV;simp only [h]
end
section
noncomputable def SeqV (H:Hp)(a:Addr)(xs:List V):Prop:=H a=some (.lst xs)∨H a=some (.tup xs)
theorem SeqV.same {H H':Hp}{a:Addr}{xs:List V}(h:SeqV H a xs)(s:Same H H'):SeqV H' a xs:=h.elim (fun e=>.inl (s _ _ e)) fun e=>.inr (s _ _ e)
variable {g:TG}{tt:TT}{te:TE}{Q:VK}{K:PySem.W.Frag}{σ:St}{H:Hp}
variable {tb:TS}{D:Ends}
end
section
variable {X:Cx}{pos:Pos}{tg:Expr}
theorem zbq (K:PySem.W.Frag)(hK:X.K=K){i j:Nat}{x y:Str}{px py:Pos}{k:_}(hc:X.calm=true)(hN:X.N.Nodup)(hi:X.N[i]?=some x)(hj:X.N[j]?=some y)(hx:X.env.scope.names.lookup x=some .local)(hy:X.env.scope.names.lookup y=some .local) :
  PG X (.Tuple [.Name x px,.Name y py] k pos) (gTup K 2 (gCons (gName i) (gCons (gName j) gNil))):=by subst hK;exact znr hc hN hi hj hx hy
noncomputable def tTruth (K:PySem.W.Frag)(ta:TE):TT:=fun σ H Q=>ta σ H fun x H1=>∃ k,TruV K x H1 k/\Q k H1
theorem zal (K:PySem.W.Frag)(hK:X.K=K){a:Expr}{ta:TE}(ha:PE X a ta)(he:∀ whole,isTrue a X.env whole=(do let v ← whole;standAt a.pos;holding [v] (truthy v))):PT X a (tTruth K ta):=by subst hK;exact zlJ ha he
end
noncomputable def ItOf (K:PySem.W.Frag)(a:Addr)(xs:List V)(J:It)(H:Hp):Prop:=(J=Itl K a/\H a=some (.lst xs))∨(J=Itt K a/\H a=some (.tup xs))
noncomputable def iSq (K:PySem.W.Frag)(tl:TE):TI:=fun σ H R=>tl σ H fun x H1=>∃ a xs,x = .ref a/\SeqV H1 a xs/\∀ J,ItOf K a xs J H1->R J H1
section
variable {X:Cx}{tg:Expr}
theorem zbi (K:PySem.W.Frag)(hK:X.K=K){l:Expr}{tl:TE}(hl:PE X l tl):PI X tg l (iSq K tl):=by
 subst hK
 intro pins s σ H R I h
 refine thn (hl pins s σ H _ I h) fun v s1 ⟨x,H1,I1,r1,q1⟩=>?_
 obtain ⟨a,xs,e,hs,q⟩:=q1
 subst e
 cases r1
 rcases hs with hq | hq
 ·obtain ⟨its,rv,p,hz⟩:=I1.list (SqL.of hq)
  refine wpAny_pyIter_list p.isList ?_
  refine ⟨s1.heap.objs.size,[s1.heap.objs.size],_,_,H1,rfl,I1.kept (t':=s1.toks) fun b o e=>Heap.get?_push_of_some _ e,zjy a _,⟨_,Heap.get?_push_size _ rfl,rfl,rfl⟩,fun b hb=>?_,q _ (.inl ⟨rfl,hq⟩)⟩
  have e:b=s1.heap.objs.size:=by simpa using hb
  subst e
  exact I1.fpOk (Nat.le_refl _) (I1.hok.fresh (Nat.le_refl _))
 ·obtain ⟨its,rv,p,hz⟩:=I1.tuple (SqT.of hq)
  refine wpAny_pyIter_tuple (show s1.heap.IsTuple a its.toArray from p) ?_
  refine ⟨s1.heap.objs.size,[s1.heap.objs.size],_,_,H1,rfl,I1.kept (t':=s1.toks) fun b o e=>Heap.get?_push_of_some _ e,ziP a _,⟨_,Heap.get?_push_size _ rfl,rfl,rfl⟩,fun b hb=>?_,q _ (.inr ⟨rfl,hq⟩)⟩
  have e:b=s1.heap.objs.size:=by simpa using hb
  subst e
  exact I1.fpOk (Nat.le_refl _) (I1.hok.fresh (Nat.le_refl _))
end
section
variable {g g1 g2:TG}{tb:TS}{D:Ends}{σ:St}{H:Hp}{tt:TT}{te:TE}{Q:VK}{K:PySem.W.Frag}{wi2:TI}{J:It}{a:Addr}{xs:List V}
theorem zdD (hJ:ItOf K a xs J H)(Pv:Nat->St->Hp->Prop)(h0:Pv 0 σ H)(hl:∀ i σ H',i<=xs.length->Pv i σ H'->H' a=H a)
  (hs:∀ i x σ H,xs[i]?=some x->Pv i σ H->g x σ H fun σ2 H2=>tb { D with nx:=Pv (i + 1),ct:=Pv (i + 1),bk:=D.nx } σ2 H2) (hd:∀ σ H,Pv xs.length σ H->D.nx σ H):ForB J g tb D σ H:=by
 rcases hJ with ⟨rfl,e⟩ | ⟨rfl,e⟩
 ·exact zkX xs Pv h0 (fun i σ H' hi p=>(hl i σ H' hi p).trans e) hs hd
 ·exact zml xs Pv h0 (fun i σ H' hi p=>(hl i σ H' hi p).trans e) hs hd
theorem za2 (hJ:ItOf K a xs J H)(Pv:Nat->List V->St->Hp->Prop)(h0:Pv 0 [] σ H)(hl:∀ i acc σ H',i<=xs.length->Pv i acc σ H'->H' a=H a)
  (hs:∀ i x acc σ H,xs[i]?=some x->Pv i acc σ H->CStep g tt te x acc σ H (Pv (i + 1))) (hd:∀ acc σ H,Pv xs.length acc σ H->∀ p,H p=none->Q (.ref p) (upd H p (.lst acc))):CompB J g tt te Q σ H:=by
 rcases hJ with ⟨rfl,e⟩ | ⟨rfl,e⟩
 ·exact zjj xs Pv h0 (fun i acc σ H' hi p=>(hl i acc σ H' hi p).trans e) hs hd
 ·exact zk8 xs Pv h0 (fun i acc σ H' hi p=>(hl i acc σ H' hi p).trans e) hs hd
end
noncomputable def rSlU:V->Option Int->Option Int->Hp->VK->Prop:=fun x lo hi H Q=>∃ a xs,x = .ref a/\SeqV H a xs/\((∃ ys,H a=some (.tup ys))->¬ (HT.sIx xs.length 0 lo=0/\HT.sIx xs.length xs.length hi=xs.length)) /\
 ∀ p o,H p=none->(o = .lst (cutV xs lo hi)/\H a=some (.lst xs)∨o = .tup (cutV xs lo hi)/\H a=some (.tup xs))->Q (.ref p) (upd H p o)
theorem ze2 {X:Cx}:SlR X rSlU:=by
 intro pins s σ H x v vl vu lo hi sl Q I rx hs pl pu h
 obtain ⟨a,xs,rfl,ha | ha,hw,q⟩:=h
 ·exact zne pins s σ H _ v vl vu lo hi sl Q I rx hs pl pu ⟨a,xs,rfl,SqL.of ha,fun p hp=>q p _ hp (.inl ⟨rfl,ha⟩)⟩
 ·exact zoA pins s σ H _ v vl vu lo hi sl Q I rx hs pl pu ⟨a,xs,rfl,SqT.of ha,hw ⟨_,ha⟩,fun p hp=>q p _ hp (.inr ⟨rfl,ha⟩)⟩
section
variable {H:Hp}{Q:VK}
theorem rEqD_ii {i j:Int}:rEqD (.int i) (.int j) H Q=Q (.bl (decide (i=j))) H:=by
 have e:eqD (.int i) (.int j)=decide (i=j):=by show (i == j)=_;rw [Bool.eq_iff_iff];simp
 refine propext ⟨fun ⟨d,e',h1,h2,_,q⟩=>?_,fun q=>⟨.int i,.int j,rfl,rfl,Nat.zero_le _,by rw [e];exact q⟩⟩
 have d1:d = .int i:=Rep.inj h1 (show Rep H (.int i) (.int i) from rfl)
 have d2:e' = .int j:=Rep.inj h2 (show Rep H (.int j) (.int j) from rfl)
 rw [d1,d2,e] at q
 exact q
theorem rNeD_ii {i j:Int}:rNeD (.int i) (.int j) H Q=Q (.bl (!decide (i=j))) H:=by
 have e:eqD (.int i) (.int j)=decide (i=j):=by show (i == j)=_;rw [Bool.eq_iff_iff];simp
 refine propext ⟨fun ⟨d,e',h1,h2,_,q⟩=>?_,fun q=>⟨.int i,.int j,rfl,rfl,Nat.zero_le _,by rw [e];exact q⟩⟩
 have d1:d = .int i:=Rep.inj h1 (show Rep H (.int i) (.int i) from rfl)
 have d2:e' = .int j:=Rep.inj h2 (show Rep H (.int j) (.int j) from rfl)
 rw [d1,d2,e] at q
 exact q
theorem rEqD_ss {i j:Str}:rEqD (.str i) (.str j) H Q=Q (.bl (decide (i=j))) H:=by
 have e:eqD (.str i) (.str j)=decide (i=j):=by show (i == j)=_;rw [Bool.eq_iff_iff];simp
 refine propext ⟨fun ⟨d,e',h1,h2,_,q⟩=>?_,fun q=>⟨.str i,.str j,rfl,rfl,Nat.zero_le _,by rw [e];exact q⟩⟩
 have d1:d = .str i:=Rep.inj h1 (show Rep H (.str i) (.str i) from rfl)
 have d2:e' = .str j:=Rep.inj h2 (show Rep H (.str j) (.str j) from rfl)
 rw [d1,d2,e] at q
 exact q
theorem rNeD_ss {i j:Str}:rNeD (.str i) (.str j) H Q=Q (.bl (!decide (i=j))) H:=by
 have e:eqD (.str i) (.str j)=decide (i=j):=by show (i == j)=_;rw [Bool.eq_iff_iff];simp
 refine propext ⟨fun ⟨d,e',h1,h2,_,q⟩=>?_,fun q=>⟨.str i,.str j,rfl,rfl,Nat.zero_le _,by rw [e];exact q⟩⟩
 have d1:d = .str i:=Rep.inj h1 (show Rep H (.str i) (.str i) from rfl)
 have d2:e' = .str j:=Rep.inj h2 (show Rep H (.str j) (.str j) from rfl)
 rw [d1,d2,e] at q
 exact q
theorem zhT {a b:Addr}{xs ys:List V}(ha:H a=some (.lst xs))(hb:H b=some (.lst ys))(hz:xs.length + ys.length<=sizeLine):catO H (.ref a) (.ref b)=some (.lst (xs ++ ys)):=by
 unfold catO
 simp only [ha,hb]
 rw [if_pos hz]
theorem catO_i {i:Int}{y:V}:catO H (.int i) y=none:=by cases y <;> rfl
theorem catO_s {i:Str}{y:V}:catO H (.str i) y=none:=by cases y <;> rfl
end
noncomputable def rTupU:List V->Hp->VK->Prop:=fun xs H Q=>∃ p ys,xs=[.ref p]/\SeqV H p ys/\∀ l H',(H p=some (.tup ys)/\l=p/\H'=H∨H p=some (.lst ys)/\H l=none/\H'=upd H l (.tup ys))->Q (.ref l) H'
theorem zbz {X:Cx}:CallR X (.type "tuple") rTupU:=by
 refine zfZ.imp fun xs H Q h=>?_
 obtain ⟨p,ys,rfl,hp | hp,q⟩:=h
 ·exact ⟨p,ys,rfl,.inl ⟨SqL.of hp,fun l hl=>q l _ (.inr ⟨hp,hl,rfl⟩)⟩⟩
 ·exact ⟨p,ys,rfl,.inr ⟨SqT.of hp,q p _ (.inl ⟨hp,rfl,rfl⟩)⟩⟩
end L2
namespace L2
open PySem PySem.Spec PyProof.Rows
section
variable {P:Program}{w:World}{fs:List Addr}{H H':Hp}{h h1 h2 B:Heap}
theorem Un.fly (u:Un fs [] H H' h h1)(kB:∀ b o,B.get? b=some o->h1.get? b=some o/\h2.get? b=some o)(cov:∀ b o,h.get? b=some o->b ∉ fs->∃ o',B.get? b=some o')
  (sl:∀ b ∈ fs,∀ o,h1.get? b=some o->∃ s2,h2.get? b=some { o with slots:=s2 }):Un fs [] H H' h h2 where
 keep:=fun b o e n hb hx=>by
  have q:=u.keep b o e n hb hx
  obtain ⟨o',e'⟩:=cov b o e hb
  obtain ⟨k1,k2⟩:=kB b o' e'
  rw [q] at k1;cases k1
  exact k2
 slot:=fun b o e n hb hx=>by
  obtain ⟨s1,q⟩:=u.slot b o e n hb hx
  obtain ⟨s2,q2⟩:=sl b hb _ q
  exact ⟨s2,q2⟩
 free:=u.free
 there:=fun b o e hx=>by
  obtain ⟨o1,q⟩:=u.there b o e hx
  by_cases hb:b ∈ fs
  ·obtain ⟨s2,q2⟩:=sl b hb _ q
   exact ⟨_,q2⟩
  ·obtain ⟨o',e'⟩:=cov b o e hb
   exact ⟨o',(kB b o' e').2⟩
 tups:=u.tups
 frzs:=u.frzs
 tbls:=u.tbls
theorem HOk.fly (hok:HOk P w H' h1)(kB:∀ b o,B.get? b=some o->h1.get? b=some o/\h2.get? b=some o)(covH:∀ b u,H' b=some u->∃ o',B.get? b=some o'):HOk P w H' h2:=fun a o e =>
 (hok a o e).stay (fun b u hb q=>by
  obtain ⟨o',e'⟩:∃ o',B.get? b=some o':=by
   rcases hb with z | z
   ·rw [z];exact covH a o e
   ·exact covH b _ z
  obtain ⟨k1,k2⟩:=kB b o' e'
  rw [q] at k1;cases k1
  exact k2) (fun _ q=>q) fun _ _ q=>q
theorem zlC {l:List Env}(F:h1.FunFrames B l)(u:h1.UpToSlots h2):∀ b ∈ frs l,∀ o,h1.get? b=some o->∃ s2,h2.get? b=some { o with slots:=s2 }:=fun b hb o e=>by
 obtain ⟨_,o',e',d⟩:=F.mem hb
 rw [e] at e';cases e'
 exact u b o e d
end
noncomputable def CX1 (P:Program)(w:World):CXT:=fun outer H s E e s'=>∃ (ea C:Addr) (a0:Value) (B:Heap) (H':Hp),e = .ref ea/\Heap.FlyingW B outer ea (.ref C) a0 s'.heap/\Un (frs outer) [] H H' s.heap s'.heap/\HOk P w H' s'.heap/\s'.os=s.os/\AllBare s'.gens /\
 (∀ b o,s.heap.get? b=some o->b ∉ frs outer->∃ o',B.get? b=some o')/\(∀ b u,H' b=some u->∃ o',B.get? b=some o')/\E (.ref C) none H'
noncomputable def Throws (X:Cx)(E:XK):Prop:=∀ (pins:List (Addr×Obj)) (σ:St) (H:Hp) (s:Shared) (h':Heap) (e C:Addr) (us:List Value),Inv X pins σ H s->Heap.MadeExcOf s.heap h' e (.ref C) us->E (.ref C) none H->X.xe (.ref e) { s with heap:=h' }
def zmB:List Value:=[.type "ValueError",.type "Exception",.type "BaseException",.type "object"]
noncomputable def ExcIn (K:PySem.W.Frag)(C:Addr):Prop:=PySem.W.excIn K C zmB "ValueError.__new__" = true
theorem zk3 {K:PySem.W.Frag}{h:Heap}{C:Addr}{bmB:List Value}{newId:String}(X:K.In h)(q:PySem.W.excIn K C bmB newId=true) :
  ∃ (bm:List Value) (N:Addr) (nm qn:Str) (bs:List Value) (hd:Bool) (sn:List Str) (sub:List Value) (ab:Bool) (col:Option Bool) (dd:Option Addr) (k0 k1 k2 k3 k5:Option Value) (mN:Str->Option Value),
   h.get? C=some (excClassObj nm qn C N bs bm hd sn sub ab col dd k0 k1 k2 k3 k5 newId)/\h.Ns N mN/\mN "__init__" = none/\OwnTail h bmB bm:=by
 -- the class is looked up once;what else it might be is ruled out by q
 cases found:K.lookup C with
 | none=>simp [PySem.W.excIn,found] at q
 | some o =>
  have here:=X _ _ found
  unfold PySem.W.excIn at q
  rw [found] at q
  revert q
  split
  next dict cd slots same =>
   cases same
   cases cd with
   | mk nm bases mro ns qn hasDict slotNames subs abs coll del =>
    split
    next C2 rest a b c d new f isMro isSlots =>
     intro q
     repeat rw [Bool.and_eq_true] at q
     obtain ⟨⟨⟨⟨⟨q1,q2⟩,q3⟩,q4⟩,q5⟩,q6⟩:=q
     have e1:=eq_of_beq q1
     have e2:=eq_of_beq q2
     have e3:del=false:=by cases del with | false=>rfl | true=>cases q3
     have e4:slots=[a,b,c,d,some (.builtin new),f].toArray:=by rw [← isSlots]
     have e5:mro = .ref C2 :: rest:=isMro
     rw [e1] at e5
     rw [e2] at e4
     subst e3 e4 e5
     exact ⟨rest,ns,nm,qn,bases,hasDict,slotNames,subs,abs,coll,dict,a,b,c,d,f,_,here,.of_isNs (PySem.W.isNs_of_in X q5),PySem.W.nsMap_none_of_in X q5 (eq_of_beq q6),PySem.W.tail_of_in X q4⟩
    next=>exact fun z=>nomatch z
  next=>exact fun z=>nomatch z
section
variable {X:Cx}{x:Str}{C:Addr}{np cpos pos:Pos}{e:Expr}{ta:TA}{E:XK}
noncomputable def tRaise (C:Addr)(E:XK)(ta:TA):TS:=fun _ σ H=>ta σ H fun vs H1=>vs.length<=1000/\E (.ref C) none H1
theorem zpx (hc:X.calm=true)(hT:Throws X E)(hg:Gl X x)(hm:X.mg x=some (.ref C))(q:ExcIn X.K C)(ha:PA X [e] ta)(hdb:(x == ("__debug__" : Str))=false:=by decide)
  (he:starEach [e] X.env=(false,eval e X.env) :: starEach [] X.env:=by rfl) (hpl:(backTo cpos (starEach [] X.env)).any (·.1)=false:=by rfl):PS X (.Raise (some (.Call (.Name x np) [e] [] cpos)) none pos) (tRaise C E ta):=by
 intro pins s σ H D I h
 obtain ⟨bm,N,nm,qn,bs,hdct,sn,sub,ab,col,dd,k0,k1,k2,k3,k5,mN,hC,hN,hni,TL⟩:=zk3 I.ok.mod.kin q
 refine wpAny_Raise_call_subU (C:=C) (nm:=nm) (q:=qn) (N:=N) (bs:=bs) (bm:=bm) (hdct:=hdct) (sn:=sn) (sub:=sub) (ab:=ab) (col:=col) (dd:=dd) (k0:=k0) (k1:=k1) (k2:=k2) (k3:=k3) (k5:=k5)
  PySem.F.excBase_ValueError (by decide +kernel) PySem.F.excBase_ValueError (mN:=mN) (TL.hasType (by decide +kernel)) (I.ok.hd hc) (by rw [he];show (false || (backTo cpos (starEach [] X.env)).any (·.1))=false;rw [hpl];rfl) hni (zc8 I hg hm ⟨rfl,?_⟩ hdb)
 have hp:=ha cpos pins s σ H _ I h
 rw [he] at hp ⊢
 refine Calls.evalArgs_plain (wpAny_mono hp (fun vs s₂ h₂=>?_) fun _ _ y=>y)
 obtain ⟨vv,H1,I1,rv,hl,hE⟩:=h₂
 refine ⟨rfl,?_,I1.bk _ _ hC,hN.keeps I1.bk,TL.keeps I1.bk,fun h' e' hm'=>hT pins σ H1 s₂ h' e' C vs I1 hm' hE⟩
 have z:vs.length<=1000:=by rw [← rv.length];exact hl
 exact Nat.le_trans z (by decide)
end
noncomputable abbrev Cx.mk1 (X:Cx)(e:Value):Cx:={ X with A:=X.A.mark (some e),calm:=false,xe:=fun _ _=>False }
noncomputable abbrev Cx.tr (X:Cx)(pn:List (Addr×Obj))(E:Value->Shared->Prop):Cx:={ X with pn:=pn,xe:=E }
section
variable {X:Cx}{pins:List (Addr×Obj)}{σ:St}{H:Hp}{s:Shared}{e:Value}
theorem Cx.Ok.mk1 (ok:X.Ok)(e:Value):(X.mk1 e).Ok :=
 ⟨ok.mod,ok.kind,ok.glob,ok.blt,ok.above,ok.inj,ok.has,ok.cab,fun h=>Bool.noConfusion h,ok.frames,ok.stk,ok.exf,ok.bs,ok.bsz,ok.noex,ok.exfs,ok.funs,ok.frf⟩
theorem Cx.Ok.tr (ok:X.Ok)(pn:List (Addr×Obj))(E:Value->Shared->Prop):(X.tr pn E).Ok :=
 ⟨ok.mod,ok.kind,ok.glob,ok.blt,ok.above,ok.inj,ok.has,ok.cab,ok.hd,ok.frames,ok.stk,ok.exf,ok.bs,ok.bsz,ok.noex,ok.exfs,ok.funs,ok.frf⟩
theorem Inv.mk1 (I:Inv X pins σ H s)(e:Value):Inv (X.mk1 e) pins σ H s:=⟨I.ok.mk1 e,I.os,I.bare,I.base,I.loc,I.cell,I.free,I.freeC,I.pin,I.hok,I.len⟩
theorem Inv.unmk1 (ok:X.Ok)(I:Inv (X.mk1 e) pins σ H s):Inv X pins σ H s:=⟨ok,I.os,I.bare,I.base,I.loc,I.cell,I.free,I.freeC,I.pin,I.hok,I.len⟩
theorem Inv.tr (I:Inv X pins σ H s)(E:Value->Shared->Prop):Inv (X.tr (X.pn ++ pins) E) [] σ H s:=⟨I.ok.tr _ E,I.os,I.bare,I.base,I.loc,I.cell,I.free,I.freeC,fun p hp=>I.pin p (by simpa using hp),I.hok,I.len⟩
theorem Inv.untr {E:Value->Shared->Prop}{pl:List (Addr×Obj)}(ok:X.Ok)(I:Inv (X.tr (X.pn ++ pins) E) pl σ H s):Inv X pins σ H s:=⟨ok,I.os,I.bare,I.base,I.loc,I.cell,I.free,I.freeC,fun p hp=>I.pin p (List.mem_append_left _ hp),I.hok,I.len⟩
theorem SP.unmk1 {D:Ends}{f:Flow}{s':Shared}(ok:X.Ok)(h:SP (X.mk1 e) pins D f s'):SP X pins D f s':=by
 cases f with
 | next=>obtain ⟨σ,H,I,q⟩:=h;exact ⟨σ,H,I.unmk1 ok,q⟩
 | brk=>obtain ⟨σ,H,I,q⟩:=h;exact ⟨σ,H,I.unmk1 ok,q⟩
 | cont=>obtain ⟨σ,H,I,q⟩:=h;exact ⟨σ,H,I.unmk1 ok,q⟩
 | ret v=>obtain ⟨x,σ,H,I,r,q⟩:=h;exact ⟨x,σ,H,I.unmk1 ok,r,q⟩
theorem SP.untr {D:Ends}{f:Flow}{s':Shared}{E:Value->Shared->Prop}{pl:List (Addr×Obj)}(ok:X.Ok)(h:SP (X.tr (X.pn ++ pins) E) pl D f s'):SP X pins D f s':=by
 cases f with
 | next=>obtain ⟨σ,H,I,q⟩:=h;exact ⟨σ,H,I.untr ok,q⟩
 | brk=>obtain ⟨σ,H,I,q⟩:=h;exact ⟨σ,H,I.untr ok,q⟩
 | cont=>obtain ⟨σ,H,I,q⟩:=h;exact ⟨σ,H,I.untr ok,q⟩
 | ret v=>obtain ⟨x,σ,H,I,r,q⟩:=h;exact ⟨x,σ,H,I.untr ok,r,q⟩
end
section
variable {X:Cx}{x:Str}{C:Addr}{np hp pos:Pos}{EX:XK}{b0:Stmt}{suite body:List Stmt}{tb th:TS}
theorem zlb {pins:List (Addr×Obj)}{σ:St}{H:Hp}{s s1:Shared}{e:Value}{D:Ends}(hst:X.stack=X.env :: X.outer/\X.env.frame=some X.env.locals)(hg:Gl X x)(hm:X.mg x=some (.ref C))(q:ExcIn X.K C)
  (hh:∀ e,PSs (X.mk1 e) (b0 :: suite) th) (hEX:∀ cls d H',EX cls d H'->cls = .ref C) (I:Inv X pins σ H s) (cx:CX1 X.prog X.w X.stack H s EX e s1) (hx:∀ cls d H',EX cls d H'->th D σ H') (hdb:(x == ("__debug__" : Str))=false) :
  wpAny (model X.prog X.w) X.A (noteFrame e X.env) (fun _ s₂=>wpAny (model X.prog X.w) X.A (setFlight e none) (fun _ s₃=>wpAny (model X.prog X.w) X.A (handleBy e X.env [.ExceptHandler (some (.Name x np)) none (b0 :: suite) hp]) (SP X pins D) X.xe s₃) X.xe s₂) X.xe s1:=by
 obtain ⟨ea,C',a0,B,H',rfl,hfl,un,hok,os,bare,cov,covH,hE⟩:=cx
 have eC:=hEX _ _ _ hE
 cases eC
 have hfr:X.A.frames=some (X.env :: X.outer):=by rw [← hst.1];exact I.ok.frames
 rw [hst.1] at hfl
 have I6:∀ h6,Heap.FlyingW B (X.env :: X.outer) ea (.ref C) a0 h6->s1.heap.UpToSlots h6->Inv X pins σ H' { s1 with heap:=h6 }:=fun h6 fl sm=>by
  have kB:∀ b o,B.get? b=some o->s1.heap.get? b=some o/\h6.get? b=some o:=fun b o z=>⟨hfl.1 b o z,fl.1 b o z⟩
  refine I.call' (s':={ s1 with heap:=h6 }) (ch:=[]) os (un.fly kB cov fun b hb o z=>zlC hfl.2.2.1 sm b (by rw [← hst.1];exact hb) o z) (hok.fly kB covH) bare fun b z=>absurd z (by simp)
 refine wpAny_looks_onW hfr hst.2 hfl fun h4 held4 sm4=>?_
 refine wpAny_landsW held4 fun h5 fl5 sm5=>?_
 have J5:=(I6 h5 fl5 (sm4.trans sm5)).mk1 (.ref ea)
 obtain ⟨ob,hob,hobc⟩:=fl5.there
 refine wpAny_handleBy_cons (codeAny_handlers_test (zc8 J5 hg hm ?_ hdb)) (by intro z;cases z)
 obtain ⟨bm,N,nm,qn,bs,hdct,sn,sub,ab,col,dd,k0,k1,k2,k3,k5,mN,hC,hN,hni,TL⟩:=zk3 J5.kIn q
 refine wpAny_excMatches_sub_self hC hob hobc (TL.hasType (by decide +kernel)) (codeAny_handlers_suite ?_)
 refine lands_againW fl5 fun h6 fl6 sm6=>?_
 have I6':=I6 h6 fl6 ((sm4.trans sm5).trans sm6)
 refine wpAny_mono (hh (.ref ea) pins _ σ H' D (I6'.mk1 (.ref ea)) (hx _ _ _ hE)) (fun f s2 h2=>?_) fun _ _ z=>False.elim z
 exact SP.unmk1 I.ok h2
noncomputable def tTry (tb:TS)(EX:XK)(th:TS):TS:=fun D σ H=>tb D σ H/\∀ cls d σ' H',EX cls d H'->th D σ' H'
theorem zoG (EX:XK)(hst:X.stack=X.env :: X.outer/\X.env.frame=some X.env.locals)(hg:Gl X x)(hm:X.mg x=some (.ref C))(q:ExcIn X.K C)(hEX:∀ cls d H',EX cls d H'->cls = .ref C)
  (hb:∀ pn Ew,Passes (CX1 X.prog X.w) (X.tr pn Ew) EX->PSs (X.tr pn Ew) body tb) (hh:∀ e,PSs (X.mk1 e) (b0 :: suite) th) (hdb:(x == ("__debug__" : Str))=false:=by decide) :
  PS X (.Try body [.ExceptHandler (some (.Name x np)) none (b0 :: suite) hp] [] [] pos) (tTry tb EX th):=by
 intro pins s σ H D I h
 obtain ⟨hbd,hx⟩:=h
 refine wpAny_Try_except ?_
 have hP:Passes (CX1 X.prog X.w) (X.tr (X.pn ++ pins) fun e s₁=>wpAny (model X.prog X.w) X.A (noteFrame e X.env) (fun _ s₂=>wpAny (model X.prog X.w) X.A (setFlight e none) (fun _ s₃=>wpAny (model X.prog X.w) X.A (handleBy e X.env [.ExceptHandler (some (.Name x np)) none (b0 :: suite) hp]) (SP X pins D) X.xe s₃) X.xe s₂) X.xe s₁) EX:=by
  intro pl σ1 H1 s1 e s2 I1 cx
  exact zlb hst hg hm q hh hEX (I1.untr I.ok) cx (fun cls d H' z=>hx cls d σ1 H' z) hdb
 refine wpAny_mono (hb _ _ hP [] s σ H D (I.tr _) hbd) (fun f s1 h1=>?_) fun _ _ z=>z
 have h2:=SP.untr I.ok h1
 cases f with
 | next=>exact wpAny_execs_nil h2
 | brk=>exact h2
 | cont=>exact h2
 | ret v=>exact h2
end
end L2
namespace L2
open PySem PySem.Spec PyProof.Rows
noncomputable def Ite (K:PySem.W.Frag)(a:Addr):It :=
 ⟨fun i H=>∃ xs x,SqL K H a xs/\xs[i]?=some x,fun i H z H'=>∃ T x,z = .ref T/\H T=none/\H'=upd H T (.tup [.int i,x])/\∀ xs,SqL K H a xs->xs[i]?=some x,fun i H=>∃ xs,SqL K H a xs/\xs.length<=i⟩
noncomputable def iEnum (K:PySem.W.Frag)(ta:TA):TI:=fun σ H R=>ta σ H fun vs H1=>∃ a,vs=[.ref a]/\(∃ xs,SqL K H1 a xs)/\R (Ite K a) H1
end L2
namespace L2
open PySem PySem.Spec PyProof.Rows
noncomputable def Itz2 (a b:Addr):It :=
 ⟨fun i H=>∃ xs ys x y,SeqV H a xs/\SeqV H b ys/\xs[i]?=some x/\ys[i]?=some y,
  fun i H z H'=>∃ T x y,z = .ref T/\H T=none/\H'=upd H T (.tup [x,y])/\∀ xs ys,SeqV H a xs->SeqV H b ys->xs[i]?=some x/\ys[i]?=some y,
  fun i H=>∃ xs ys,SeqV H a xs/\SeqV H b ys/\(xs.length<=i∨ys.length<=i)⟩
noncomputable def iZip2 (ta:TA):TI:=fun σ H R=>ta σ H fun vs H1=>∃ a b xs ys,vs=[.ref a,.ref b]/\SeqV H1 a xs/\SeqV H1 b ys/\R (Itz2 a b) H1
theorem rNeD_bb {H:Hp}{Q:VK}{i j:Bool}:rNeD (.bl i) (.bl j) H Q=Q (.bl (!decide (i=j))) H:=by
 have e:eqD (.bl i) (.bl j)=decide (i=j):=by cases i <;> cases j <;> rfl
 refine propext ⟨fun ⟨d,e',h1,h2,_,q⟩=>?_,fun q=>⟨.bl i,.bl j,rfl,rfl,Nat.zero_le _,by rw [e];exact q⟩⟩
 have d1:d = .bl i:=Rep.inj h1 (show Rep H (.bl i) (.bl i) from rfl)
 have d2:e' = .bl j:=Rep.inj h2 (show Rep H (.bl j) (.bl j) from rfl)
 rw [d1,d2,e] at q
 exact q
theorem rEqD_bb {H:Hp}{Q:VK}{i j:Bool}:rEqD (.bl i) (.bl j) H Q=Q (.bl (decide (i=j))) H:=by
 have e:eqD (.bl i) (.bl j)=decide (i=j):=by cases i <;> cases j <;> rfl
 refine propext ⟨fun ⟨d,e',h1,h2,_,q⟩=>?_,fun q=>⟨.bl i,.bl j,rfl,rfl,Nat.zero_le _,by rw [e];exact q⟩⟩
 have d1:d = .bl i:=Rep.inj h1 (show Rep H (.bl i) (.bl i) from rfl)
 have d2:e' = .bl j:=Rep.inj h2 (show Rep H (.bl j) (.bl j) from rfl)
 rw [d1,d2,e] at q
 exact q
end L2
namespace L2
open PySem
theorem zpG {H:Hp}{p:Addr}{i:Int}:ixV H (.ref p) (.int i)=(match H p with
  | some (.lst xs)=>atI xs i
  | some (.tup xs)=>atI xs i
  | some (.frz _ (.lst xs))=>atI xs i
  | _=>none):=rfl
noncomputable def abc:Str:="abcdefghijklmnopqrstuvwxyz"
theorem zpr (j:Nat)(h:j < 26):abc.cps.toList[j]?=some (97 + j):=by
 have:∀ j:Fin 26,abc.cps.toList[j.1]?=some (97 + j.1):=by decide +kernel
 exact this ⟨j,h⟩
theorem zoj:abc.cps.toList.length=26:=by decide +kernel
theorem zpg {H:Hp}{i:Int}(h0:0<=i)(h1:i < 26):ixV H (.str abc) (.int i)=some (.str ⟨#[97 + i.toNat]⟩):=by
 show (if abc.length<=sizeLine then (atI abc.cps.toList i).map fun c=>V.str ⟨#[c]⟩ else none)=_
 rw [if_pos (by decide +kernel),zeN h0 (by rw [zoj];exact h1),zpr _ (by omega)]
 rfl
noncomputable def wordL:Nat->Int->List Nat
 | 0,_=>[]
 | k + 1,n=>(97 + (n % 26).toNat) :: wordL k (n / 26)
theorem zeb:∀ k n,(wordL k n).length=k
 | 0,_=>rfl
 | k + 1,n=>by simp [wordL,zeb k]
noncomputable def wordS (k:Nat)(n:Int):Str:=⟨(wordL k n).toArray⟩
theorem tyL {K:PySem.W.Frag}{H:Hp}{p:Addr}{xs:List V}(h:H p=some (.lst xs)):tyV K "list" (.ref p) H:=.inl ⟨rfl,xs,SqL.of h⟩
noncomputable def zcR (x:Str):Prop:=1<=x.cps.toList.length/\x.cps.toList.length<=6/\∀ c ∈ x.cps.toList,97<=c/\c<=122
theorem zh1:∀ (k:Nat) (n:Int),∀ c ∈ wordL k n,97<=c/\c<=122
 | 0,_,_,h=>by simp [wordL] at h
 | k + 1,n,c,h=>by
  rw [wordL] at h
  rcases List.mem_cons.mp h with e | e
  ·have h1:=Int.emod_nonneg n (b:=26) (by decide)
   have h2:=Int.emod_lt_of_pos n (b:=26) (by decide)
   omega
  ·exact zh1 k _ c e
theorem zlr {k:Nat}{n:Int}(h1:1<=k)(h2:k<=6):zcR (wordS k n):=by
 have e:(wordS k n).cps.toList=wordL k n:=by simp [wordS]
 refine ⟨?_,?_,?_⟩
 ·rw [e,zeb];exact h1
 ·rw [e,zeb];exact h2
 ·rw [e];exact zh1 k n
theorem zjr {k:Nat}{a b:Int}(hk:1<=k)(h:wordS k a=wordS k b):a % 26=b % 26:=by
 obtain ⟨j,rfl⟩:∃ j,k=j + 1:=⟨k - 1,by omega⟩
 have e:(wordS (j + 1) a).cps.toList=(wordS (j + 1) b).cps.toList:=by rw [h]
 simp only [wordS,wordL] at e
 injection e with e1 _
 have h1:=Int.emod_nonneg a (b:=26) (by decide)
 have h2:=Int.emod_nonneg b (b:=26) (by decide)
 omega
theorem zgw {α:Type}[DecidableEq α]:∀ {xs ys:List α},xs.Nodup->(∀ x ∈ xs,x ∈ ys)->xs.length<=ys.length
 | [],_,_,_=>Nat.zero_le _
 | x :: xs,ys,nd,h=>by
  obtain ⟨h1,h2⟩:=List.nodup_cons.mp nd
  have hx:=h x List.mem_cons_self
  have q:=zgw (ys:=ys.erase x) h2 fun y hy=>(List.mem_erase_of_ne (fun e=>h1 (by rw [← e];exact hy))).mpr (h y (List.mem_cons_of_mem _ hy))
  rw [List.length_erase_of_mem hx] at q
  have:=List.length_pos_of_mem hx
  simp only [List.length_cons]
  omega
theorem zea {k:Nat}{n:Int}{ws:List Str}{t:Nat}(hk:1<=k)(ht:t<=26)(h:∀ i,i < t->wordS k (n + i) ∈ ws):t<=ws.length:=by
 have nd:((List.range t).map fun i=>wordS k (n + (i:Nat))).Nodup:=by
  rw [List.nodup_iff_pairwise_ne,List.pairwise_map]
  refine List.Pairwise.imp_of_mem ?_ (List.pairwise_lt_range (n:=t))
  intro a b ha hb hab e
  have:=zjr hk e
  have h1:=List.mem_range.mp ha
  have h2:=List.mem_range.mp hb
  omega
 have q:=zgw nd (ys:=ws) fun x hx=>by
  obtain ⟨i,hi,rfl⟩:=List.mem_map.mp hx
  exact h i (List.mem_range.mp hi)
 simpa using q
theorem zes {H:Hp}:∀ (ws:List Str),Reps H (ws.map D.str) (ws.map V.str)
 | []=>rfl
 | x :: r=>⟨.str x,r.map V.str,rfl,rfl,zes r⟩
theorem zfW:∀ ws:List Str,depDs (ws.map D.str)=0
 | []=>rfl
 | x :: r=>by rw [List.map_cons,depDs,zfW r];rfl
theorem zfS {x:Str}:∀ ws:List Str,inD (.str x) (ws.map D.str)=decide (x ∈ ws)
 | []=>by simp [inD]
 | y :: r=>by
  have ih:=zfS (x:=x) r
  unfold inD at ih ⊢
  rw [List.map_cons,List.any_cons,ih]
  have e:eqD (.str y) (.str x)=decide (y=x):=by
   show (y == x)=_
   rw [Bool.eq_iff_iff];simp
  rw [e,Bool.eq_iff_iff]
  simp only [Bool.or_eq_true,decide_eq_true_eq,List.mem_cons]
  constructor
  ·rintro (h | h)
   ·exact .inl h.symm
   ·exact .inr h
  ·rintro (h | h)
   ·exact .inl h.symm
   ·exact .inr h
noncomputable def del (H:Hp)(p:Addr):Hp:=fun b=>if b=p then none else H b
theorem zds {H:Hp}{p b:Addr}{o:HO}(h:H b=some o)(n:b≠p):del H p b=some o:=by unfold del;rw [if_neg n];exact h
theorem zb9 {H:Hp}{p b:Addr}{o:HO}(h:del H p b=some o):H b=some o/\b≠p:=by
 unfold del at h
 by_cases e:b=p
 ·rw [if_pos e] at h;cases h
 ·rw [if_neg e] at h;exact ⟨h,e⟩
theorem zmt (H:Hp)(p:Addr):Same (del H p) H:=fun b o h=>(zb9 h).1
end L2
section
local macro_rules | `(tactic| walk_at "rd")=>do
 let xs:Array (Lean.TSyntax [`Lean.Parser.Tactic.simpStar,`Lean.Parser.Tactic.simpErase,`Lean.Parser.Tactic.simpLemma]):=("L2.start List.map_cons List.map_nil List.length_cons List.length_nil Nat.reduceAdd Nat.reduceSub Nat.zero_add List.replicate_succ List.replicate_zero List.cons_append List.nil_append List.set_cons_zero List.set_cons_succ L2.tSeq L2.tIfS L2.tTest L2.tOp L2.tVar L2.tC L2.rI0 L2.tAsg L2.gName L2.gSub L2.rI L2.tRet L2.tNext L2.rSetL L2.rAddF L2.rRep L2.tCB L2.r1 L2.tCons L2.tNil L2.tDrop L2.tAnd L2.tOr L2.tNot L2.tIf L2.tLst L2.tTup L2.tCall L2.tFor_eq L2.tComp_eq L2.tComp2_eq L2.iRng1 L2.iRng2 L2.iAny L2.iSq L2.iZip L2.iZip2 L2.iEnum L2.tRaise L2.tTry L2.rLtL L2.rAll L2.rAny L2.rSum L2.tUn L2.rU L2.gTup L2.gCons L2.gNil L2.tBM L2.tBM0 L2.rAppend L2.rPop L2.rPopAt L2.rExtend L2.tSl L2.tNoPart L2.tPart L2.rSlF L2.rSlU L2.rTupU L2.CStep L2.tYes L2.stC Option.bind_some Option.bind_none Option.join_some L2.tAndV L2.tOrV L2.tNotV L2.tNever not_true_eq_false not_false_eq_true L2.tChain L2.tTruth L2.rIs_eq L2.truV_bl L2.isV_ii L2.isV_ib L2.isV_ll L2.lenV_l L2.lenV_t L2.seqV_l L2.seqV_t L2.ixV_l L2.ixV_t if_true if_false Bool.not_true Bool.not_false Bool.false_eq_true Option.bind_eq_bind Option.pure_def L2.rEqD_ii L2.rNeD_ii L2.rEqD_bb L2.rNeD_bb L2.isV_bb L2.rEqD_ss L2.rNeD_ss Int.zero_add L2.catO_i L2.catO_s L2.addV L2.intV L2.atI_zero L2.atI_one L2.ixN_zero L2.ixN_one L2.upd_same L2.upd_upd Option.map_some Option.map_none List.getElem?_cons_zero List.getElem?_cons_succ Option.some.injEq L2.V.int.injEq L2.V.ref.injEq L2.V.bl.injEq L2.V.str.injEq L2.HO.lst.injEq List.cons.injEq and_true true_and exists_eq_left exists_eq_left' exists_eq_right exists_eq_right' exists_and_left exists_and_right exists_const reduceCtorEq false_and and_false exists_false or_false false_or decide_eq_true_eq ite_eq_left_iff Bool.not_eq_true Bool.not_eq_eq_eq_not decide_eq_false_iff_not decide_true decide_false".splitOn " ").toArray.map fun s=>⟨Lean.mkNode `Lean.Parser.Tactic.simpLemma #[Lean.mkNullNode,Lean.mkNullNode,Lean.mkIdent s.toName]⟩
 let xs:=xs.push ⟨Lean.mkNode `Lean.Parser.Tactic.simpStar #[Lean.mkAtom "*"]⟩
 `(tactic| simp only [$xs,*])
namespace Lw
open PySem L2
noncomputable def zhZ:List Str:=["_law_script","_law_k"]
noncomputable def zde:List Str:=["_law_script","_law_k"]
theorem zgk:FnScope zhZ zde (zad zbn):=⟨rfl,rfl,rfl,by decide +kernel,rfl,by decide +kernel,by decide +kernel⟩
noncomputable def zfp:List Str:=["_law_script","_law_k","_law_cell_here"]
noncomputable def zdJ:List Str:=["_law_script","_law_k"]
theorem zeo:FnScope zfp zdJ (zad zbw):=⟨rfl,rfl,rfl,by decide +kernel,rfl,by decide +kernel,by decide +kernel⟩
noncomputable def zeV:List Str:=["_law_pot_here","_law_many","_law_digit"]
noncomputable def zdc:List Str:=["_law_pot_here","_law_many"]
theorem zdK:FnScope zeV zdc (zad zbm):=⟨rfl,rfl,rfl,by decide +kernel,rfl,by decide +kernel,by decide +kernel⟩
noncomputable def zeT:List Str:=["_law_size","_law_number","_law_word_here","_law_k"]
noncomputable def zdb:List Str:=["_law_size","_law_number"]
theorem zbD:FnScope zeT zdb (zad zbl):=⟨rfl,rfl,rfl,by decide +kernel,rfl,by decide +kernel,by decide +kernel⟩
noncomputable def zdO:List Str:=["_law_pot_here","_law_many","_law_found","_law_k","_law_size","_law_number"]
noncomputable def zcN:List Str:=["_law_pot_here","_law_many"]
theorem zbb:FnScope zdO zcN (zad za7):=⟨rfl,rfl,rfl,by decide +kernel,rfl,by decide +kernel,by decide +kernel⟩
noncomputable def zb6:List Str:=["_law_pot_here","_law_many","_law_sums","_law_names_here","_law_sure","_law_fixed","_law_left","_law_told","_law_name","_law_nought"]
noncomputable def zcM:List Str:=["_law_pot_here"]
theorem zav:FnScope zb6 zcM (zad zaK):=⟨rfl,rfl,rfl,by decide +kernel,rfl,by decide +kernel,by decide +kernel⟩
noncomputable def zdP:List Str:=["_law_pot_here","_law_found","_law_k","_law_wish","_law_j"]
noncomputable def zcP:List Str:=["_law_pot_here"]
theorem zbc:FnScope zdP zcP (zad za9):=⟨rfl,rfl,rfl,by decide +kernel,rfl,by decide +kernel,by decide +kernel⟩
noncomputable def zdg:List Str:=["_law_pot_here","_law_told","_law_own","_law_bare","_law_some"]
noncomputable def zdd:List Str:=["_law_pot_here","_law_told","_law_own"]
theorem zcC:FnScope zdg zdd (zad za8):=⟨rfl,rfl,rfl,by decide +kernel,rfl,by decide +kernel,by decide +kernel⟩
noncomputable def zb7:List Str:=["_law_told","_law_room","_law_found"]
noncomputable def zcO:List Str:=["_law_told","_law_room"]
theorem zcj:FnScope zb7 zcO (zad zaL):=⟨rfl,rfl,rfl,by decide +kernel,rfl,by decide +kernel,by decide +kernel⟩
noncomputable def zeU:List Str:=["_law_pot_here","_law_told","_law_own","_law_room","_law_deep","_law_heads_here","_law_name","_law_parts","_law_left","_law_row","_law_k","_law_more"]
noncomputable def zbA:List Str:=["_law_pot_here","_law_told","_law_own","_law_room","_law_deep"]
theorem zaH:FnScope zeU zbA (zad zaZ):=⟨rfl,rfl,rfl,by decide +kernel,rfl,by decide +kernel,by decide +kernel⟩
noncomputable def zpu:List Str:=["_law_script","_law_pot_here","_law_told","_law_signs_here","_law_some","_law_k","_law_term_here"]
noncomputable def zpt:List Str:=["_law_script"]
theorem zem:FnScope zpu zpt (zad zeX):=⟨rfl,rfl,rfl,by decide +kernel,rfl,by decide +kernel,by decide +kernel⟩
noncomputable def zeR:List Str:=["thing"]
noncomputable def zeO:List Str:=["thing"]
theorem ziU:FnScope zeR zeO (zad zbE):=⟨rfl,rfl,rfl,by decide +kernel,rfl,by decide +kernel,by decide +kernel⟩
noncomputable def zfn:List Str:=["signs","thing"]
noncomputable def zdH:List Str:=["signs","thing"]
theorem zhw:FnScope zfn zdH (zad zbu):=⟨rfl,rfl,rfl,by decide +kernel,rfl,by decide +kernel,by decide +kernel⟩
noncomputable def zcT:List Str:=["signs","thing","todo","at","depth"]
noncomputable def zcL:List Str:=["signs","thing"]
theorem zbK:FnScope zcT zcL (zad zaW):=⟨rfl,rfl,rfl,by decide +kernel,rfl,by decide +kernel,by decide +kernel⟩
noncomputable def ziI:List Str:=["term","found","todo","at"]
noncomputable def zf3:List Str:=["term"]
theorem zdh:FnScope ziI zf3 (zad zck):=⟨rfl,rfl,rfl,by decide +kernel,rfl,by decide +kernel,by decide +kernel⟩
noncomputable def zdN:List Str:=["term"]
noncomputable def zcK:List Str:=["term"]
theorem zfD:FnScope zdN zcK (zad za5):=⟨rfl,rfl,rfl,by decide +kernel,rfl,by decide +kernel,by decide +kernel⟩
noncomputable def zdf:List Str:=["term"]
noncomputable def zda:List Str:=["term"]
theorem zgj:FnScope zdf zda (zad za6):=⟨rfl,rfl,rfl,by decide +kernel,rfl,by decide +kernel,by decide +kernel⟩
noncomputable def ziK:List Str:=["name","term"]
noncomputable def zf6:List Str:=["name","term"]
theorem zjY:FnScope ziK zf6 (zad zcm):=⟨rfl,rfl,rfl,by decide +kernel,rfl,by decide +kernel,by decide +kernel⟩
noncomputable def zfo:List Str:=["name","nought","parts","left","part"]
noncomputable def zdI:List Str:=["name","nought","parts"]
theorem zc2:FnScope zfo zdI (zad zbv):=⟨rfl,rfl,rfl,by decide +kernel,rfl,by decide +kernel,by decide +kernel⟩
noncomputable def zcS:List Str:=["signs","name","parts","nought"]
noncomputable def zbX:List Str:=["signs","name","parts"]
theorem zcx:FnScope zcS zbX (zad zaF):=⟨rfl,rfl,rfl,by decide +kernel,rfl,by decide +kernel,by decide +kernel⟩
noncomputable def zct:List Str:=["term","filling","whole","made","at","parts"]
noncomputable def zcq:List Str:=["term","filling","whole"]
theorem zbC:FnScope zct zcq (zad zaI):=⟨rfl,rfl,rfl,by decide +kernel,rfl,by decide +kernel,by decide +kernel⟩
noncomputable def zmA:List Str:=["signs","filling","term"]
noncomputable def zf4:List Str:=["signs","filling","term"]
theorem zjX:FnScope zmA zf4 (zad zaS):=⟨rfl,rfl,rfl,by decide +kernel,rfl,by decide +kernel,by decide +kernel⟩
noncomputable def zm2:List Str:=["signs","term"]
noncomputable def zlp:List Str:=["signs","term"]
theorem znh:FnScope zm2 zlp (zad zer):=⟨rfl,rfl,rfl,by decide +kernel,rfl,by decide +kernel,by decide +kernel⟩
noncomputable def zeS:List Str:=["thing"]
noncomputable def zeQ:List Str:=["thing"]
theorem ziW:FnScope zeS zeQ (zad zbF):=⟨rfl,rfl,rfl,by decide +kernel,rfl,by decide +kernel,by decide +kernel⟩
noncomputable def zfm:List Str:=["thing"]
noncomputable def zdG:List Str:=["thing"]
theorem zhv:FnScope zfm zdG (zad zbt):=⟨rfl,rfl,rfl,by decide +kernel,rfl,by decide +kernel,by decide +kernel⟩
noncomputable def zb0:List Str:=["thing","least","most","pair"]
noncomputable def zbY:List Str:=["thing","least","most"]
theorem zcy:FnScope zb0 zbY (zad zaA):=⟨rfl,rfl,rfl,by decide +kernel,rfl,by decide +kernel,by decide +kernel⟩
noncomputable def zbN:List Str:=["pairs","names"]
noncomputable def zcs:List Str:=["pairs"]
theorem zcY:FnScope zbN zcs (zad zaE):=⟨rfl,rfl,rfl,by decide +kernel,rfl,by decide +kernel,by decide +kernel⟩
noncomputable def zcu:List Str:=["fixed_rows","name","many"]
noncomputable def zcr:List Str:=["fixed_rows"]
theorem zcX:FnScope zcu zcr (zad zaJ):=⟨rfl,rfl,rfl,by decide +kernel,rfl,by decide +kernel,by decide +kernel⟩
noncomputable def zb1:List Str:=["sum_rows","bare_names","name","nought","noughts"]
noncomputable def zbZ:List Str:=["sum_rows","bare_names"]
theorem zbG:FnScope zb1 zbZ (zad zaB):=⟨rfl,rfl,rfl,by decide +kernel,rfl,by decide +kernel,by decide +kernel⟩
noncomputable def zbJ:List Str:=["self","fixed","sums","fixed_rows","sum_rows"]
noncomputable def zbI:List Str:=["self","fixed","sums"]
theorem zbs:FnScope zbJ zbI (zad zaw):=⟨rfl,rfl,rfl,by decide +kernel,rfl,by decide +kernel,by decide +kernel⟩
noncomputable def zdQ:List Str:=["self","name"]
noncomputable def zcQ:List Str:=["self","name"]
theorem zfE:FnScope zdQ zcQ (zad zba):=⟨rfl,rfl,rfl,by decide +kernel,rfl,by decide +kernel,by decide +kernel⟩
noncomputable def zc0:List Str:=["self","name"]
noncomputable def zca:List Str:=["self","name"]
theorem zep:FnScope zc0 zca (zad zaO):=⟨rfl,rfl,rfl,by decide +kernel,rfl,by decide +kernel,by decide +kernel⟩
noncomputable def zlq:List Str:=["signs","term","said","todo","at"]
noncomputable def zhY:List Str:=["signs","term"]
theorem zdY:FnScope zlq zhY (zad zc3):=⟨rfl,rfl,rfl,by decide +kernel,rfl,by decide +kernel,by decide +kernel⟩
noncomputable def ziJ:List Str:=["term","found","part"]
noncomputable def zf5:List Str:=["term"]
theorem zel:FnScope ziJ zf5 (zad zcl):=⟨rfl,rfl,rfl,by decide +kernel,rfl,by decide +kernel,by decide +kernel⟩
noncomputable def zm1:List Str:=["signs","text","found"]
noncomputable def zlo:List Str:=["signs","text"]
theorem zjW:FnScope zm1 zlo (zad zeq):=⟨rfl,rfl,rfl,by decide +kernel,rfl,by decide +kernel,by decide +kernel⟩
noncomputable def zdx:List Str:=["text","opened","latest","sign"]
noncomputable def zcp:List Str:=["text"]
theorem zaN:FnScope zdx zcp (zad zaY):=⟨rfl,rfl,rfl,by decide +kernel,rfl,by decide +kernel,by decide +kernel⟩
noncomputable def zha:List Str:=["signs","thing"]
noncomputable def zeP:List Str:=["signs","thing"]
theorem ziV:FnScope zha zeP (zad zbR):=⟨rfl,rfl,rfl,by decide +kernel,rfl,by decide +kernel,by decide +kernel⟩
noncomputable def zcb:List Str:=["_law_term_here"]
noncomputable def za3:List Str:=["_law_term_here"]
theorem zen:FnScope zcb za3 (zad zau):=⟨rfl,rfl,rfl,by decide +kernel,rfl,by decide +kernel,by decide +kernel⟩
noncomputable def zcv:List Str:=["_law_term_here"]
noncomputable def zbe:List Str:=["_law_term_here"]
theorem zeW:FnScope zcv zbe (zad zaz):=⟨rfl,rfl,rfl,by decide +kernel,rfl,by decide +kernel,by decide +kernel⟩
noncomputable def zch:List Str:=["_law_signs_here","_law_term_here","_law_before","_law_text"]
noncomputable def zbB:List Str:=["_law_signs_here","_law_term_here"]
theorem zbo:FnScope zch zbB (zad zax):=⟨rfl,rfl,rfl,by decide +kernel,rfl,by decide +kernel,by decide +kernel⟩
structure Txt (mg:Str->Option Value):Prop where
 n_len:mg "len" = none
 n_range:mg "range" = none
 n_int:mg "int" = none
 n_abs:mg "abs" = none
 n_min:mg "min" = none
 n_max:mg "max" = none
 n_tuple:mg "tuple" = none
 n_list:mg "list" = none
 n_dict:mg "dict" = none
 n_set:mg "set" = none
 n_isinstance:mg "isinstance" = none
 n_str:mg "str" = none
 n_bool:mg "bool" = none
 n_sorted:mg "sorted" = none
 n_reversed:mg "reversed" = none
 n_all:mg "all" = none
 n_any:mg "any" = none
 n_zip:mg "zip" = none
 n_repr:mg "repr" = none
 c_WISH_SIGNS:∃ u,mg "WISH_SIGNS" = some u/\RelV (.str "abcdefghijklmnopqrstuvwxyz0123456789") u
 c_LETTERS:∃ u,mg "LETTERS" = some u/\RelV (.str "abcdefghijklmnopqrstuvwxyz") u
 c_LONGEST_WISH:∃ u,mg "LONGEST_WISH" = some u/\RelV (.int 9) u
 c_DEEPEST:∃ u,mg "DEEPEST" = some u/\RelV (.int 1000) u
 c_LONGEST_NAME:∃ u,mg "LONGEST_NAME" = some u/\RelV (.int 6) u
 c_MOST_FIXED:∃ u,mg "MOST_FIXED" = some u/\RelV (.int 12) u
 c_MOST_SUMS:∃ u,mg "MOST_SUMS" = some u/\RelV (.int 3) u
 c_MOST_PARTS:∃ u,mg "MOST_PARTS" = some u/\RelV (.int 3) u
section
variable {P:Program}{w:World}{K:PySem.W.Frag}{mg:Str->Option Value}{base:Heap}
noncomputable def zjR (K:PySem.W.Frag):Sp:=fun vs H Q _=>∃ (a:Addr) (k:Int) (ns:List Int),vs=[.ref a,.int k]/\SqL K H a (ns.map V.int)/\0<=k/\k<=1000/\∀ n,Q (.int n) H
theorem znS {f:Addr}{fd:FuncData}(F:Fun K "_law_cell" "_law_cell" zbn f fd)(T:Txt mg):FnOk P w K mg base CX0 1 f fd zde (zjR K):=by
 refine F.ok zgk (fun vs H Q E h=>?_) (fun cdv A outer s H vs Q E hr h=>?_)
 ·obtain ⟨a,k,ns,rfl,_⟩:=h
  rfl
 ·obtain ⟨a,k,ns,rfl,ha,h0,h1,q⟩:=h
  have hu:=hr.units
  refine ⟨_,(zaf (zaT (zas (zgu hu) (pv 1) (zaj zcJ rfl T.n_len rfl (zaa (pv 0) zae)) (nomark _)) (zag (zao (zbg zmS (pv 0) (pv 1) (fun _ _=>rfl)))) zaq)
   (zag (zao zah))),?_⟩
  refine ⟨_,rfl,_,rfl,a,_,rfl,.inl ha,.inl (.inl ⟨_,_,rfl,rfl,_,rfl,?_⟩)⟩
  refine ite2 (fun c=>?_) (fun c=>?_)
  ·have c:k < ((ns.map V.int).length:Int):=by simpa using c
   have hl:k.toNat < ns.length:=by rw [List.length_map] at c;omega
   refine ⟨_,rfl,_,rfl,.inl ⟨a,_,k,.int (ns[k.toNat]),rfl,rfl,ha,?_,q _⟩⟩
   rw [zeN h0 c]
   simp [hl]
  ·exact q 0
noncomputable def spPot (K:PySem.W.Frag):Sp:=fun vs H Q _=>∃ (a:Addr) (k:Int) (ns:List Int),vs=[.ref a,.int k]/\SqL K H a (ns.map V.int)/\0<=k/\k<=1000/\∀ p x y,H p=none->Q (.ref p) (upd H p (.lst [.int x,.int y]))
theorem zoY {f:Addr}{fd:FuncData}(F:Fun K "_law_pot" "_law_pot" zbw f fd)(T:Txt mg)(O__law_cell:Own P w K mg base CX0 1 "_law_cell" (zjR K)):FnOk P w K mg base CX0 2 f fd zdJ (spPot K):=by
 refine F.ok zeo (fun vs H Q E h=>?_) (fun cdv A outer s H vs Q E hr h=>?_)
 ·obtain ⟨a,k,ns,rfl,_⟩:=h
  rfl
 ·obtain ⟨a,k,ns,rfl,ha,h0,h1,q⟩:=h
  refine ⟨_,(zaf (zap (i:=2) zeo.nd rfl (Or.inl rfl) (zan O__law_cell (hr.mono (by decide)) pass0 rfl (zaa (pv 0) (zaa (pv 1) zae))))
   (zag (zao (zaX (zaa (zaQ (ze6.or ze5) (pv 2) (zaU zg3 rfl T.n_int rfl (zaa (zbW zoR (pv 2) (zaQ zoO zah zah) (nomark _)) zae))) (zaa (zaQ zaG (zaQ zaG (zaQ (ze6.or ze5) (zaQ zgt (zaj zlj rfl T.n_abs rfl (zaa (pv 2) zae)) zah) zah) (zaQ (ze6.or ze5) zah (pv 1))) zah) zae)))))),?_⟩
  refine ⟨_,rfl,_,rfl,a,k,ns,rfl,ha,h0,h1,fun n=>?_⟩
  simp only [zfp]
  clear F T O__law_cell hr
  walk_at "rd"
  have e1:CPow 10 18:=⟨by decide,by decide,by decide⟩
  have e2:∀ i:Int,CMul i (if (10:Int) ^ Int.toNat 18<=n then 1 else 0):=fun i=>.inr (by split <;> decide)
  have e3:∀ i:Int,CMul i 3:=fun i=>.inr (by decide)
  have e4:∀ i:Int,CMul 977 i:=fun i=>.inl (by decide)
  exact ⟨e1,e2 _,by decide,e3 _,e4 _,by decide,fun p hp=>q p _ _ hp⟩
noncomputable def IsPot (H:Hp)(p:Addr):Prop:=∃ a b:Int,H p=some (.lst [.int a,.int b])
theorem IsPot.but {p l:Addr}{H:Hp}{o:HO}(h:IsPot H p)(n:p≠l):IsPot (upd H l o) p:=by obtain ⟨x,y,e⟩:=h;exact ⟨x,y,by rw [zac n];exact e⟩
theorem IsPot.ne {p l:Addr}{H:Hp}(h:IsPot H p)(n:H l=none):p≠l:=by obtain ⟨x,y,e⟩:=h;exact zab e n
noncomputable def zcw:Sp:=fun vs H Q _=>∃ p n,vs=[.ref p,.int n]/\IsPot H p/\0 < n/\n < 1073741824/\∀ d a b,0<=d->d < n->Q (.int d) (upd H p (.lst [.int a,.int b]))
theorem znL {f:Addr}{fd:FuncData}(F:Fun K "_law_take" "_law_take" zbm f fd)(T:Txt mg):FnOk P w K mg base CX0 1 f fd zdc zcw:=by
 refine F.ok zdK (fun vs H Q E h=>?_) (fun cdv A outer s H vs Q E hr h=>?_)
 ·obtain ⟨p,n,rfl,_⟩:=h
  rfl
 ·obtain ⟨p,n,rfl,⟨a,b,hp⟩,h0,h1,k⟩:=h
  refine ⟨_,(zaf (zaT (zas zlU (zbg ix_F (pv 0) zah (fun _ _=>rfl)) zah (nomark _)) (zaf (zap (i:=2) zdK.nd rfl (Or.inl rfl) (zaQ zgt (zbg ix_F (pv 0) zah (fun _ _=>rfl)) (pv 1)))
   (zaf (zgn (zaQ zhC (zbg ix_F (pv 0) zah (fun _ _=>rfl)) (pv 1)) (zj6 (pv 0) zah zfC))
   (zag (zao (pv 2))))) zaq)
   (zaf (zgn (zaQ zgt (zaQ zaG (zaQ (ze6.or ze5) (zbg ix_F (pv 0) zah (fun _ _=>rfl)) zah) zah) zah) (zj6 (pv 0) zah zfC))
   (zag (zao (zaQ zgt (zaQ zhC (zbg ix_F (pv 0) zah (fun _ _=>rfl)) zah) (pv 1)))))),?_⟩
  simp only [zeV]
  clear hr F T
  walk_at "rd"
  split
  ·exact ⟨⟨h0,h1⟩,k _ _ _ (Int.emod_nonneg _ (by omega)) (Int.emod_lt_of_pos _ h0)⟩
  ·exact ⟨.inr (by decide),by decide,⟨by decide,by decide⟩,k _ _ _ (Int.emod_nonneg _ (by omega)) (Int.emod_lt_of_pos _ h0)⟩
noncomputable def zjK:Sp:=fun vs H Q _=>∃ (k:Nat) (n:Int),vs=[.int k,.int n]/\k<=6/\Q (.str (wordS k n)) H
theorem znI {f:Addr}{fd:FuncData}(F:Fun K "_law_word" "_law_word" zbl f fd)(T:Txt mg):FnOk P w K mg base CX0 1 f fd zdb zjK:=by
 refine F.ok zbD (fun vs H Q E h=>?_) (fun cdv A outer s H vs Q E hr h=>?_)
 ·obtain ⟨k,n,rfl,_⟩:=h
  rfl
 ·obtain ⟨k,n,rfl,hk,q⟩:=h
  refine ⟨_,(zaf (zap (i:=2) zbD.nd rfl (Or.inl rfl) zbf)
   (zaf (zb2 PassesOwn.never rfl (zbU rfl T.n_range (zaa (pv 0) zae)) (zaC (i:=3) zbD.nd rfl (Or.inl rfl)) (zaf (zap (i:=2) zbD.nd rfl (Or.inl rfl) (zaQ zaG (pv 2) (zbg ix_F zbf (zaQ zgt (pv 1) zah) (fun _ _=>rfl))))
   (zag (zap (i:=1) zbD.nd rfl (Or.inl rfl) (zaQ zhC (pv 1) zah)))))
   (zag (zao (pv 2))))),?_⟩
  simp only [zeT]
  clear hr F T
  walk_at "rd"
  refine ⟨by omega,by omega,?_⟩
  rw [Int.toNat_natCast]
  refine zbO (fun i σ H'=>H'=H/\∃ (m:Int) (l:List Nat) (o:Option V),σ=[some (.int k),some (.int m),some (.str ⟨l.toArray⟩),o]/\l.length=i/\l ++ wordL (k - i) m=wordL k n) ⟨rfl,n,[],none,rfl,rfl,rfl⟩ ?_ ?_
  ·rintro i σ H' hi ⟨rfl,m,l,o,rfl,hl,he⟩
   have hx:=zpg (H:=H') (i:=m % 26) (Int.emod_nonneg _ (by decide)) (Int.emod_lt_of_pos _ (by decide))
   have hx':ixV H' (.str (PySem.Str.ofString "abcdefghijklmnopqrstuvwxyz")) (.int (m % 26))=some (.str ⟨#[97 + (m % 26).toNat]⟩):=hx
   walk_at "rd"
   have e1:k - i=(k - (i + 1)) + 1:=by omega
   rw [e1,wordL] at he
   refine ⟨by decide,_,if_pos (Nat.le_trans (m:=100) ?_ (by decide)),⟨by decide,by decide⟩,_,l ++ [97 + (m % 26).toNat],⟨rfl,congrArg V.str ?_⟩,by simp [hl],by rw [List.append_assoc];exact he⟩
   ·show l.toArray.size + 1<=100
    rw [List.size_toArray]
    omega
   ·exact congrArg Str.mk (by simp)
  ·rintro σ H' ⟨rfl,m,l,o,rfl,hl,he⟩
   walk_at "rd"
   rw [Nat.sub_self,wordL,List.append_nil] at he
   rw [he]
   exact q
noncomputable def zhr:Sp:=fun vs H Q _=>∃ (p:Addr) (m:Nat),vs=[.ref p,.int m]/\IsPot H p/\m<=15/\∀ (l:Addr) (ws:List Str) (H':Hp),H l=none->H' l=some (.lst (ws.map V.str))->But p H H'->IsPot H' p->ws.length=m->ws.Nodup->(∀ x ∈ ws,zcR x)->Q (.ref l) H'
noncomputable def NInv (p l:Addr)(m:Nat)(H:Hp)(i:Nat)(σ:St)(H1:Hp):Prop:=∃ (ws:List Str) (o1 o2 o3:Option V),σ=[some (.ref p),some (.int m),some (.ref l),o1,o2,o3]/\H1 l=some (.lst (ws.map V.str))/\But p H H1/\IsPot H1 p/\ws.length=i/\ws.Nodup/\∀ x ∈ ws,zcR x
theorem zl3 {f:Addr}{fd:FuncData}(F:Fun K "_law_names" "_law_names" za7 f fd)(T:Txt mg)(O__law_take:Own P w K mg base CX0 1 "_law_take" zcw)(O__law_word:Own P w K mg base CX0 1 "_law_word" zjK):FnOk P w K mg base CX0 2 f fd zcN zhr:=by
 refine F.ok zbb (fun vs H Q E h=>?_) (fun cdv A outer s H vs Q E hr h=>?_)
 ·obtain ⟨p,m,rfl,_⟩:=h
  rfl
 ·obtain ⟨p,m,rfl,hp,hm,q⟩:=h
  have hu:=hr.units
  refine ⟨_,(zaf (zap (i:=2) zbb.nd rfl (Or.inl rfl) (zaX zae))
   (zaf (zb2 PassesOwn.never rfl (zbU rfl T.n_range (zaa (pv 1) zae)) (zaC (i:=3) zbb.nd rfl (Or.inl rfl)) (zaf (zap (i:=4) zbb.nd rfl (Or.inl rfl) (zaQ zaG zah (zan O__law_take (hr.mono (by decide)) pass0 rfl (zaa (pv 0) (zaa zah zae)))))
   (zaf (zap (i:=5) zbb.nd rfl (Or.inl rfl) (zan O__law_take (hr.mono (by decide)) pass0 rfl (zaa (pv 0) (zaa (zbg ix_F (zaX (zaa zah (zaa zah (zaa zah (zaa zah (zaa zah (zaa zah zae))))))) (zaQ ze4 (pv 4) zah) (fun _ _=>rfl)) zae))))
   (zaf (zdZ PassesOwn.never (zas (zoU hu) (zan O__law_word (hr.mono (by decide)) pass0 rfl (zaa (pv 4) (zaa (pv 5) zae))) (pv 2) (by with_unfolding_all rfl)) (zag (zap (i:=5) zbb.nd rfl (Or.inl rfl) (zaQ zaG (pv 5) zah))))
   (zag (zaP (zcB PySem.F.plainAttrs_list PySem.F.slot_list_append PySem.F.type_list_append zbj (pv 2) (zaa (zan O__law_word (hr.mono (by decide)) pass0 rfl (zaa (pv 4) (zaa (pv 5) zae))) zae))))))))
   (zag (zao (pv 2))))),?_⟩
  simp only [zdO]
  clear hr F T O__law_take O__law_word hu
  walk_at "rd"
  refine ⟨by decide,fun l hl=>⟨by omega,by omega,?_⟩⟩
  rw [Int.toNat_natCast]
  have npl:p≠l:=by obtain ⟨a,b,e⟩:=hp;exact zab e hl
  refine zbO (NInv p l m H)
   ⟨[],none,none,none,rfl,upd_same,But.new hl,by obtain ⟨a,b,e⟩:=hp;exact ⟨a,b,by rw [zac npl];exact e⟩,rfl,List.nodup_nil,by simp⟩ ?_ ?_
  ·rintro i σ H1 hi ⟨ws,o1,o2,o3,rfl,hl1,hb,hp1,hlen,nd,ok⟩
   clear q
   walk_at "rd"
   refine ⟨p,6,rfl,hp1,by decide,by decide,fun d a b h0 h1=>?_⟩
   obtain ⟨kk,hkk⟩:∃ kk:Nat,(kk:Int)=1 + d:=⟨(1 + d).toNat,by omega⟩
   clear hp1
   walk_at "rd"
   rw [← hkk]
   refine ⟨by decide,fun r hr=>?_⟩
   have npr:p≠r:=zab upd_same hr
   have nlr:l≠r:=zab (by rw [zac npl.symm];exact hl1) hr
   obtain ⟨B,hB,hB0,hB1⟩:∃ B:Int,atI [V.int 26,V.int 676,V.int 17576,V.int 456976,V.int 11881376,V.int 308915776] ((kk:Int) - 1)=some (.int B)/\0 < B/\B < 1073741824:=by
    have:kk=1∨kk=2∨kk=3∨kk=4∨kk=5∨kk=6:=by omega
    rcases this with rfl | rfl | rfl | rfl | rfl | rfl
    ·exact ⟨26,by decide,by decide,by decide⟩
    ·exact ⟨676,by decide,by decide,by decide⟩
    ·exact ⟨17576,by decide,by decide,by decide⟩
    ·exact ⟨456976,by decide,by decide,by decide⟩
    ·exact ⟨11881376,by decide,by decide,by decide⟩
    ·exact ⟨308915776,by decide,by decide,by decide⟩
   refine ⟨_,hB,p,B,rfl,⟨a,b,by rw [zac npr,upd_same]⟩,hB0,hB1,fun n a2 b2 hn0 hn1=>?_⟩
   have hl4:upd (upd (upd H1 p (.lst [.int a,.int b])) r (.lst [.int 26,.int 676,.int 17576,.int 456976,.int 11881376,.int 308915776])) p (.lst [.int a2,.int b2]) l=some (.lst (ws.map V.str)):=by
    rw [zac npl.symm,zac nlr,zac npl.symm];exact hl1
   have hb4:But p H (upd (upd (upd H1 p (.lst [.int a,.int b])) r (.lst [.int 26,.int 676,.int 17576,.int 456976,.int 11881376,.int 308915776])) p (.lst [.int a2,.int b2])) :=
    hb.trans (((But.upd p H1 _).trans (But.new hr)).trans (But.upd p _ _))
   have hp4:IsPot (upd (upd (upd H1 p (.lst [.int a,.int b])) r (.lst [.int 26,.int 676,.int 17576,.int 456976,.int 11881376,.int 308915776])) p (.lst [.int a2,.int b2])) p:=⟨a2,b2,upd_same⟩
   generalize upd (upd (upd H1 p (.lst [.int a,.int b])) r (.lst [.int 26,.int 676,.int 17576,.int 456976,.int 11881376,.int 308915776])) p (.lst [.int a2,.int b2])=H4 at hl4 hb4 hp4 ⊢
   clear hr npr nlr hB hB0 hB1 hl1 hb
   refine zon (fun σ' H'=>H'=H4/\∃ t:Nat,σ'=[some (.ref p),some (.int m),some (.ref l),some (.int (0 + i)),some (.int kk),some (.int (n + t))]/\∀ j:Nat,j < t->wordS kk (n + j) ∈ ws)
    (fun (σ':St) (_:Hp)=>match σ'[5]? with | some (some (V.int x))=>(n + 30 - x).toNat | _=>0) ⟨rfl,0,by simp,by simp⟩ ?_
   rintro σ' H' ⟨rfl,t,rfl,ht⟩
   have ht26:t<=26->t<=ws.length:=fun h=>zea (by omega) h ht
   have hty:=tyL (K:=K) hl4
   refine ⟨decide (wordS kk (n + t) ∈ ws),fun R hR=>?_,fun hb=>?_,fun hb=>?_⟩
   ·have hin:=zfS (x:=wordS kk (n + t)) ws
    refine ⟨_,rfl,_,rfl,kk,n + t,rfl,by omega,_,rfl,.inl ⟨.str _,ws.map D.str,rfl,.inl ⟨l,_,rfl,hl4,zes ws⟩,by rw [zfW];decide,_,rfl,?_⟩⟩
    show R (inD _ _) _
    rw [hin]
    exact hR
   ·have hmem:wordS kk (n + t) ∈ ws:=of_decide_eq_true hb
    have hall:∀ j:Nat,j < t + 1->wordS kk (n + j) ∈ ws:=fun j hj=>by
     by_cases e:j < t
     ·exact ht j e
     ·have:j=t:=by omega
      subst this;exact hmem
    have few:t < 26->t + 1<=ws.length:=fun h=>zea (by omega) (by omega) hall
    refine ⟨_,rfl,.inl ⟨_,rfl,⟨rfl,t + 1,?_,hall⟩,?_⟩⟩
    ·simp only [List.set_cons_zero,List.set_cons_succ]
     have:n + (t:Int) + 1=n + ((t + 1:Nat):Int):=by omega
     rw [this]
    ·have ht25:t < 26:=by
      by_cases e:t < 26
      ·exact e
      ·have:=zea (t:=16) (n:=n) (by omega:1<=kk) (by omega) fun j hj=>ht j (by omega)
       omega
     have:=few ht25
     show (n + 30 - (n + (t:Int) + 1)).toNat < (n + 30 - (n + (t:Int))).toNat
     omega
   ·have hnm:wordS kk (n + t) ∉ ws:=of_decide_eq_false hb
    refine ⟨_,rfl,hty,_,rfl,_,rfl,kk,n + t,rfl,by omega,l,_,_,rfl,rfl,hl4,Nat.lt_of_le_of_lt (m:=100) (by rw [List.length_map];omega) (by decide),?_⟩
    refine ⟨ws ++ [wordS kk (n + t)],_,_,_,rfl,?_,fun c o hc e=>?_,?_,by simp [hlen],zkr nd hnm,fun x hx=>?_⟩
    ·rw [upd_same,List.map_append];rfl
    ·have nlc:c≠l:=zab e hl
     rw [zac nlc]
     exact hb4 c o hc e
    ·obtain ⟨a3,b3,e3⟩:=hp4
     exact ⟨a3,b3,by rw [zac npl];exact e3⟩
    ·obtain h | h:=List.mem_append.mp hx
     ·exact ok x h
     ·rw [List.mem_singleton.mp h]
      exact zlr (by omega) (by omega)
  ·rintro σ H1 ⟨ws,o1,o2,o3,rfl,hl1,hb,hp1,hlen,nd,ok⟩
   exact ⟨_,rfl,q l ws H1 hl hl1 hb hp1 hlen nd ok⟩
end
end Lw
namespace Lw
open PySem L2
section
variable {P:Program}{w:World}{K:PySem.W.Frag}{mg:Str->Option Value}{base:Heap}
noncomputable def TupS (H H':Hp):Prop:=∀ b xs,H b=some (.tup xs)->H' b=some (.tup xs)
theorem TupS.trans {H H1 H2:Hp}(a:TupS H H1)(b:TupS H1 H2):TupS H H2:=fun c xs h=>b c xs (a c xs h)
theorem TupS.of {H H':Hp}(s:Same H H'):TupS H H':=fun b xs h=>s b _ h
theorem TupS.lst {H:Hp}{a:Addr}{ys:List V}{o:HO}(h:H a=some (.lst ys)):TupS H (upd H a o):=fun b xs e=>by rw [zac (fun z=>by rw [z,h] at e;cases e)];exact e
theorem zlk {p a:Addr}{H H':Hp}{o:HO}(h:But p H H')(n:H a=none):But p H (upd H' a o):=fun c u nc e=>by rw [zac (zab e n)];exact h c u nc e
theorem TupS.pot {H:Hp}{p:Addr}{o:HO}(h:IsPot H p):TupS H (upd H p o):=by obtain ⟨x,y,e⟩:=h;exact TupS.lst e
noncomputable def RowI (H:Hp):List (Str×Int)->List V->Prop
 | [],vs=>vs=[]
 | r :: l,vs=>∃ t us,vs = .ref t :: us/\H t=some (.tup [.str r.1,.int r.2])/\RowI H l us
noncomputable def RowS (H:Hp):List (Str×Str)->List V->Prop
 | [],vs=>vs=[]
 | r :: l,vs=>∃ t us,vs = .ref t :: us/\H t=some (.tup [.str r.1,.str r.2])/\RowS H l us
theorem RowI.same {H H':Hp}(s:TupS H H'):∀ {l:List (Str×Int)} {vs:List V},RowI H l vs->RowI H' l vs
 | [],_,h=>h
 | _ :: _,_,⟨t,us,e,h,q⟩=>⟨t,us,e,s _ _ h,RowI.same s q⟩
theorem RowS.same {H H':Hp}(s:TupS H H'):∀ {l:List (Str×Str)} {vs:List V},RowS H l vs->RowS H' l vs
 | [],_,h=>h
 | _ :: _,_,⟨t,us,e,h,q⟩=>⟨t,us,e,s _ _ h,RowS.same s q⟩
theorem RowI.snoc {H:Hp}{n:Str}{k:Int}{t:Addr}(ht:H t=some (.tup [.str n,.int k])):∀ {l:List (Str×Int)} {vs:List V},RowI H l vs->RowI H (l ++ [(n,k)]) (vs ++ [.ref t])
 | [],_,h=>by cases h;exact ⟨t,[],rfl,ht,rfl⟩
 | _ :: _,_,⟨u,us,e,h,q⟩=>by subst e;exact ⟨u,us ++ [.ref t],rfl,h,RowI.snoc ht q⟩
theorem RowS.snoc {H:Hp}{n k:Str}{t:Addr}(ht:H t=some (.tup [.str n,.str k])):∀ {l:List (Str×Str)} {vs:List V},RowS H l vs->RowS H (l ++ [(n,k)]) (vs ++ [.ref t])
 | [],_,h=>by cases h;exact ⟨t,[],rfl,ht,rfl⟩
 | _ :: _,_,⟨u,us,e,h,q⟩=>by subst e;exact ⟨u,us ++ [.ref t],rfl,h,RowS.snoc ht q⟩
theorem RowI.len {H:Hp}:∀ {l:List (Str×Int)} {vs:List V},RowI H l vs->vs.length=l.length
 | [],_,h=>by cases h;rfl
 | _ :: _,_,⟨t,us,e,h,q⟩=>by subst e;simp [RowI.len q]
theorem RowI.get {H:Hp}:∀ {l:List (Str×Int)} {vs:List V} {i:Nat} {v:V},RowI H l vs->vs[i]?=some v->∃ r t,l[i]?=some r/\v = .ref t/\H t=some (.tup [.str r.1,.int r.2])
 | [],_,_,_,h,e=>by cases h;simp at e
 | r :: _,_,0,_,⟨t,us,e,h,q⟩,k=>by subst e;simp at k;exact ⟨r,t,rfl,k.symm,h⟩
 | _ :: _,_,i + 1,_,⟨t,us,e,h,q⟩,k=>by subst e;simp at k;obtain ⟨r,t,h1,h2,h3⟩:=RowI.get q k;exact ⟨r,t,by simpa using h1,h2,h3⟩
noncomputable def zeros (fx:List (Str×Int)):List Str:=(fx.filter fun r=>decide (r.2=0)).map (·.1)
structure SignsOk (fx:List (Str×Int))(sm:List (Str×Str)):Prop where
 f1:1<=fx.length
 f2:fx.length<=12
 s2:sm.length<=3
 nm:∀ x ∈ fx.map (·.1) ++ sm.map (·.1),zcR x
 nd:(fx.map (·.1) ++ sm.map (·.1)).Nodup
 parts:∀ r ∈ fx,0<=r.2/\r.2<=3
 bare:∃ r ∈ fx,r.2=0
 nought:∀ r ∈ sm,r.2≠("" : Str)->r.2 ∈ zeros fx
 once:((sm.map (·.2)).filter fun (x:Str)=>decide (x≠("" : Str))).Nodup
theorem zcc (fx:List (Str×Int))(r:Str×Int):zeros (fx ++ [r])=zeros fx ++ (if r.2=0 then [r.1] else []):=by
 unfold zeros
 rw [List.filter_append,List.map_append]
 congr 1
 by_cases z:r.2=0 <;> simp [z]
theorem zbP (fx:List (Str×Int)):(zeros fx).Sublist (fx.map (·.1)):=List.Sublist.map _ List.filter_sublist
theorem zar {α:Type}{xs:List α}{i:Nat}{x:α}(h:xs[i]?=some x):xs.take (i + 1)=xs.take i ++ [x]:=by rw [List.take_succ,h];rfl
theorem zmw (xs:List V)(n:Nat):cutV xs (some (n:Int)) none=xs.drop n:=by
 unfold cutV
 rw [HT.sIx_nat,HT.sIx_none,← List.length_drop]
 rcases Nat.le_total n xs.length with h | h
 ·rw [Nat.min_eq_left h,List.take_length]
 ·rw [Nat.min_eq_right h,List.drop_eq_nil_of_le h,List.drop_eq_nil_of_le (Nat.le_refl _)];rfl
theorem zgB {α β:Type}(f:α->β):∀ (l:List α) (k:Nat),(l.map f).eraseIdx k=(l.eraseIdx k).map f
 | [],_=>rfl
 | _ :: _,0=>rfl
 | a :: l,k + 1=>by show f a :: (l.map f).eraseIdx k=f a :: (l.eraseIdx k).map f;rw [zgB f l k]
theorem zgA {α:Type}{l:List α}{k:Nat}{x:α}(h:x ∈ l.eraseIdx k):x ∈ l:=List.eraseIdx_subset h
theorem zdn {α:Type}:∀ {l:List α} {k:Nat} {x:α},l.Nodup->l[k]?=some x->x ∉ l.eraseIdx k
 | [],_,_,_,z=>by simp at z
 | a :: l,0,x,n,h=>by simp at h;subst h;exact (List.nodup_cons.mp n).1
 | a :: l,k + 1,x,n,h=>by
  simp at h
  intro m
  obtain e | e:=List.mem_cons.mp m
  ·subst e;exact (List.nodup_cons.mp n).1 (List.mem_of_getElem? h)
  ·exact zdn (List.nodup_cons.mp n).2 h e
structure NS (fx:List (Str×Int))(ns:List Str)(sm:List (Str×Str))(lz:List Str):Prop where
 names:sm.map (·.1)=ns
 lzl:lz.length<=(zeros fx).length
 lzn:lz.Nodup
 lz1:∀ x ∈ lz,x ∈ zeros fx
 no:∀ r ∈ sm,r.2≠("" : Str)->r.2 ∈ zeros fx/\r.2 ∉ lz
 once:((sm.map (·.2)).filter fun (x:Str)=>decide (x≠("" : Str))).Nodup
theorem NS.none {fx:List (Str×Int)}{ns:List Str}{sm:List (Str×Str)}{lz:List Str}(h:NS fx ns sm lz)(n:Str):NS fx (ns ++ [n]) (sm ++ [(n,("" : Str))]) lz:=by
 refine ⟨by rw [List.map_append,h.names];rfl,h.lzl,h.lzn,h.lz1,fun r hr ne=>?_,?_⟩
 ·obtain m | m:=List.mem_append.mp hr
  ·exact h.no r m ne
  ·rw [List.mem_singleton.mp m] at ne;exact absurd rfl ne
 ·rw [List.map_append,List.filter_append]
  have e:(List.filter (fun (x:Str)=>decide (x≠("" : Str))) (List.map (fun r:Str×Str=>r.2) [(n,("" : Str))]))=[]:=by simp
  rw [e,List.append_nil]
  exact h.once
theorem NS.pop {fx:List (Str×Int)}{ns:List Str}{sm:List (Str×Str)}{lz:List Str}(h:NS fx ns sm lz)(n:Str){k:Nat}{y:Str}(hk:lz[k]?=some y):NS fx (ns ++ [n]) (sm ++ [(n,y)]) (lz.eraseIdx k):=by
 have hy:=List.mem_of_getElem? hk
 refine ⟨by rw [List.map_append,h.names];rfl,Nat.le_trans (List.eraseIdx_sublist _ _).length_le h.lzl,h.lzn.sublist (List.eraseIdx_sublist _ _),fun x hx=>h.lz1 x (zgA hx),fun r hr ne=>?_,?_⟩
 ·obtain m | m:=List.mem_append.mp hr
  ·exact ⟨(h.no r m ne).1,fun z=>(h.no r m ne).2 (zgA z)⟩
  ·rw [List.mem_singleton.mp m];exact ⟨h.lz1 y hy,zdn h.lzn hk⟩
 ·rw [List.map_append,List.filter_append]
  refine List.nodup_append.mpr ⟨h.once,?_,?_⟩
  ·by_cases z:y=("" : Str) <;> simp [z]
  ·intro a ha b hb e
   subst e
   obtain ⟨m1,m2⟩:=List.mem_filter.mp ha
   obtain ⟨r,hr,er⟩:=List.mem_map.mp m1
   have ny:a=y:=by
    obtain ⟨m3,_⟩:=List.mem_filter.mp hb
    simpa using m3
   have ne:r.2≠("" : Str):=by rw [er];simpa using m2
   exact (h.no r hr ne).2 (by rw [er,ny];exact hy)
structure Dst (p fl lf tl sl:Addr)(H:Hp):Prop where
 fp:fl≠p
 lp:lf≠p
 tp:tl≠p
 sp:sl≠p
 lf1:lf≠fl
 ls:lf≠sl
 lt:lf≠tl
 tf:tl≠fl
 ts:tl≠sl
 nl:H lf=none
 nt:H tl=none
structure HS (p fl lf tl sl:Addr)(H:Hp)(fx:List (Str×Int))(acc zl:List V)(lv:List V)(sm:List (Str×Str))(sv:List V)(H':Hp):Prop where
 b:But p H H'
 pot:IsPot H' p
 f:H' fl=some (.lst acc)
 r:RowI H' fx acc
 l:H' lf=some (.lst lv)
 t:H' tl=some (.lst sv)
 s:RowS H' sm sv
 z:H' sl=some (.lst zl)
section
variable {p fl lf tl sl:Addr}{H H':Hp}{fx:List (Str×Int)}{acc zl lv sv:List V}{sm:List (Str×Str)}
theorem HS.new (h:HS p fl lf tl sl H fx acc zl lv sm sv H'){q:Addr}{o:HO}(hq:H' q=none):HS p fl lf tl sl H fx acc zl lv sm sv (upd H' q o) :=
 ⟨h.b.trans (But.new hq),h.pot.but (h.pot.ne hq),by rw [zac (zab h.f hq)];exact h.f,h.r.same (TupS.of (Same.upd hq)),by rw [zac (zab h.l hq)];exact h.l,by rw [zac (zab h.t hq)];exact h.t,h.s.same (TupS.of (Same.upd hq)),by rw [zac (zab h.z hq)];exact h.z⟩
theorem HS.take (h:HS p fl lf tl sl H fx acc zl lv sm sv H')(d:Dst p fl lf tl sl H)(x y:Int):HS p fl lf tl sl H fx acc zl lv sm sv (upd H' p (.lst [.int x,.int y])) :=
 ⟨h.b.trans (But.upd _ _ _),⟨_,_,upd_same⟩,by rw [zac d.fp];exact h.f,h.r.same (TupS.pot h.pot),by rw [zac d.lp];exact h.l,by rw [zac d.tp];exact h.t,h.s.same (TupS.pot h.pot),by rw [zac d.sp];exact h.z⟩
theorem HS.left (h:HS p fl lf tl sl H fx acc zl lv sm sv H')(d:Dst p fl lf tl sl H)(lv':List V):HS p fl lf tl sl H fx acc zl lv' sm sv (upd H' lf (.lst lv')) :=
 ⟨zlk h.b d.nl,h.pot.but d.lp.symm,by rw [zac d.lf1.symm];exact h.f,h.r.same (TupS.lst h.l),upd_same,by rw [zac d.lt.symm];exact h.t,h.s.same (TupS.lst h.l),by rw [zac d.ls.symm];exact h.z⟩
theorem HS.told (h:HS p fl lf tl sl H fx acc zl lv sm sv H')(d:Dst p fl lf tl sl H){sm':List (Str×Str)}{sv':List V}(hs:RowS H' sm' sv'):HS p fl lf tl sl H fx acc zl lv sm' sv' (upd H' tl (.lst sv')) :=
 ⟨zlk h.b d.nt,h.pot.but d.tp.symm,by rw [zac d.tf.symm];exact h.f,h.r.same (TupS.lst h.t),by rw [zac d.lt];exact h.l,upd_same,hs.same (TupS.lst h.t),by rw [zac d.ts.symm];exact h.z⟩
end
noncomputable def LI (fx:List (Str×Int))(H0:Hp)(i:Nat)(acc:List V)(σ:St)(H1:Hp):Prop:=∃ o1 o2:Option V,σ=[o1,o2]/\H1=H0/\acc=(zeros (fx.take i)).map V.str
noncomputable def SI (p fl lf tl sl l:Addr)(many sums sure:Nat)(ws:List Str)(fx:List (Str×Int))(acc zl:List V)(H:Hp)(i:Nat)(σ:St)(H':Hp):Prop :=
 ∃ (o8 o9:Option V) (sm:List (Str×Str)) (lz:List Str) (sv:List V),σ=[some (.ref p),some (.int many),some (.int sums),some (.ref l),some (.int sure),some (.ref fl),some (.ref lf),some (.ref tl),o8,o9]/\HS p fl lf tl sl H fx acc zl (lz.map V.str) sm sv H'/\NS fx ((ws.drop many).take i) sm lz/\sv.length=i
theorem zh8 (H:Hp):∀ lz:List Str,Reps H (lz.map D.str) (lz.map V.str)
 | []=>rfl
 | _ :: l=>⟨_,_,rfl,rfl,zh8 H l⟩
theorem zgS:∀ lz:List Str,depDs (lz.map D.str)=0
 | []=>rfl
 | _ :: l=>by rw [List.map_cons,depDs,zgS l];rfl
theorem zed {p fl lf tl sl:Addr}{H H':Hp}{fx:List (Str×Int)}{acc zl lv sv:List V}{sm:List (Str×Str)}{K0:PySem.W.Frag}{D:Ends}{σ:St}{n y:Str}(d:Dst p fl lf tl sl H)(e7:σ[7]?=some (some (.ref tl)))(e8:σ[8]?=some (some (.str n)))(e9:σ[9]?=some (some (.str y)))
  (h:HS p fl lf tl sl H fx acc zl lv sm sv H') (hl:sv.length < 20) (hn:∀ t H'',HS p fl lf tl sl H fx acc zl lv (sm ++ [(n,y)]) (sv ++ [.ref t]) H''->D.nx σ H''):tDrop (tBM K0 "list" rAppend (tVar 7) (tCons (tTup (tCons (tVar 8) (tCons (tVar 9) tNil))) tNil)) D σ H':=by
 refine ⟨_,e7,.inl ⟨rfl,_,SqL.of h.t⟩,_,e8,_,e9,(by show 2<=sizeLine;decide),fun t ht=>⟨tl,sv,.ref t,rfl,rfl,(h.new ht).t,Nat.lt_of_lt_of_le hl (by decide),?_⟩⟩
 exact hn t _ ((h.new ht).told d ((h.new ht).s.snoc upd_same))
noncomputable def FI (p l:Addr)(ws:List Str)(sure:Nat)(H0:Hp)(i:Nat)(acc:List V)(σ:St)(H1:Hp):Prop :=
 ∃ (fx:List (Str×Int)) (o:Option V),σ=[o,some (.ref p),some (.ref l),some (.int sure)]/\But p H0 H1/\IsPot H1 p/\fx.map (·.1)=ws.take i/\(∀ r ∈ fx,0<=r.2/\r.2<=3)/\(sure < i->∃ r ∈ fx,r.2=0)/\RowI H1 fx acc
noncomputable def zhm:Sp:=fun vs H Q _=>∃ p:Addr,vs=[.ref p]/\IsPot H p/\∀ (t a b:Addr) (fx:List (Str×Int)) (sm:List (Str×Str)) (fv sv:List V) (H':Hp),But p H H'->IsPot H' p->H' t=some (.tup [.ref a,.ref b])->H' a=some (.lst fv)->H' b=some (.lst sv)->RowI H' fx fv->RowS H' sm sv->SignsOk fx sm->a≠p->b≠p->Q (.ref t) H'
theorem zlY {f:Addr}{fd:FuncData}(F:Fun K "_law_signs" "_law_signs" zaK f fd)(T:Txt mg)(O__law_take:Own P w K mg base CX0 1 "_law_take" zcw)(O__law_names:Own P w K mg base CX0 2 "_law_names" zhr):FnOk P w K mg base CX0 3 f fd zcM zhm:=by
 refine F.ok zav (fun vs H Q E h=>?_) (fun cdv A outer s H vs Q E hr h=>?_)
 ·obtain ⟨p,rfl,_⟩:=h
  rfl
 ·obtain ⟨p,rfl,hp,q⟩:=h
  have hu:=hr.units
  refine ⟨_,(zaf (zap (i:=1) zav.nd rfl (Or.inl rfl) (zaQ zaG zah (zan O__law_take (hr.mono (by decide)) pass0 rfl (zaa (pv 0) (zaa zah zae)))))
   (zaf (zap (i:=2) zav.nd rfl (Or.inl rfl) (zan O__law_take (hr.mono (by decide)) pass0 rfl (zaa (pv 0) (zaa zah zae))))
   (zaf (zap (i:=3) zav.nd rfl (Or.inr rfl) (zan O__law_names (hr.mono (by decide)) pass0 rfl (zaa (pv 0) (zaa (zaQ zaG (pv 1) (pv 2)) zae))))
   (zaf (zap (i:=4) zav.nd rfl (Or.inr rfl) (zan O__law_take (hr.mono (by decide)) pass0 rfl (zaa (pv 0) (zaa (pv 1) zae))))
   (zaf (zc5 (i:=5) zav.nd rfl rfl rfl rfl (CompSc.by (N:=zb6) (names:=(zad zaK).names) (N':=["_law_k","_law_pot_here","_law_names_here","_law_sure"]) (src:=[none,some 0,some 3,some 4]) (by decide +kernel) rfl rfl) (zbU rfl T.n_range (zaa (pv 1) zae)) (fun _ _ _ _=>(zaC (i:=0) (show List.Nodup (["_law_k","_law_pot_here","_law_names_here","_law_sure"]:List Str) by decide +kernel) rfl (Or.inl rfl))) (fun _ _ _ _=>zbx) (fun _ _ _ _=>(zce (zaa (zbg ix_F (pv 2) (pv 0) (fun _ _=>rfl)) (zaa (zaQ (ze6.or ze5) (zan O__law_take (hr.mono (by decide)) pass0 rfl (zaa (pv 1) (zaa zah zae))) (zaU zg3 rfl T.n_int rfl (zaa (zbW (zdL hu) (pv 0) (pv 3) (nomark _)) zae))) zae)))))
   (zaf (zc5 (i:=6) zav.nd rfl rfl rfl rfl (CompSc.by (N:=zb6) (names:=(zad zaK).names) (N':=["_law_name","_law_parts"]) (src:=[none,none]) (by decide +kernel) rfl rfl) (zbi K rfl (pv 5)) (fun _ _ _ _=>(zbq K rfl (i:=0) (j:=1) rfl (show List.Nodup (["_law_name","_law_parts"]:List Str) by decide +kernel) rfl rfl rfl rfl)) (fun _ _ _ _=>(zeu (zas (zbr hu) (pv 1) zah (nomark _)))) (fun _ _ _ _=>(pv 0)))
   (zaf (zap (i:=7) zav.nd rfl (Or.inl rfl) (zaX zae))
   (zaf (zb2 PassesOwn.never rfl (zbi K rfl (zcn ze2 (pv 3) (zbH (pv 1)) zbT)) (zaC (i:=8) zav.nd rfl (Or.inl rfl)) (zaf (zap (i:=9) zav.nd rfl (Or.inl rfl) zbf)
   (zaf (zaT (PW.pt (zjZ (zas (zdL hu) (pv 6) (zaX zae) (nomark _)) (zhx (zas zlU (zan O__law_take (hr.mono (by decide)) pass0 rfl (zaa (pv 0) (zaa zah zae))) zah (nomark _))))) (zag (zap (i:=9) zav.nd rfl (Or.inl rfl) (zcB PySem.F.plainAttrs_list PySem.F.slot_list_pop PySem.F.type_list_pop zl9 (pv 6) (zaa (zan O__law_take (hr.mono (by decide)) pass0 rfl (zaa (pv 0) (zaa (zaj zaM rfl T.n_len rfl (zaa (pv 6) zae)) zae))) zae)))) zaq)
   (zag (zaP (zcB PySem.F.plainAttrs_list PySem.F.slot_list_append PySem.F.type_list_append zbj (pv 7) (zaa (zce (zaa (pv 8) (zaa (pv 9) zae))) zae)))))))
   (zag (zao (zce (zaa (pv 5) (zaa (pv 7) zae))))))))))))),?_⟩
  simp only [zb6]
  clear hr F T O__law_take O__law_names hu
  have hq:=q
  clear q
  walk_at "rd"
  refine ⟨p,12,rfl,hp,by decide,by decide,fun d a b h0 h1=>?_⟩
  walk_at "rd"
  obtain ⟨many,hm1,hm2,hmd⟩:∃ many:Nat,1<=many/\many<=12/\1 + d=(many:Int):=⟨(1 + d).toNat,by omega,by omega,by omega⟩
  rw [hmd]
  clear hmd h0 h1 d
  refine ⟨p,4,rfl,⟨_,_,upd_same⟩,by decide,by decide,fun d2 a b h2 h3=>?_⟩
  obtain ⟨sums,rfl⟩:∃ k:Nat,d2=(k:Int):=⟨d2.toNat,by omega⟩
  have hs4:sums < 4:=by omega
  clear h2 h3
  rw [upd_upd]
  have em:(many:Int) + (sums:Int)=((many + sums:Nat):Int):=by omega
  dsimp only
  refine ⟨_,rfl,?_⟩
  rw [em]
  refine ⟨p,many + sums,rfl,⟨_,_,upd_same⟩,by omega,fun l ws H1 hl hl1 hb1 hp1 hlen nd ok=>?_⟩
  have hlp:l≠p:=fun z=>by rw [z,upd_same] at hl;cases hl
  dsimp only
  refine ⟨p,many,rfl,hp1,by omega,by omega,fun d3 x3 y3 h4 h5=>?_⟩
  obtain ⟨sure,rfl⟩:∃ k:Nat,d3=(k:Int):=⟨d3.toNat,by omega⟩
  have hsm:sure < many:=by omega
  have b2:But p H (upd H1 p (.lst [.int x3,.int y3])):=((But.upd p H _).trans hb1).trans (But.upd p H1 _)
  have p2:IsPot (upd H1 p (.lst [.int x3,.int y3])) p:=⟨_,_,upd_same⟩
  have l2:upd H1 p (.lst [.int x3,.int y3]) l=some (.lst (ws.map V.str)):=by rw [zac hlp];exact hl1
  generalize upd H1 p (.lst [.int x3,.int y3])=H2 at b2 p2 l2 ⊢
  clear hl hl1 hb1 hp1 h4 h5 em hp
  refine ⟨by omega,by omega,?_⟩
  rw [Int.toNat_natCast]
  refine zhS (FI p l ws sure H2) ⟨[],none,rfl,But.refl _ _,p2,rfl,by simp,fun z=>absurd z (Nat.not_lt_zero _),rfl⟩ ?_ ?_
  ·rintro i acc σ H3 hi ⟨fx,o,rfl,b3,p3,hfx,hpt,hsu,hrow⟩
   have l3:=b3 l _ hlp l2
   obtain ⟨wd,hwd⟩:∃ wd,ws[i]?=some wd:=⟨ws[i],List.getElem?_eq_getElem (by omega)⟩
   have e1:atI (ws.map V.str) (i:Int)=some (.str wd):=zog (by rw [List.getElem?_map,hwd];rfl)
   refine ⟨_,rfl,_,rfl,_,(by rw [ixV_l l3,Int.zero_add];exact e1),_,rfl,p,4,rfl,p3,by decide,by decide,fun d x4 y4 d0 d1=>?_⟩
   have ek:(if (!eqD (.int (0 + (i:Int))) (.int (sure:Int)))=true then (1:Int) else 0)=if i=sure then 0 else 1:=by
    by_cases z:i=sure
    ·subst z
     rw [Int.zero_add,zb5,if_pos rfl];rfl
    ·have e:eqD (.int (0 + (i:Int))) (.int (sure:Int))=false:=by
      show ((0 + (i:Int)) == (sure:Int))=false
      rw [Int.zero_add]
      exact beq_eq_false_iff_ne.mpr (by omega)
     rw [e,if_neg z];rfl
   refine ⟨_,rfl,_,rfl,.int _,.int _,rfl,rfl,Nat.zero_le _,_,_,rfl,rfl,.inl ⟨d,rfl,_,rfl,.inr (by rw [ek];split <;> constructor <;> omega),?_⟩⟩
   rw [ek]
   refine ⟨(by show 2<=sizeLine;decide),fun t ht=>⟨Nat.lt_of_le_of_lt (m:=20) ?_ (by decide),?_⟩⟩
   ·rw [hrow.len]
    have:=congrArg List.length hfx
    rw [List.length_map,List.length_take] at this
    omega
   have p4:IsPot (upd H3 p (.lst [.int x4,.int y4])) p:=⟨_,_,upd_same⟩
   have hv:0<=d * (if i=sure then 0 else 1)/\d * (if i=sure then 0 else 1)<=3:=by split <;> constructor <;> omega
   have row4:RowI (upd (upd H3 p (.lst [.int x4,.int y4])) t (.tup [.str wd,.int (d * (if i=sure then 0 else 1))])) fx acc:=(hrow.same (TupS.pot p3)).same (TupS.of (Same.upd ht))
   refine ⟨fx ++ [(wd,d * (if i=sure then 0 else 1))],_,rfl,(b3.trans (But.upd p _ _)).trans (But.new ht),p4.but (p4.ne ht),?_,fun r hr=>?_,fun hlt=>?_,row4.snoc upd_same⟩
   ·rw [List.map_append,hfx,List.take_succ,hwd];rfl
   ·obtain h | h:=List.mem_append.mp hr
    ·exact hpt r h
    ·rw [List.mem_singleton.mp h];exact hv
   ·by_cases z:i=sure
    ·exact ⟨_,List.mem_append_right _ List.mem_cons_self,by show d * (if i=sure then 0 else 1)=0;rw [if_pos z];omega⟩
    ·obtain ⟨r,h1,h2⟩:=hsu (by omega)
     exact ⟨r,List.mem_append_left _ h1,h2⟩
  ·rintro acc σ H3 ⟨fx,o,rfl,b3,p3,hfx,hpt,hsu,hrow⟩ fl hfl
   have l3:=b3 l _ hlp l2
   have f4:upd H3 fl (.lst acc) fl=some (.lst acc):=upd_same
   have b4:But p H (upd H3 fl (.lst acc)):=(b2.trans b3).trans (But.new hfl)
   have p4:=p3.but (o:=.lst acc) (p3.ne hfl)
   have l4:upd H3 fl (.lst acc) l=some (.lst (ws.map V.str)):=by rw [zac (zab l3 hfl)];exact l3
   have row4:RowI (upd H3 fl (.lst acc)) fx acc:=hrow.same (TupS.of (Same.upd hfl))
   have nfp:fl≠p:=(p3.ne hfl).symm
   generalize upd H3 fl (.lst acc)=H4 at f4 b4 p4 l4 row4 ⊢
   obtain ⟨r0,hr0,hz0⟩:=hsu hsm
   clear hrow hfl l3 p3 b3 b2 p2 l2 hsu
   refine ⟨fl,rfl,_,.inl f4,fun J hJ=>?_⟩
   have hfn:(fx.map (·.1)).Nodup:=by rw [hfx];exact nd.sublist (List.take_sublist _ _)
   have hzl:(zeros fx).length<=12:=by
    have h1:=(zbP fx).length_le
    rw [hfx,List.length_take] at h1
    omega
   refine za2 hJ (LI fx H4) ⟨none,none,rfl,rfl,rfl⟩ (by rintro i acc' σ H' _ ⟨_,_,_,rfl,_⟩;rfl) ?_ ?_
   ·rintro i x acc' σ H' hx ⟨o1,o2,rfl,rfl,rfl⟩
    obtain ⟨r,t,hr,rfl,ht⟩:=row4.get hx
    refine ⟨t,_,rfl,SqT.of ht,rfl,_,_,rfl,_,_,rfl,rfl,_,rfl,?_⟩
    dsimp only [tC]
    rw [rEqD_ii]
    refine ⟨_,rfl,?_⟩
    by_cases z:r.2=0
    ·rw [if_pos (by simpa using z)]
     refine ⟨_,rfl,?_,?_⟩
     ·rw [List.length_map]
      have h1:=(zbP (fx.take i)).length_le
      have h2:(fx.take i).length<=12:=by
       have h3:=congrArg List.length hfx
       rw [List.length_map,List.length_take] at h3
       rw [List.length_take];omega
      rw [List.length_map] at h1
      exact Nat.lt_of_le_of_lt (m:=12) (by omega) (by decide)
     ·exact ⟨_,_,rfl,rfl,by rw [zar hr,zcc,if_pos z,List.map_append];rfl⟩
    ·rw [if_neg (by simpa using z)]
     exact ⟨_,_,rfl,rfl,by rw [zar hr,zcc,if_neg z,List.append_nil]⟩
   ·rintro acc' σ H' ⟨o1,o2,rfl,rfl,rfl⟩ lf hlf
    rw [List.take_of_length_le (by rw [row4.len];exact Nat.le_refl _)]
    refine ⟨Nat.zero_le _,fun tl htl=>⟨l,rfl,ws.map V.str,.inl ?_,?_,fun sl o hsl ho=>?_⟩⟩
    ·rw [zac,zac (zab l4 hlf)]
     ·exact l4
     ·intro e;subst e;rw [zac (zab l4 hlf),l4] at htl;cases htl
    ·rintro ⟨ys,hy⟩
     rw [zac,zac (zab l4 hlf),l4] at hy
     ·cases hy
     ·intro e;subst e;rw [zac (zab l4 hlf),l4] at htl;cases htl
    ·have l5:upd H' lf (HO.lst (List.map V.str (zeros fx))) l=some (.lst (ws.map V.str)):=by rw [zac (zab l4 hlf)];exact l4
     have l6:upd (upd H' lf (HO.lst (List.map V.str (zeros fx)))) tl (.lst []) l=some (.lst (ws.map V.str)):=by rw [zac (zab l5 htl)];exact l5
     have eo:o = .lst ((ws.drop many).map V.str):=by
      rcases ho with ⟨e,_⟩ | ⟨_,e⟩
      ·rw [e,zmw,List.map_drop]
      ·rw [l6] at e;cases e
     subst eo
     clear ho
     have htf:tl≠lf:=fun e=>by subst e;rw [upd_same] at htl;cases htl
     have htl':H' tl=none:=by rw [zac htf] at htl;exact htl
     have hst:sl≠tl:=fun e=>by subst e;rw [upd_same] at hsl;cases hsl
     have hsf:sl≠lf:=fun e=>by subst e;rw [zac hst,upd_same] at hsl;cases hsl
     have hsl':H' sl=none:=by rw [zac hst,zac hsf] at hsl;exact hsl
     have nn:∀ a,H' a=none->H a=none:=fun a ha=>by
      cases e:H a with
      | none=>rfl
      | some o=>have z:=b4 a o (p4.ne ha).symm e;rw [ha] at z;cases z
     have dst:Dst p fl lf tl sl H:=⟨nfp,(p4.ne hlf).symm,(p4.ne htl').symm,(p4.ne hsl').symm,(zab f4 hlf).symm,hsf.symm,htf.symm,(zab f4 htl').symm,hst.symm,nn _ hlf,nn _ htl'⟩
     have h0:HS p fl lf tl sl H fx acc ((ws.drop many).map V.str) ((zeros fx).map V.str) [] [] (upd (upd (upd H' lf (.lst ((zeros fx).map V.str))) tl (.lst [])) sl (.lst ((ws.drop many).map V.str))):=by
      have s1:Same H' (upd (upd (upd H' lf (.lst ((zeros fx).map V.str))) tl (.lst [])) sl (.lst ((ws.drop many).map V.str))):=((Same.upd hlf).trans (Same.upd htl)).trans (Same.upd hsl)
      obtain ⟨px,py,pe⟩:=p4
      exact ⟨b4.trans s1.but,⟨px,py,s1 _ _ pe⟩,s1 _ _ f4,row4.same (TupS.of s1),by rw [zac hsf.symm,zac htf.symm,upd_same],by rw [zac hst.symm,upd_same],rfl,upd_same⟩
     have n0:NS fx [] [] (zeros fx):=⟨rfl,Nat.le_refl _,hfn.sublist (zbP fx),fun _ h=>h,by simp,by simp⟩
     generalize upd (upd (upd H' lf (.lst ((zeros fx).map V.str))) tl (.lst [])) sl (.lst ((ws.drop many).map V.str))=H7 at h0 ⊢
     refine ⟨_,.inl h0.z,fun J2 hJ2=>?_⟩
     refine zdD hJ2 (SI p fl lf tl sl l many sums sure ws fx acc ((ws.drop many).map V.str) H) ⟨none,none,[],zeros fx,[],rfl,h0,n0,rfl⟩ (by rintro i σ H'' _ ⟨_,_,_,_,_,_,hh,_⟩;rw [hh.z,h0.z]) ?_ ?_
     ·rintro i x σ H8 hx ⟨o8,o9,sm,lz,sv,rfl,hh,ns,hsv⟩
      obtain ⟨n,hn,rfl⟩:∃ n,(ws.drop many)[i]?=some n/\x = .str n:=by
       rw [List.getElem?_map] at hx
       cases e:(ws.drop many)[i]? with
       | none=>rw [e] at hx;cases hx
       | some n=>rw [e] at hx;exact ⟨n,rfl,by cases hx;rfl⟩
      have hi:i < 4:=by
       have:=(List.getElem?_eq_some_iff.mp hn).1
       rw [List.length_drop] at this
       omega
      refine ⟨_,rfl,Nat.zero_le _,fun q hq2=>⟨.lst (lz.map D.str),.lst [],⟨lf,_,rfl,(hh.new hq2).l,zh8 _ _⟩,⟨q,[],rfl,upd_same,rfl⟩,by rw [depD,zgS];decide,_,rfl,?_⟩⟩
      have h9:=hh.new (o:=.lst []) hq2
      generalize upd H8 q (.lst [])=H9 at h9 ⊢
      cases lz with
      | nil =>
       dsimp only
       rw [if_neg (by decide),if_neg (by decide)]
       refine zed dst rfl rfl rfl h9 (by omega) fun t H'' h''=>?_
       exact ⟨_,_,_,_,_,rfl,h'',by rw [zar hn];exact ns.none n,by rw [List.length_append,hsv];rfl⟩
      | cons z lz =>
       dsimp only
       rw [if_pos (by rfl)]
       refine ⟨_,rfl,p,3,rfl,h9.pot,by decide,by decide,fun d1 x1 y1 d0 d1'=>⟨_,_,rfl,rfl,_,rfl,?_⟩⟩
       have h10:=h9.take dst x1 y1
       generalize upd H9 p (.lst [.int x1,.int y1])=H10 at h10 ⊢
       dsimp only
       by_cases hd:0 < d1
       ·rw [if_pos (by simpa using hd)]
        have hlz:(z :: lz).length<=12:=by
         have h1:=ns.lzl
         omega
        refine ⟨_,rfl,.inl ⟨rfl,_,SqL.of h10.l⟩,_,rfl,_,rfl,_,_,rfl,(by dsimp only;rw [lenV_l h10.l];rfl),p,_,rfl,h10.pot,?_,?_,fun d2 x2 y2 e0 e1=>?_⟩
        ·rw [List.length_map,List.length_cons];omega
        ·rw [List.length_map];omega
        ·have h11:=h10.take dst x2 y2
         generalize upd H10 p (.lst [.int x2,.int y2])=H11 at h11 ⊢
         rw [List.length_map] at e1
         obtain ⟨y,hy⟩:∃ y,(z :: lz)[d2.toNat]?=some y:=⟨_,List.getElem?_eq_getElem (by omega)⟩
         refine ⟨lf,_,d2,d2.toNat,.str y,rfl,rfl,h11.l,by omega,by omega,PySem.StrLaws.seqIndex_nonneg e0 (by rw [List.length_map];exact e1),by rw [List.getElem?_map,hy];rfl,?_⟩
         have h12:=h11.left dst (((z :: lz).eraseIdx d2.toNat).map V.str)
         rw [zgB]
         refine zed dst rfl rfl rfl h12 (by omega) fun t H'' h''=>?_
         exact ⟨_,_,_,_,_,rfl,h'',by rw [zar hn];exact ns.pop n hy,by rw [List.length_append,hsv];rfl⟩
       ·rw [if_neg (by simpa using hd)]
        refine zed dst rfl rfl rfl h10 (by omega) fun t H'' h''=>?_
        exact ⟨_,_,_,_,_,rfl,h'',by rw [zar hn];exact ns.none n,by rw [List.length_append,hsv];rfl⟩
     ·rintro σ H8 ⟨o8,o9,sm,lz,sv,rfl,hh,ns,hsv⟩
      refine ⟨_,rfl,_,rfl,(by show 2<=sizeLine;decide),fun t ht=>?_⟩
      have h9:=hh.new (o:=.tup [.ref fl,.ref tl]) ht
      refine hq t fl tl fx sm acc sv _ h9.b h9.pot upd_same h9.f h9.t h9.r h9.s ?_ dst.fp dst.tp
      have e1:=ns.names
      rw [List.length_map,List.take_length] at e1
      have e2:=congrArg List.length e1
      have e3:=congrArg List.length hfx
      rw [List.length_map,List.length_drop] at e2
      rw [List.length_map,List.length_take] at e3
      have e4:fx.map (·.1) ++ sm.map (·.1)=ws:=by rw [hfx,e1,List.take_append_drop]
      exact ⟨by omega,by omega,by omega,by rw [e4];exact ok,by rw [e4];exact nd,hpt,⟨r0,hr0,hz0⟩,fun r hr ne=>(ns.no r hr ne).1,ns.once⟩
end
end Lw
namespace Lw
open PySem L2
section
variable {P:Program}{w:World}{K:PySem.W.Frag}{mg:Str->Option Value}{base:Heap}
noncomputable def isWd (c:Nat):Prop:=(97<=c/\c<=122)∨(48<=c/\c<=57)
noncomputable def zaR (x:Str):Prop:=∃ l:List Nat,x=⟨(63 :: l).toArray⟩/\1<=l.length/\l.length<=8/\∀ c ∈ l,isWd c
noncomputable def wds:Str:=PySem.Str.ofString "abcdefghijklmnopqrstuvwxyz0123456789"
theorem zjt:wds.cps.toList.length=36:=by decide +kernel
theorem zm9:wds.cps.toList.all (fun c=>(decide (97<=c) && decide (c<=122)) || (decide (48<=c) && decide (c<=57)))=true:=by decide +kernel
theorem zoo {c:Nat}(h:c ∈ wds.cps.toList):isWd c:=by
 have:=List.all_eq_true.mp zm9 c h
 simpa [isWd] using this
theorem zpd {H:Hp}{i:Int}(h0:0<=i)(h1:i < 36):∃ c,isWd c/\ixV H (.str wds) (.int i)=some (.str ⟨#[c]⟩):=by
 have hl:i.toNat < wds.cps.toList.length:=by rw [zjt];omega
 refine ⟨wds.cps.toList[i.toNat],zoo (List.getElem_mem hl),?_⟩
 show (if wds.length<=sizeLine then (atI wds.cps.toList i).map fun c=>V.str ⟨#[c]⟩ else none)=_
 rw [if_pos (by decide +kernel),zeN h0 (by rw [zjt];exact h1),List.getElem?_eq_getElem hl]
 rfl
noncomputable def zht:Sp:=fun vs H Q _=>∃ p:Addr,vs=[.ref p]/\IsPot H p/\∀ (o:Addr) (os:List Str) (H':Hp),o≠p->But p H H'->IsPot H' p->H' o=some (.lst (os.map V.str))->os.length=5->(∀ x ∈ os,zaR x)->Q (.ref o) H'
noncomputable def DI (p l:Addr)(H:Hp)(i:Nat)(σ:St)(H1:Hp):Prop:=∃ (os:List Str) (o2 o3 o4:Option V),σ=[some (.ref p),some (.ref l),o2,o3,o4]/\H1 l=some (.lst (os.map V.str))/\But p H H1/\IsPot H1 p/\os.length=i/\∀ x ∈ os,zaR x
noncomputable def DJ (p l:Addr)(os:List Str)(i:Int)(H:Hp)(j:Nat)(σ:St)(H1:Hp):Prop:=∃ (cs:List Nat) (o4:Option V),σ=[some (.ref p),some (.ref l),some (.int i),some (.str ⟨(63 :: cs).toArray⟩),o4]/\H1 l=some (.lst (os.map V.str))/\But p H H1/\IsPot H1 p/\cs.length=j/\∀ c ∈ cs,isWd c
theorem zl6 {f:Addr}{fd:FuncData}(F:Fun K "_law_drawn" "_law_drawn" za9 f fd)(T:Txt mg)(O__law_take:Own P w K mg base CX0 1 "_law_take" zcw):FnOk P w K mg base CX0 2 f fd zcP zht:=by
 refine F.ok zbc (fun vs H Q E h=>?_) (fun cdv A outer s H vs Q E hr h=>?_)
 ·obtain ⟨p,rfl,_⟩:=h
  rfl
 ·obtain ⟨p,rfl,hp,q⟩:=h
  have hu:=hr.units
  refine ⟨_,(zaf (zap (i:=1) zbc.nd rfl (Or.inl rfl) (zaX zae))
   (zaf (zb2 PassesOwn.never rfl (zbU rfl T.n_range (zaa zah zae)) (zaC (i:=2) zbc.nd rfl (Or.inl rfl)) (zaf (zap (i:=3) zbc.nd rfl (Or.inl rfl) zbf)
   (zaf (zb2 PassesOwn.never rfl (zbU rfl T.n_range (zaa (zaQ zaG zah (zan O__law_take (hr.mono (by decide)) pass0 rfl (zaa (pv 0) (zaa (zbg ix_F (zaX (zaa zah (zaa zah (zaa zah zae)))) (zan O__law_take (hr.mono (by decide)) pass0 rfl (zaa (pv 0) (zaa zah zae))) (fun _ _=>rfl)) zae)))) zae)) (zaC (i:=4) zbc.nd rfl (Or.inl rfl)) (zag (zap (i:=3) zbc.nd rfl (Or.inl rfl) (zaQ zaG (pv 3) (zbg ix_F zbf (zan O__law_take (hr.mono (by decide)) pass0 rfl (zaa (pv 0) (zaa zah zae))) (fun _ _=>rfl))))))
   (zag (zaP (zcB PySem.F.plainAttrs_list PySem.F.slot_list_append PySem.F.type_list_append zbj (pv 1) (zaa (pv 3) zae)))))))
   (zag (zao (pv 1))))),?_⟩
  simp only [zdP]
  clear hr F T O__law_take hu
  walk_at "rd"
  refine ⟨by decide,fun l hl=>⟨by decide,by decide,?_⟩⟩
  have npl:p≠l:=hp.ne hl
  refine zbO (DI p l H) ⟨[],none,none,none,rfl,upd_same,But.new hl,hp.but npl,rfl,by simp⟩ ?_ ?_
  ·rintro i σ H1 hi ⟨os,o2,o3,o4,rfl,hl1,hb,hp1,hlen,ok⟩
   clear q hp
   have keep:=And.intro hl (And.intro hl1 (And.intro hb (And.intro hp1 (And.intro hlen ok))))
   clear hl hl1 hb hp1 hlen ok
   walk_at "rd"
   obtain ⟨hl,hl1,hb,hp1,hlen,ok⟩:=keep
   refine ⟨by decide,fun r hr=>⟨p,3,rfl,hp1.but (hp1.ne hr),by decide,by decide,fun d a b h0 h1=>?_⟩⟩
   have npr:p≠r:=hp1.ne hr
   have nlr:l≠r:=zab hl1 hr
   obtain ⟨B,hB,hB0,hB1⟩:∃ B:Int,atI [V.int 1,V.int 2,V.int 8] d=some (.int B)/\0 < B/\B<=8:=by
    have:d=0∨d=1∨d=2:=by omega
    rcases this with rfl | rfl | rfl
    ·exact ⟨1,by decide,by decide,by decide⟩
    ·exact ⟨2,by decide,by decide,by decide⟩
    ·exact ⟨8,by decide,by decide,by decide⟩
   dsimp only
   refine ⟨.int B,by rw [ixV_l (xs:=[.int 1,.int 2,.int 8]) (by rw [zac npr.symm,upd_same])];exact hB,p,B,rfl,⟨a,b,upd_same⟩,hB0,by omega,fun n a2 b2 n0 n1=>⟨.int (1 + n),rfl,1 + n,rfl,by omega,by omega,?_⟩⟩
   have hb2:But p H (upd (upd (upd H1 r (.lst [.int 1,.int 2,.int 8])) p (.lst [.int a,.int b])) p (.lst [.int a2,.int b2])):=((hb.trans (But.new hr)).trans (But.upd _ _ _)).trans (But.upd _ _ _)
   have hp2:IsPot (upd (upd (upd H1 r (.lst [.int 1,.int 2,.int 8])) p (.lst [.int a,.int b])) p (.lst [.int a2,.int b2])) p:=⟨_,_,upd_same⟩
   have hl2:upd (upd (upd H1 r (.lst [.int 1,.int 2,.int 8])) p (.lst [.int a,.int b])) p (.lst [.int a2,.int b2]) l=some (.lst (os.map V.str)):=by rw [zac npl.symm,zac npl.symm,zac nlr];exact hl1
   generalize upd (upd (upd H1 r (.lst [.int 1,.int 2,.int 8])) p (.lst [.int a,.int b])) p (.lst [.int a2,.int b2])=H2 at hb2 hp2 hl2 ⊢
   refine zbO (DJ p l os i H) ⟨[],o4,rfl,hl2,hb2,hp2,rfl,by simp⟩ ?_ ?_
   ·rintro j σ H3 hj ⟨cs,o4',rfl,hl3,hb3,hp3,hcs,hcw⟩
    refine ⟨_,rfl,_,rfl,p,36,rfl,hp3,by decide,by decide,fun d3 a3 b3 e0 e1=>?_⟩
    obtain ⟨c,hc,hx⟩:=zpd (H:=upd H3 p (.lst [.int a3,.int b3])) e0 e1
    refine ⟨_,hx,?_⟩
    refine .inl ⟨.str ⟨(63 :: (cs ++ [c])).toArray⟩,?_,?_⟩
    ·show (if (63 :: cs).toArray.size + 1<=sizeLine then some (V.str _) else none)=_
     rw [if_pos (Nat.le_trans (m:=100) (by simp;omega) (by decide))]
     exact congrArg some (congrArg V.str (congrArg Str.mk (by simp)))
    ·exact ⟨cs ++ [c],_,rfl,by rw [zac npl.symm];exact hl3,hb3.trans (But.upd _ _ _),⟨_,_,upd_same⟩,by rw [List.length_append,hcs];rfl,fun x hx=>(List.mem_append.mp hx).elim (hcw x) fun h=>by rw [List.mem_singleton.mp h];exact hc⟩
   ·rintro σ H3 ⟨cs,o4',rfl,hl3,hb3,hp3,hcs,hcw⟩
    refine ⟨_,rfl,tyL hl3,_,rfl,l,_,_,rfl,rfl,hl3,Nat.lt_of_le_of_lt (m:=10) (by rw [List.length_map];omega) (by decide),?_⟩
    refine ⟨os ++ [⟨(63 :: cs).toArray⟩],_,_,_,rfl,by rw [upd_same,List.map_append];rfl,?_,hp3.but npl,by rw [List.length_append,hlen];rfl,fun x hx=>(List.mem_append.mp hx).elim (ok x) fun h=>by rw [List.mem_singleton.mp h];exact ⟨cs,rfl,by omega,by omega,hcw⟩⟩
    intro c u hc e
    rw [zac (fun z=>?_)]
    ·exact hb3 c u hc e
    ·subst z;rw [hl] at e;cases e
  ·rintro σ H1 ⟨os,o2,o3,o4,rfl,hl1,hb,hp1,hlen,ok⟩
   exact ⟨_,rfl,q l os H1 npl.symm hb hp1 hl1 hlen ok⟩
end
end Lw
namespace Lw
open PySem L2
section
variable {P:Program}{w:World}{K:PySem.W.Frag}{mg:Str->Option Value}{base:Heap}
noncomputable def Told (p t:Addr)(fx:List (Str×Int))(sm:List (Str×Str))(H:Hp):Prop:=∃ (a b:Addr) (fv sv:List V),H t=some (.tup [.ref a,.ref b])/\H a=some (.lst fv)/\H b=some (.lst sv)/\RowI H fx fv/\RowS H sm sv/\a≠p/\b≠p
theorem TupS.ofBut {p:Addr}{H H':Hp}(h:But p H H')(hp:IsPot H p):TupS H H':=fun b xs e=>h b _ (fun z=>by obtain ⟨x,y,q⟩:=hp;rw [z,q] at e;cases e) e
theorem Told.but {p t:Addr}{fx:List (Str×Int)}{sm:List (Str×Str)}{H H':Hp}(h:Told p t fx sm H)(hb:But p H H')(hp:IsPot H p):Told p t fx sm H':=by
 obtain ⟨a,b,fv,sv,h1,h2,h3,h4,h5,h6,h7⟩:=h
 exact ⟨a,b,fv,sv,TupS.ofBut hb hp _ _ h1,hb _ _ h6 h2,hb _ _ h7 h3,h4.same (TupS.ofBut hb hp),h5.same (TupS.ofBut hb hp),h6,h7⟩
noncomputable def OwnL (p o:Addr)(os:List Str)(H:Hp):Prop:=H o=some (.lst (os.map V.str))/\o≠p
theorem OwnL.but {p o:Addr}{os:List Str}{H H':Hp}(h:OwnL p o os H)(hb:But p H H'):OwnL p o os H':=⟨hb _ _ h.2 h.1,h.2⟩
noncomputable def ze0:Sp:=fun vs H Q _=>∃ (p t o:Addr) (fx:List (Str×Int)) (sm:List (Str×Str)) (os:List Str),vs=[.ref p,.ref t,.ref o]/\IsPot H p/\Told p t fx sm H/\OwnL p o os H/\1<=os.length/\os.length<=10/\fx.length<=12/\(∃ r ∈ fx,r.2=0) /\
 ∀ (x:Str) (H':Hp),But p H H'->IsPot H' p->(x ∈ os∨x ∈ zeros fx)->Q (.str x) H'
theorem ziN {K0:PySem.W.Frag}{J:It}{a:Addr}{fx:List (Str×Int)}{fv:List V}{H4:Hp}{Qk:VK}(hJ:ItOf K0 a fv J H4)(row4:RowI H4 fx fv)(h12:fx.length<=12)(hd:∀ lf,H4 lf=none->Qk (.ref lf) (upd H4 lf (.lst ((zeros fx).map V.str)))) :
  CompB J (gTup K0 2 (gCons (gName 0) (gCons (gName 1) gNil))) (tTest (tOp rEqD (tVar 1) (tC (.int 0)))) (tVar 0) Qk [none,none] H4:=by
 refine za2 hJ (LI fx H4) ⟨none,none,rfl,rfl,rfl⟩ (by rintro i acc' σ H' _ ⟨_,_,_,rfl,_⟩;rfl) ?_ ?_
 ·rintro i x acc' σ H' hx ⟨o1,o2,rfl,rfl,rfl⟩
  obtain ⟨r,t,hr,rfl,ht⟩:=row4.get hx
  refine ⟨t,_,rfl,SqT.of ht,rfl,_,_,rfl,_,_,rfl,rfl,_,rfl,?_⟩
  dsimp only [tC]
  rw [rEqD_ii]
  refine ⟨_,rfl,?_⟩
  by_cases z:r.2=0
  ·rw [if_pos (by simpa using z)]
   refine ⟨_,rfl,?_,?_⟩
   ·rw [List.length_map]
    have h1:=(zbP (fx.take i)).length_le
    rw [List.length_map,List.length_take] at h1
    exact Nat.lt_of_le_of_lt (m:=12) (by omega) (by decide)
   ·exact ⟨_,_,rfl,rfl,by rw [zar hr,zcc,if_pos z,List.map_append];rfl⟩
  ·rw [if_neg (by simpa using z)]
   exact ⟨_,_,rfl,rfl,by rw [zar hr,zcc,if_neg z,List.append_nil]⟩
 ·rintro acc' σ H' ⟨o1,o2,rfl,rfl,rfl⟩ lf hlf
  rw [List.take_of_length_le (by rw [row4.len];exact Nat.le_refl _)]
  exact hd lf hlf
theorem znQ {f:Addr}{fd:FuncData}(F:Fun K "_law_leaf" "_law_leaf" za8 f fd)(T:Txt mg)(O__law_take:Own P w K mg base CX0 1 "_law_take" zcw):FnOk P w K mg base CX0 2 f fd zdd ze0:=by
 refine F.ok zcC (fun vs H Q E h=>?_) (fun cdv A outer s H vs Q E hr h=>?_)
 ·obtain ⟨p,t,o,fx,sm,os,rfl,_⟩:=h
  rfl
 ·obtain ⟨p,t,o,fx,sm,os,rfl,hp,ht,ho,h1,h2,h3,hz,q⟩:=h
  have hu:=hr.units
  refine ⟨_,(zaf (zc5 (i:=3) zcC.nd rfl rfl rfl rfl (CompSc.by (N:=zdg) (names:=(zad za8).names) (N':=["_law_name","_law_parts"]) (src:=[none,none]) (by decide +kernel) rfl rfl) (zbi K rfl (zbg ix_F (pv 1) zah (fun _ _=>rfl))) (fun _ _ _ _=>(zbq K rfl (i:=0) (j:=1) rfl (show List.Nodup (["_law_name","_law_parts"]:List Str) by decide +kernel) rfl rfl rfl rfl)) (fun _ _ _ _=>(zeu (zas (zbr hu) (pv 1) zah (nomark _)))) (fun _ _ _ _=>(pv 0)))
   (zaf (zap (i:=4) zcC.nd rfl (Or.inl rfl) (zbg ix_F (zaX (zaa (pv 2) (zaa (pv 3) zae))) (zan O__law_take (hr.mono (by decide)) pass0 rfl (zaa (pv 0) (zaa zah zae))) (fun _ _=>rfl)))
   (zag (zao (zbg ix_F (pv 4) (zan O__law_take (hr.mono (by decide)) pass0 rfl (zaa (pv 0) (zaa (zaj zaM rfl T.n_len rfl (zaa (pv 4) zae)) zae))) (fun _ _=>rfl)))))),?_⟩
  simp only [zdg]
  clear hr F T O__law_take hu
  obtain ⟨a,b,fv,sv,t1,t2,t3,t4,t5,t6,t7⟩:=ht
  have keep:=And.intro q (And.intro hp (And.intro ho (And.intro h1 (And.intro h2 (And.intro h3 hz)))))
  clear q hp ho h1 h2 h3 hz
  walk_at "rd"
  obtain ⟨q,hp,ho,h1,h2,h3,hz⟩:=keep
  refine ⟨.ref a,by rw [ixV_t t1];rfl,a,rfl,fv,.inl t2,fun J hJ=>ziN hJ t4 h3 fun lf hlf=>⟨by decide,fun r hr=>?_⟩⟩
  have hne:1<=(zeros fx).length:=by
   obtain ⟨y,hy,e⟩:=hz
   exact List.length_pos_of_mem (List.mem_map.mpr ⟨y,List.mem_filter.mpr ⟨hy,by simpa using e⟩,rfl⟩)
  have hle:(zeros fx).length<=12:=by have:=(zbP fx).length_le;rw [List.length_map] at this;omega
  have p1:=hp.but (o:=.lst ((zeros fx).map V.str)) (hp.ne hlf)
  have p2:=p1.but (o:=.lst [.ref o,.ref lf]) (p1.ne hr)
  have b2:But p H (upd (upd H lf (.lst ((zeros fx).map V.str))) r (.lst [.ref o,.ref lf])):=(But.new hlf).trans (But.new hr)
  have f2:upd (upd H lf (.lst ((zeros fx).map V.str))) r (.lst [.ref o,.ref lf]) lf=some (.lst ((zeros fx).map V.str)):=by rw [zac (zab upd_same hr)];exact upd_same
  have o2:=(ho.but b2)
  have r2:upd (upd H lf (.lst ((zeros fx).map V.str))) r (.lst [.ref o,.ref lf]) r=some (.lst [.ref o,.ref lf]):=upd_same
  have nr:=(p1.ne hr).symm
  have nl:=(hp.ne hlf).symm
  generalize upd (upd H lf (.lst ((zeros fx).map V.str))) r (.lst [.ref o,.ref lf])=H2 at p2 b2 f2 o2 r2 ⊢
  refine ⟨p,2,rfl,p2,by decide,by decide,fun d x y d0 d1=>?_⟩
  have p3:IsPot (upd H2 p (.lst [.int x,.int y])) p:=⟨_,_,upd_same⟩
  have b3:=b2.trans (But.upd p H2 (.lst [.int x,.int y]))
  have f3:upd H2 p (.lst [.int x,.int y]) lf=some (.lst ((zeros fx).map V.str)):=by rw [zac nl];exact f2
  have o3:=o2.but (But.upd p H2 (.lst [.int x,.int y]))
  have r3:upd H2 p (.lst [.int x,.int y]) r=some (.lst [.ref o,.ref lf]):=by rw [zac nr];exact r2
  generalize upd H2 p (.lst [.int x,.int y])=H3 at p3 b3 f3 o3 r3 ⊢
  have fin:∀ (l:Addr) (ls:List Str),H3 l=some (.lst (ls.map V.str))->1<=ls.length->ls.length<=12->l≠p->(∀ z ∈ ls,z ∈ os∨z ∈ zeros fx) ->
    ∃ x,Option.map (fun n=>V.int n) ((lenV H3 (.ref l)).bind fun a=>some (a:Int))=some x/\zcw [V.ref p,x] H3 (fun y H2=>∃ v_1,ixV H2 (.ref l) y=some v_1/\Q v_1 H2) E0:=by
   intro l ls hl g1 g2 nlp gin
   refine ⟨.int ls.length,by rw [lenV_l hl];simp,p,ls.length,rfl,p3,by omega,by omega,fun e x4 y4 e0 e1=>?_⟩
   have he:e.toNat < ls.length:=by omega
   refine ⟨.str ls[e.toNat],?_,q _ _ (b3.trans (But.upd _ _ _)) ⟨_,_,upd_same⟩ (gin _ (List.getElem_mem he))⟩
   rw [ixV_l (xs:=ls.map V.str) (by rw [zac nlp];exact hl),zeN e0 (by rw [List.length_map];exact e1),List.getElem?_map,List.getElem?_eq_getElem he]
   rfl
  dsimp only
  have:d=0∨d=1:=by omega
  rcases this with rfl | rfl
  ·exact ⟨.ref o,by rw [ixV_l r3];rfl,fin o os o3.1 h1 (by omega) o3.2 fun z hz=>.inl hz⟩
  ·exact ⟨.ref lf,by rw [ixV_l r3];rfl,fin lf _ f3 hne hle nl fun z hz=>.inr hz⟩
end
end Lw
namespace Lw
open PySem L2
section
variable {P:Program}{w:World}{K:PySem.W.Frag}{mg:Str->Option Value}{base:Heap}
noncomputable def zpv (fx:List (Str×Int))(sm:List (Str×Str))(room:Int)(r:Str×Int):Prop:=(0 < r.2/\r.2<=room/\r ∈ fx)∨(r.2=0/\1 < room/\r.1 ∈ sm.map (·.1))
noncomputable def zei:Sp:=fun vs H Q _=>∃ (p t:Addr) (room:Int) (fx:List (Str×Int)) (sm:List (Str×Str)),vs=[.ref t,.int room]/\Told p t fx sm H/\fx.length<=12/\sm.length<=3 /\
 ∀ (l:Addr) (hs:List (Str×Int)) (hv:List V) (H':Hp),Same H H'->H l=none->H' l=some (.lst hv)->RowI H' hs hv->hs.length<=18->(∀ r ∈ hs,zpv fx sm room r)->Q (.ref l) H'
noncomputable def HI (fx:List (Str×Int))(room:Int)(H:Hp)(i:Nat)(acc:List V)(σ:St)(H1:Hp):Prop:=∃ (o1 o2:Option V) (hs:List (Str×Int)),σ=[o1,o2,some (.int room)]/\Same H H1/\RowI H1 hs acc/\hs.length<=i/\∀ r ∈ hs,0 < r.2/\r.2<=room/\r ∈ fx
noncomputable def HJ (sm:List (Str×Str))(H:Hp)(i:Nat)(acc:List V)(σ:St)(H1:Hp):Prop:=∃ (o1 o2:Option V) (hs:List (Str×Int)),σ=[o1,o2]/\Same H H1/\RowI H1 hs acc/\hs.length=i/\∀ r ∈ hs,r.2=0/\r.1 ∈ sm.map (·.1)
theorem RowS.get {H:Hp}:∀ {l:List (Str×Str)} {vs:List V} {i:Nat} {v:V},RowS H l vs->vs[i]?=some v->∃ r t,l[i]?=some r/\v = .ref t/\H t=some (.tup [.str r.1,.str r.2])
 | [],_,_,_,h,e=>by cases h;simp at e
 | r :: _,_,0,_,⟨t,us,e,h,q⟩,k=>by subst e;simp at k;exact ⟨r,t,rfl,k.symm,h⟩
 | _ :: _,_,i + 1,_,⟨t,us,e,h,q⟩,k=>by subst e;simp at k;obtain ⟨r,t,h1,h2,h3⟩:=RowS.get q k;exact ⟨r,t,by simpa using h1,h2,h3⟩
theorem RowS.len {H:Hp}:∀ {l:List (Str×Str)} {vs:List V},RowS H l vs->vs.length=l.length
 | [],_,h=>by cases h;rfl
 | _ :: _,_,⟨t,us,e,h,q⟩=>by subst e;simp [RowS.len q]
theorem RowI.app {H:Hp}:∀ {l m:List (Str×Int)} {vs us:List V},RowI H l vs->RowI H m us->RowI H (l ++ m) (vs ++ us)
 | [],_,_,_,h,k=>by cases h;exact k
 | _ :: _,_,_,_,⟨t,us,e,h,q⟩,k=>by subst e;exact ⟨t,_,rfl,h,RowI.app q k⟩
theorem zl4 {f:Addr}{fd:FuncData}(F:Fun K "_law_heads" "_law_heads" zaL f fd)(T:Txt mg):FnOk P w K mg base CX0 1 f fd zcO zei:=by
 refine F.ok zcj (fun vs H Q E h=>?_) (fun cdv A outer s H vs Q E hr h=>?_)
 ·obtain ⟨p,t,room,fx,sm,rfl,_⟩:=h
  rfl
 ·obtain ⟨p,t,room,fx,sm,rfl,ht,h1,h2,q⟩:=h
  have hu:=hr.units
  refine ⟨_,(zaf (zc5 (i:=2) zcj.nd rfl rfl rfl rfl (CompSc.by (N:=zb7) (names:=(zad zaL).names) (N':=["_law_name","_law_parts","_law_room"]) (src:=[none,none,some 1]) (by decide +kernel) rfl rfl) (zbi K rfl (zbg ix_F (pv 0) zah (fun _ _=>rfl))) (fun _ _ _ _=>(zbq K rfl (i:=0) (j:=1) rfl (show List.Nodup (["_law_name","_law_parts","_law_room"]:List Str) by decide +kernel) rfl rfl rfl rfl)) (fun _ _ _ _=>(zeu (zdi (zgu hu) zfH zah (pv 1) (pv 2)))) (fun _ _ _ _=>(zce (zaa (pv 0) (zaa (pv 1) zae)))))
   (zaf (zaT (zas zlU (pv 1) zah (nomark _)) (zag (zap (i:=2) zcj.nd rfl (Or.inl rfl) (zaQ zaG (pv 2) (zaQ (ze6.or ze5) (zbV rfl (CompSc.by (N:=zb7) (names:=(zad zaL).names) (N':=["_law_name","_law_nought"]) (src:=[none,none]) (by decide +kernel) rfl rfl) (zbi K rfl (zbg ix_F (pv 0) zah (fun _ _=>rfl))) (fun _ _ _ _=>(zbq K rfl (i:=0) (j:=1) rfl (show List.Nodup (["_law_name","_law_nought"]:List Str) by decide +kernel) rfl rfl rfl rfl)) (fun _ _ _ _=>zbx) (fun _ _ _ _=>(zce (zaa (pv 0) (zaa zah zae))))) zah)))) zaq)
   (zag (zao (pv 2))))),?_⟩
  simp only [zb7]
  clear hr F T hu
  obtain ⟨a,b,fv,sv,t1,t2,t3,t4,t5,t6,t7⟩:=ht
  have keep:=And.intro q (And.intro h1 h2)
  clear q h1 h2
  walk_at "rd"
  obtain ⟨q,h1,h2⟩:=keep
  refine ⟨.ref a,by rw [ixV_t t1];rfl,a,rfl,fv,.inl t2,fun J hJ=>za2 hJ (HI fx room H) ⟨none,none,[],rfl,fun _ _ h=>h,rfl,Nat.le_refl _,by simp⟩ ?_ ?_ ?_⟩
  ·rintro i acc σ H' _ ⟨_,_,_,_,s1,_⟩
   rw [s1 _ _ t2,t2]
  ·rintro i x acc σ H1 hx ⟨o1,o2,hs,rfl,s1,row,hl,hin⟩
   obtain ⟨r,t',hr,rfl,ht⟩:=(t4.same (TupS.of s1)).get hx
   have hi:i < 12:=by
    have:=(List.getElem?_eq_some_iff.mp hr).1
    omega
   refine ⟨t',_,rfl,SqT.of ht,rfl,_,_,rfl,_,_,rfl,rfl,_,rfl,.inl (.inl ⟨0,rfl,r.2,rfl,_,rfl,?_⟩)⟩
   by_cases z:0 < r.2
   ·rw [if_pos (by simpa using z)]
    refine ⟨_,rfl,_,_,rfl,rfl,_,rfl,?_⟩
    dsimp only
    by_cases z2:r.2<=room
    ·rw [if_pos (by simpa using z2)]
     refine ⟨_,rfl,_,rfl,(by show 2<=sizeLine;decide),fun u hu=>⟨Nat.lt_of_le_of_lt (m:=12) (by rw [row.len];omega) (by decide),?_⟩⟩
     have row2:=(row.same (TupS.of (Same.upd (o:=.tup [.str r.1,.int r.2]) hu))).snoc (n:=r.1) (k:=r.2) upd_same
     exact ⟨_,_,hs ++ [(r.1,r.2)],rfl,s1.trans (Same.upd hu),row2,by rw [List.length_append];simp;omega,fun y hy=>(List.mem_append.mp hy).elim (hin y) fun h=>by rw [List.mem_singleton.mp h];exact ⟨z,z2,List.mem_of_getElem? hr⟩⟩
    ·rw [if_neg (by simpa using z2)]
     exact ⟨_,_,hs,rfl,s1,row,by omega,hin⟩
   ·rw [if_neg (by simpa using z)]
    refine ⟨false,rfl,?_⟩
    dsimp only
    rw [if_neg (by decide)]
    exact ⟨_,_,hs,rfl,s1,row,by omega,hin⟩
  ·rintro acc σ H1 ⟨o1,o2,hs,rfl,s1,row,hl,hin⟩ l hl1
   rw [t4.len] at hl
   have s2:Same H (upd H1 l (.lst acc)):=s1.trans (Same.upd hl1)
   have nl:H l=none:=by
    cases e:H l with
    | none=>rfl
    | some o=>have z:=s1 l o e;rw [hl1] at z;cases z
   have row2:=row.same (TupS.of (Same.upd (o:=.lst acc) hl1))
   have l2:upd H1 l (.lst acc) l=some (.lst acc):=upd_same
   generalize upd H1 l (.lst acc)=H2 at s2 row2 l2 ⊢
   by_cases hr:1 < room
   ·rw [if_pos hr]
    refine ⟨.ref b,by rw [ixV_t (s2 _ _ t1)];rfl,b,rfl,sv,.inl (s2 _ _ t3),fun J2 hJ2=>za2 hJ2 (HJ sm H2) ⟨none,none,[],rfl,fun _ _ h=>h,rfl,rfl,by simp⟩ ?_ ?_ ?_⟩
    ·rintro i acc σ H' _ ⟨_,_,_,_,s3,_⟩
     rw [s3 _ _ (s2 _ _ t3),s2 _ _ t3]
    ·rintro i x acc2 σ H3 hx ⟨o1,o2,hs2,rfl,s3,row3,hl3,hin3⟩
     obtain ⟨r,t',hr',rfl,ht⟩:=(t5.same (TupS.of (s2.trans s3))).get hx
     have hi:=(List.getElem?_eq_some_iff.mp hr').1
     refine ⟨t',_,rfl,SqT.of ht,rfl,_,_,rfl,_,_,rfl,rfl,?_⟩
     dsimp only [tYes]
     rw [if_pos rfl]
     refine ⟨_,rfl,(by show 2<=sizeLine;decide),fun u hu=>⟨Nat.lt_of_le_of_lt (m:=12) (by rw [row3.len];omega) (by decide),?_⟩⟩
     have row4:=(row3.same (TupS.of (Same.upd (o:=.tup [.str r.1,.int 0]) hu))).snoc (n:=r.1) (k:=0) upd_same
     exact ⟨_,_,hs2 ++ [(r.1,0)],rfl,s3.trans (Same.upd hu),row4,by rw [List.length_append,hl3];rfl,fun y hy=>(List.mem_append.mp hy).elim (hin3 y) fun h=>by rw [List.mem_singleton.mp h];exact ⟨rfl,List.mem_map.mpr ⟨r,List.mem_of_getElem? hr',rfl⟩⟩⟩
    ·rintro acc2 σ H3 ⟨o1,o2,hs2,rfl,s3,row3,hl3,hin3⟩ m hm
     rw [t5.len] at hl3
     have s4:=s3.trans (Same.upd (o:=.lst acc2) hm)
     have row4:=row3.same (TupS.of (Same.upd (o:=.lst acc2) hm))
     have m4:upd H3 m (.lst acc2) m=some (.lst acc2):=upd_same
     generalize upd H3 m (.lst acc2)=H4 at s4 row4 m4 ⊢
     refine .inr ⟨m,rfl,acc2,m4,by decide,by decide,Nat.le_trans (m:=100) (by rw [row4.len];show _ * 2<=_;omega) (by decide),fun u hu=>?_⟩
     have e2:(List.replicate (Int.toNat 2) acc2).flatten=acc2 ++ acc2:=by show acc2 ++ (acc2 ++ [])=_;rw [List.append_nil]
     rw [e2]
     have l5:upd H4 u (.lst (acc2 ++ acc2)) l=some (.lst acc):=by rw [zac (zab (s4 _ _ l2) hu)];exact s4 _ _ l2
     have s5:=s4.trans (Same.upd (o:=.lst (acc2 ++ acc2)) hu)
     have row5:=row4.same (TupS.of (Same.upd (o:=.lst (acc2 ++ acc2)) hu))
     have u5:upd H4 u (.lst (acc2 ++ acc2)) u=some (.lst (acc2 ++ acc2)):=upd_same
     generalize upd H4 u (.lst (acc2 ++ acc2))=H5 at l5 s5 row5 u5 ⊢
     refine ⟨.lst (acc ++ (acc2 ++ acc2)),?_,fun v hv=>?_⟩
     ·simp only [catO,l5,u5]
      exact if_pos (Nat.le_trans (m:=100) (by rw [List.length_append,row5.len,(row2.same (TupS.of s5)).len];omega) (by decide))
     ·have s6:=(s2.trans s5).trans (Same.upd (o:=.lst (acc ++ (acc2 ++ acc2))) hv)
      have row6:=((row2.same (TupS.of s5)).app (row5.app row5)).same (TupS.of (Same.upd (o:=.lst (acc ++ (acc2 ++ acc2))) hv))
      refine q v _ _ _ s6 ?_ upd_same row6 (by simp only [List.length_append];omega) fun y hy=>?_
      ·cases e:H v with
       | none=>rfl
       | some o=>have z:=(s2.trans s5) v o e;rw [hv] at z;cases z
      ·obtain h | h:=List.mem_append.mp hy
       ·exact .inl (hin y h)
       ·have:=(List.mem_append.mp h).elim (hin3 y) (hin3 y)
        exact .inr ⟨this.1,hr,this.2⟩
   ·rw [if_neg hr]
    exact q l hs acc H2 s2 nl l2 row2 (by omega) fun y hy=>.inl (hin y hy)
end
end Lw
namespace Lw
open PySem L2
section
variable {P:Program}{w:World}{K:PySem.W.Frag}{mg:Str->Option Value}{base:Heap}
noncomputable def HdOk (fx:List (Str×Int))(sm:List (Str×Str))(n:Str)(k:Nat):Prop:=(0 < k/\(n,(k:Int)) ∈ fx)∨(2<=k/\n ∈ sm.map (·.1))
mutual
noncomputable def IsTm (fx:List (Str×Int))(sm:List (Str×Str))(os:List Str):D->Prop
 | .str x=>x ∈ os∨x ∈ zeros fx
 | .tup (.str n :: ds)=>HdOk fx sm n ds.length/\IsTms fx sm os ds
 | .lst (.str n :: ds)=>HdOk fx sm n ds.length/\IsTms fx sm os ds
 | _=>False
noncomputable def IsTms (fx:List (Str×Int))(sm:List (Str×Str))(os:List Str):List D->Prop
 | []=>True
 | d :: ds=>IsTm fx sm os d/\IsTms fx sm os ds
end
mutual
noncomputable def lvs:D->Nat
 | .tup (_ :: ds)=>lvss ds
 | .lst (_ :: ds)=>lvss ds
 | _=>1
noncomputable def lvss:List D->Nat
 | []=>0
 | d :: ds=>lvs d + lvss ds
end
theorem IsTms.snoc {fx:List (Str×Int)}{sm:List (Str×Str)}{os:List Str}{d:D}(h:IsTm fx sm os d):∀ {ds:List D},IsTms fx sm os ds->IsTms fx sm os (ds ++ [d])
 | [],_=>⟨h,trivial⟩
 | _ :: _,⟨a,b⟩=>⟨a,IsTms.snoc h b⟩
theorem zgC (d:D):∀ ds:List D,lvss (ds ++ [d])=lvss ds + lvs d
 | []=>by simp [lvss]
 | e :: ds=>by rw [List.cons_append,lvss,zgC d ds,lvss];omega
theorem zff (d:D):∀ ds:List D,depDs (ds ++ [d])=max (depDs ds) (depD d)
 | []=>Nat.max_comm _ _
 | e :: ds=>by rw [List.cons_append,depDs,zff d ds,depDs,Nat.max_assoc]
theorem Reps.snoc {H:Hp}{d:D}{v:V}(h:Rep H d v):∀ {ds:List D} {vs:List V},Reps H ds vs->Reps H (ds ++ [d]) (vs ++ [v])
 | [],_,e=>by cases e;exact ⟨v,[],rfl,h,rfl⟩
 | _ :: _,_,⟨x,r,e,a,b⟩=>by subst e;exact ⟨x,r ++ [v],rfl,a,Reps.snoc h b⟩
theorem Reps.len {H:Hp}:∀ {ds:List D} {vs:List V},Reps H ds vs->vs.length=ds.length
 | [],_,e=>by cases e;rfl
 | _ :: _,_,⟨x,r,e,a,b⟩=>by subst e;simp [Reps.len b]
noncomputable def nw (H H':Hp):Hp:=fun a=>if H a=none then H' a else none
noncomputable def nwB (r:Addr)(H H':Hp):Hp:=fun a=>if H a=none/\a≠r then H' a else none
theorem zcz {H H':Hp}{a:Addr}{o:HO}:nw H H' a=some o ↔ H a=none/\H' a=some o:=by
 unfold nw
 by_cases h:H a=none
 ·rw [if_pos h];exact ⟨fun e=>⟨h,e⟩,fun e=>e.2⟩
 ·rw [if_neg h];exact ⟨fun e=>(by cases e),fun e=>absurd e.1 h⟩
theorem zfI {r:Addr}{H H':Hp}{a:Addr}{o:HO}:nwB r H H' a=some o ↔ (H a=none/\a≠r)/\H' a=some o:=by
 unfold nwB
 by_cases h:H a=none/\a≠r
 ·rw [if_pos h];exact ⟨fun e=>⟨h,e⟩,fun e=>e.2⟩
 ·rw [if_neg h];exact ⟨fun e=>(by cases e),fun e=>absurd e.1 h⟩
noncomputable def zfl (p t o:Addr)(fx:List (Str×Int))(sm:List (Str×Str))(os:List Str)(H:Hp):Prop:=IsPot H p/\Told p t fx sm H/\OwnL p o os H/\SignsOk fx sm/\1<=os.length/\os.length<=10
theorem zfl.but {p t o:Addr}{fx:List (Str×Int)}{sm:List (Str×Str)}{os:List Str}{H H':Hp}(h:zfl p t o fx sm os H)(hb:But p H H')(hp:IsPot H' p):zfl p t o fx sm os H' :=
 ⟨hp,h.2.1.but hb h.1,h.2.2.1.but hb,h.2.2.2⟩
noncomputable def zeg (n:Nat):Sp:=fun vs H Q _=>∃ (p t o:Addr) (fx:List (Str×Int)) (sm:List (Str×Str)) (os:List Str) (room deep:Nat),vs=[.ref p,.ref t,.ref o,.int room,.int deep]/\zfl p t o fx sm os H/\1<=room/\room<=64/\deep<=n /\
 ∀ (d:D) (v:V) (H':Hp),But p H H'->IsPot H' p->Rep (nw H H') d v->IsTm fx sm os d->lvs d<=room->depD d<=deep->Q v H'
theorem zgm {H:Hp}:∀ {hs:List (Str×Int)} {hv:List V},RowI H hs hv->Reps H (hs.map fun r=>D.tup [.str r.1,.int r.2]) hv
 | [],_,e=>e
 | r :: _,_,⟨t,us,e,h,q⟩=>⟨.ref t,us,e,⟨t,_,rfl,h,_,_,rfl,rfl,_,_,rfl,rfl,rfl⟩,zgm q⟩
theorem ziE:∀ hs:List (Str×Int),depDs (hs.map fun r=>D.tup [.str r.1,.int r.2])<=1
 | []=>Nat.zero_le _
 | r :: hs=>by
  have:=ziE hs
  rw [List.map_cons,depDs]
  show max 1 _<=1
  omega
noncomputable def TI (p t o l rw:Addr)(room deep parts:Nat)(nm:Str)(fx:List (Str×Int))(sm:List (Str×Str))(os:List Str)(H:Hp)(i:Nat)(σ:St)(H1:Hp):Prop :=
 ∃ (left:Nat) (ds:List D) (vs:List V) (o10 o11:Option V),σ=[some (.ref p),some (.ref t),some (.ref o),some (.int room),some (.int deep),some (.ref l),some (.str nm),some (.int parts),some (.int left),some (.ref rw),o10,o11] /\
  But p H H1/\IsPot H1 p/\H1 rw=some (.lst (.str nm :: vs))/\Reps (nwB rw H H1) ds vs/\ds.length=i/\IsTms fx sm os ds/\lvss ds + left + (parts - i)<=room/\depDs ds + 1<=deep
theorem zgg {K0:PySem.W.Frag}{Q:VK}{H H5:Hp}{p t o l rw:Addr}{fx:List (Str×Int)}{sm:List (Str×Str)}{os:List Str}{room deep parts n:Nat}{nm:Str}(hin:zfl p t o fx sm os H)(dn:deep<=n)(d1:1<=deep)(r2:room<=64)(hpr:parts<=room)(hh:HdOk fx sm nm parts)
  (b5:But p H H5) (p5:IsPot H5 p) (nr:H rw=none) (r5:H5 rw=some (.lst [.str nm]))
  (q:∀ (d:D) (v:V) (H':Hp),But p H H'->IsPot H' p->Rep (nw H H') d v->IsTm fx sm os d->lvs d<=room->depD d<=deep->Q v H') :
  ForB (Itr 0 parts) (gName 10) (tSeq (tAsg (tCall zcw [] E0 (tCons (tVar 0) (tCons (tOp rAddF (tVar 8) (tC (V.int 1))) tNil))) (gName 11)) (tSeq (tAsg (tOp (rI0 fun i j=>V.int (i - j)) (tVar 8) (tVar 11)) (gName 8))
   (tDrop (tBM K0 "list" rAppend (tVar 9) (tCons (tCall (fun vs H Q E=>∃ m,m < n/\zeg m vs H Q E) [] E0 (tCons (tVar 0) (tCons (tVar 1) (tCons (tVar 2) (tCons (tOp rAddF (tC (V.int 1)) (tVar 11)) (tCons (tOp (rI0 fun i j=>V.int (i - j)) (tVar 4) (tC (V.int 1))) tNil)))))) tNil)))))
   { nx:=tRet (tOp (fun x y H Q=>∃ v,ixV H x y=some v/\Q v H) (tLst (tCons (tVar 9) (tCons (tCB rTupU (tCons (tVar 9) tNil)) tNil))) (tCall zcw [] E0 (tCons (tVar 0) (tCons (tC (V.int 2)) tNil)))) { nx:=fun x H'=>Q V.non H',rt:=Q },rt:=Q }
   [some (.ref p),some (.ref t),some (.ref o),some (.int room),some (.int deep),some (.ref l),some (.str nm),some (.int parts),some (.int ((room:Int) - (parts:Int))),some (.ref rw),none,none] H5:=by
 have nrp:rw≠p:=fun z=>by obtain ⟨x,y,e⟩:=hin.1;rw [← z,nr] at e;cases e
 have hp0:H p≠none:=fun z=>by obtain ⟨x,y,e⟩:=hin.1;rw [z] at e;cases e
 refine zbO (TI p t o l rw room deep parts nm fx sm os H) ⟨room - parts,[],[],none,none,by rw [Int.ofNat_sub hpr],b5,p5,r5,rfl,rfl,trivial,by show 0 + (room - parts) + (parts - 0)<=room;omega,d1⟩ ?_ ?_
 ·rintro i σ H1 hi ⟨left,ds,vs,o10,o11,rfl,b1,p1,r1,rp,hl,tm,lv,dp⟩
  refine ⟨_,rfl,_,rfl,.inl ⟨.int (left + 1),rfl,p,left + 1,rfl,p1,by omega,by omega,fun more x y m0 m1=>?_⟩⟩
  obtain ⟨k,rfl⟩:∃ k:Nat,more=(k:Int):=⟨more.toNat,by omega⟩
  have b2:=b1.trans (But.upd p H1 (.lst [.int x,.int y]))
  have p2:IsPot (upd H1 p (.lst [.int x,.int y])) p:=⟨_,_,upd_same⟩
  have r2':upd H1 p (.lst [.int x,.int y]) rw=some (.lst (.str nm :: vs)):=by rw [zac nrp];exact r1
  have s2:∀ a,a≠p->upd H1 p (.lst [.int x,.int y]) a=H1 a:=fun a ha=>zac ha
  generalize upd H1 p (.lst [.int x,.int y])=H2 at b2 p2 r2' s2 ⊢
  refine ⟨_,rfl,_,rfl,_,_,rfl,rfl,?_⟩
  have e1:(1:Int) + (k:Int)=((1 + k:Nat):Int):=by omega
  have e2:(deep:Int) - 1=((deep - 1:Nat):Int):=by omega
  refine ⟨_,rfl,.inl ⟨rfl,_,SqL.of r2'⟩,_,rfl,_,rfl,_,rfl,_,rfl,.inl ⟨_,rfl,_,rfl,_,_,rfl,rfl,deep - 1,by omega,p,t,o,fx,sm,os,1 + k,deep - 1,(by rw [← e1,← e2];rfl),hin.but b2 p2,by omega,by omega,Nat.le_refl _,fun d v H3 b3 p3 rep3 tm3 lv3 dp3=>?_⟩⟩
  have r3:=b3 rw _ nrp r2'
  have old:∀ a,H2 a=none->H a=none:=fun a ha=>by
   cases e:H a with
   | none=>rfl
   | some u =>
    by_cases z:a=p
    ·obtain ⟨x,y,e'⟩:=p2;rw [z,e'] at ha;cases ha
    ·have:=b2 a u z e;rw [ha] at this;cases this
  refine ⟨rw,_,v,rfl,rfl,r3,Nat.lt_of_le_of_lt (m:=100) (by simp only [List.length_cons];rw [Reps.len rp];omega) (by decide),?_⟩
  refine ⟨left - k,ds ++ [d],vs ++ [v],some (.int (0 + i)),some (.int k),?_,zlk (b2.trans b3) nr,p3.but nrp.symm,by rw [upd_same];rfl,?_,by rw [List.length_append,hl];rfl,tm.snoc tm3,?_,?_⟩
  ·rw [Int.ofNat_sub (by omega)];rfl
  ·refine Reps.snoc (Rep.same ?_ rep3) (Reps.same ?_ rp)
   ·intro a u e
    obtain ⟨g1,g2⟩:=zcz.mp e
    have nar:a≠rw:=fun z=>by rw [z,r2'] at g1;cases g1
    exact zfI.mpr ⟨⟨old a g1,nar⟩,by rw [zac nar];exact g2⟩
   ·intro a u e
    obtain ⟨⟨g1,g2⟩,g3⟩:=zfI.mp e
    have nap:a≠p:=fun z=>hp0 (by rw [← z];exact g1)
    exact zfI.mpr ⟨⟨g1,g2⟩,by rw [zac g2];exact b3 a u nap (by rw [s2 a nap];exact g3)⟩
  ·rw [zgC];omega
  ·rw [zff];omega
 ·rintro σ H1 ⟨left,ds,vs,o10,o11,rfl,b1,p1,r1,rp,hl,tm,lv,dp⟩
  refine ⟨_,rfl,_,rfl,rw,_,rfl,.inl r1,fun tp H2 hc=>?_⟩
  rcases hc with ⟨z,_⟩ | ⟨_,ht,rfl⟩
  ·rw [r1] at z;cases z
  refine ⟨(by show 2<=sizeLine;decide),fun u hu=>⟨_,rfl,p,2,rfl,(p1.but (p1.ne ht)).but ((p1.but (p1.ne ht)).ne hu),by decide,by decide,fun d x y d0 d2=>?_⟩⟩
  have s2:Same H1 (upd (upd H1 tp (.tup (.str nm :: vs))) u (.lst [.ref rw,.ref tp])):=(Same.upd ht).trans (Same.upd hu)
  have t2:upd (upd H1 tp (.tup (.str nm :: vs))) u (.lst [.ref rw,.ref tp]) tp=some (.tup (.str nm :: vs)):=by rw [zac (zab upd_same hu)];exact upd_same
  have u2:upd (upd H1 tp (.tup (.str nm :: vs))) u (.lst [.ref rw,.ref tp]) u=some (.lst [.ref rw,.ref tp]):=upd_same
  have nup:u≠p:=((p1.but (o:=.tup (.str nm :: vs)) (p1.ne ht)).ne hu).symm
  have ntp:tp≠p:=(p1.ne ht).symm
  generalize upd (upd H1 tp (.tup (.str nm :: vs))) u (.lst [.ref rw,.ref tp])=H2 at s2 t2 u2 ⊢
  have b3:But p H (upd H2 p (.lst [.int x,.int y])):=(b1.trans s2.but).trans (But.upd _ _ _)
  have r3:upd H2 p (.lst [.int x,.int y]) rw=some (.lst (.str nm :: vs)):=by rw [zac nrp];exact s2 _ _ r1
  have t3:upd H2 p (.lst [.int x,.int y]) tp=some (.tup (.str nm :: vs)):=by rw [zac ntp];exact t2
  have u3:upd H2 p (.lst [.int x,.int y]) u=some (.lst [.ref rw,.ref tp]):=by rw [zac nup];exact u2
  have nt:H tp=none:=by
   cases e:H tp with
   | none=>rfl
   | some w=>have:=b1 tp w ntp e;rw [ht] at this;cases this
  have rp3:Reps (nw H (upd H2 p (.lst [.int x,.int y]))) (.str nm :: ds) (.str nm :: vs):=by
   refine ⟨_,_,rfl,rfl,Reps.same (fun a w e=>?_) rp⟩
   obtain ⟨⟨g1,g2⟩,g3⟩:=zfI.mp e
   exact zcz.mpr ⟨g1,by rw [zac (fun z=>hp0 (by rw [← z];exact g1))];exact s2 _ _ g3⟩
  have dd:depDs (.str nm :: ds) + 1<=deep:=by
   rw [depDs,show depD (.str nm)=0 from rfl];omega
  have ll:lvss ds<=room:=by omega
  dsimp only
  have:d=0∨d=1:=by omega
  rcases this with rfl | rfl
  ·refine ⟨.ref rw,by rw [ixV_l u3];rfl,q (.lst (.str nm :: ds)) _ _ b3 ⟨_,_,upd_same⟩ ⟨rw,_,rfl,zcz.mpr ⟨nr,r3⟩,rp3⟩ ?_ (by rw [lvs];exact ll) (by rw [depD];exact dd)⟩
   unfold IsTm;exact ⟨by rw [hl];exact hh,tm⟩
  ·refine ⟨.ref tp,by rw [ixV_l u3];rfl,q (.tup (.str nm :: ds)) _ _ b3 ⟨_,_,upd_same⟩ ⟨tp,_,rfl,zcz.mpr ⟨nt,t3⟩,rp3⟩ ?_ (by rw [lvs];exact ll) (by rw [depD];exact dd)⟩
   unfold IsTm;exact ⟨by rw [hl];exact hh,tm⟩
theorem znK {f:Addr}{fd:FuncData}(n:Nat)(F:Fun K "_law_term" "_law_term" zaZ f fd)(T:Txt mg)(O__law_take:Own P w K mg base CX0 1 "_law_take" zcw)(O__law_leaf:Own P w K mg base CX0 2 "_law_leaf" ze0)(O__law_heads:Own P w K mg base CX0 1 "_law_heads" zei)
  (O__law_term:Own P w K mg base CX0 (n + 3) "_law_term" (fun vs H Q E=>∃ m,m < n/\zeg m vs H Q E)):FnOk P w K mg base CX0 (n + 4) f fd zbA (zeg n):=by
 refine F.ok zaH (fun vs H Q E h=>?_) (fun cdv A outer s H vs Q E hr h=>?_)
 ·obtain ⟨p,t,o,fx,sm,os,room,deep,rfl,_⟩:=h
  rfl
 ·obtain ⟨p,t,o,fx,sm,os,room,deep,rfl,hin,r1,r2,dn,q⟩:=h
  have hu:=hr.units
  refine ⟨_,(zaf (zap (i:=5) zaH.nd rfl (Or.inl rfl) (zan O__law_heads (hr.mono (by omega)) pass0 rfl (zaa (pv 1) (zaa (pv 3) zae))))
   (zaf (zaT (PW.pt (zdz (zas (zbr hu) (pv 4) zah (nomark _)) (zdz (zas (zbr hu) (pv 5) (zaX zae) (nomark _)) (zcG (zas (zbr hu) (zan O__law_take (hr.mono (by omega)) pass0 rfl (zaa (pv 0) (zaa zah zae))) zah (nomark _)))))) (zag (zao (zan O__law_leaf (hr.mono (by omega)) pass0 rfl (zaa (pv 0) (zaa (pv 1) (zaa (pv 2) zae)))))) zaq)
   (zaf (zgn (zbg ix_F (pv 5) (zan O__law_take (hr.mono (by omega)) pass0 rfl (zaa (pv 0) (zaa (zaj zaM rfl T.n_len rfl (zaa (pv 5) zae)) zae))) (fun _ _=>rfl)) (zbq K rfl (i:=6) (j:=7) rfl zaH.nd rfl rfl rfl rfl))
   (zaf (zaT (zas (zbr hu) (pv 7) zah (nomark _)) (zag (zap (i:=7) zaH.nd rfl (Or.inl rfl) (zaQ zaG zah (zan O__law_take (hr.mono (by omega)) pass0 rfl (zaa (pv 0) (zaa (zaj (zgZ rfl) rfl T.n_min rfl (zaa zah (zaa (zaQ ze4 (pv 3) zah) zae))) zae)))))) zaq)
   (zaf (zap (i:=8) zaH.nd rfl (Or.inl rfl) (zaQ ze4 (pv 3) (pv 7)))
   (zaf (zap (i:=9) zaH.nd rfl (Or.inl rfl) (zaX (zaa (pv 6) zae)))
   (zaf (zb2 PassesOwn.never rfl (zbU rfl T.n_range (zaa (pv 7) zae)) (zaC (i:=10) zaH.nd rfl (Or.inl rfl)) (zaf (zap (i:=11) zaH.nd rfl (Or.inl rfl) (zan O__law_take (hr.mono (by omega)) pass0 rfl (zaa (pv 0) (zaa (zaQ zaG (pv 8) zah) zae))))
   (zaf (zap (i:=8) zaH.nd rfl (Or.inl rfl) (zaQ ze4 (pv 8) (pv 11)))
   (zag (zaP (zcB PySem.F.plainAttrs_list PySem.F.slot_list_append PySem.F.type_list_append zbj (pv 9) (zaa (zan O__law_term (hr.mono (by omega)) pass0 rfl (zaa (pv 0) (zaa (pv 1) (zaa (pv 2) (zaa (zaQ zaG zah (pv 11)) (zaa (zaQ ze4 (pv 4) zah) zae)))))) zae)))))))
   (zag (zao (zbg ix_F (zaX (zaa (pv 9) (zaa (zaU zbz rfl T.n_tuple rfl (zaa (pv 9) zae)) zae))) (zan O__law_take (hr.mono (by omega)) pass0 rfl (zaa (pv 0) (zaa zah zae))) (fun _ _=>rfl))))))))))),?_⟩
  simp only [zeU]
  clear hr F T hu O__law_take O__law_leaf O__law_heads O__law_term
  have keep:=And.intro q (And.intro hin (And.intro r1 (And.intro r2 dn)))
  clear q hin r1 r2 dn
  walk_at "rd"
  obtain ⟨q,hin,r1,r2,dn⟩:=keep
  have leaf:∀ H1,But p H H1->IsPot H1 p->ze0 [.ref p,.ref t,.ref o] H1 Q E0:=fun H1 b1 p1=>by
   have i1:=hin.but b1 p1
   exact ⟨p,t,o,fx,sm,os,rfl,p1,i1.2.1,i1.2.2.1,i1.2.2.2.2.1,i1.2.2.2.2.2,hin.2.2.2.1.f2,hin.2.2.2.1.bare,fun x H' b2 p2 hx=>q (.str x) (.str x) H' (b1.trans b2) p2 rfl (by unfold IsTm;exact hx) r1 (Nat.zero_le _)⟩
  refine ⟨p,t,room,fx,sm,rfl,hin.2.1,hin.2.2.2.1.f2,hin.2.2.2.1.s2,fun l hs hv H1 s1 nl l1 row hl hok=>?_⟩
  have b1:But p H H1:=s1.but
  have p1:IsPot H1 p:=by obtain ⟨x,y,e⟩:=hin.1;exact ⟨x,y,s1 _ _ e⟩
  have nlp:l≠p:=fun z=>by obtain ⟨x,y,e⟩:=hin.1;rw [← z,nl] at e;cases e
  dsimp only
  by_cases hd0:(deep:Int)=0
  ·rw [if_pos hd0];exact leaf H1 b1 p1
  rw [if_neg hd0]
  refine ⟨Nat.zero_le _,fun u hu=>?_⟩
  have b2:=b1.trans (But.new (p:=p) (o:=.lst []) hu)
  have p2:=p1.but (o:=.lst []) (p1.ne hu)
  have l2:upd H1 u (.lst []) l=some (.lst hv):=by rw [zac (zab l1 hu)];exact l1
  have row2:=row.same (TupS.of (Same.upd (o:=.lst []) hu))
  have u2:upd H1 u (.lst []) u=some (.lst []):=upd_same
  generalize upd H1 u (.lst [])=H2 at b2 p2 l2 row2 u2 ⊢
  refine ⟨.lst (hs.map fun r=>D.tup [.str r.1,.int r.2]),.lst [],⟨l,hv,rfl,l2,zgm row2⟩,⟨u,[],rfl,u2,rfl⟩,?_,_,rfl,?_⟩
  ·have:=ziE hs
   rw [depD];omega
  by_cases he:hs=[]
  ·subst he
   rw [if_pos (by rfl)];exact leaf H2 b2 p2
  rw [if_neg (by cases hs with | nil=>exact absurd rfl he | cons a b=>exact Bool.false_ne_true)]
  refine ⟨p,7,rfl,p2,by decide,by decide,fun d x y d0 d1=>?_⟩
  have b3:=b2.trans (But.upd p H2 (.lst [.int x,.int y]))
  have p3:IsPot (upd H2 p (.lst [.int x,.int y])) p:=⟨_,_,upd_same⟩
  have l3:upd H2 p (.lst [.int x,.int y]) l=some (.lst hv):=by rw [zac nlp];exact l2
  have row3:=row2.same (TupS.pot (o:=.lst [.int x,.int y]) p2)
  generalize upd H2 p (.lst [.int x,.int y])=H3 at b3 p3 l3 row3 ⊢
  dsimp only
  rw [rEqD_ii]
  refine ⟨_,rfl,?_⟩
  by_cases hd:d=0
  ·rw [if_pos (by simpa using hd)];exact leaf H3 b3 p3
  rw [if_neg (by simpa using hd)]
  have hn:1<=hs.length:=by cases hs with | nil=>exact absurd rfl he | cons a b=>simp
  refine ⟨.int hs.length,by rw [lenV_l l3,row3.len];rfl,p,hs.length,rfl,p3,by omega,by omega,fun e x4 y4 e0 e1=>?_⟩
  have b4:=b3.trans (But.upd p H3 (.lst [.int x4,.int y4]))
  have p4:IsPot (upd H3 p (.lst [.int x4,.int y4])) p:=⟨_,_,upd_same⟩
  have l4:upd H3 p (.lst [.int x4,.int y4]) l=some (.lst hv):=by rw [zac nlp];exact l3
  have row4:=row3.same (TupS.pot (o:=.lst [.int x4,.int y4]) p3)
  generalize upd H3 p (.lst [.int x4,.int y4])=H4 at b4 p4 l4 row4 ⊢
  have hle:e.toNat < hv.length:=by rw [row4.len];omega
  obtain ⟨r,tt,hr,hv',ht⟩:=row4.get (List.getElem?_eq_getElem hle)
  have hok':=hok r (List.mem_of_getElem? hr)
  refine ⟨.ref tt,by rw [ixV_l l4,zeN e0 (by omega),List.getElem?_eq_getElem hle,hv'],tt,rfl,_,SqT.of ht,rfl,_,_,rfl,_,_,rfl,rfl,?_⟩
  rw [rEqD_ii]
  refine ⟨_,rfl,?_⟩
  by_cases hz:r.2=0
  ·rw [if_pos (by simpa using hz)]
   have h0:1 < (room:Int)/\r.1 ∈ sm.map (·.1):=by
    rcases hok' with ⟨a,_,_⟩ | ⟨_,b,c⟩
    ·omega
    ·exact ⟨b,c⟩
   refine ⟨4,(room:Int) - 1,⟨rfl,rfl⟩,p,_,rfl,p4,by split <;> omega,by split <;> omega,fun g x5 y5 g0 g1=>⟨.int (2 + g),rfl,2 + g,rfl,by decide,fun u5 hu5=>⟨2 + g,rfl,by split at g1 <;> omega,by split at g1 <;> omega,?_⟩⟩⟩
   obtain ⟨k,hk⟩:∃ k:Nat,2 + g=(k:Int):=⟨(2 + g).toNat,by omega⟩
   have hk2:2<=k/\k<=room:=by split at g1 <;> omega
   rw [hk,Int.toNat_natCast]
   have b5:=(b4.trans (But.upd p H4 (.lst [.int x5,.int y5]))).trans (But.new (o:=.lst [.str r.1]) hu5)
   have p5:IsPot (upd H4 p (.lst [.int x5,.int y5])) p:=⟨_,_,upd_same⟩
   refine zgg hin dn (by omega) r2 hk2.2 (.inr ⟨hk2.1,h0.2⟩) b5 (p5.but (p5.ne hu5)) ?_ upd_same q
   cases e:H u5 with
   | none=>rfl
   | some w=>have:=(b4.trans (But.upd p H4 (.lst [.int x5,.int y5]))) u5 w (p5.ne hu5).symm e;rw [hu5] at this;cases this
  ·rw [if_neg (by simpa using hz)]
   have h0:0 < r.2/\r.2<=(room:Int)/\r ∈ fx:=by
    rcases hok' with h | ⟨h,_⟩
    ·exact h
    ·exact absurd h hz
   refine ⟨r.2,rfl,by decide,fun u5 hu5=>⟨r.2,rfl,by omega,by omega,?_⟩⟩
   obtain ⟨k,hk⟩:∃ k:Nat,r.2=(k:Int):=⟨r.2.toNat,by omega⟩
   have hm:(r.1,(k:Int)) ∈ fx:=by rw [← hk];exact h0.2.2
   rw [hk,Int.toNat_natCast]
   have b5:=b4.trans (But.new (p:=p) (o:=.lst [.str r.1]) hu5)
   refine zgg hin dn (by omega) r2 (by omega) (.inl ⟨by omega,hm⟩) b5 (p4.but (p4.ne hu5)) ?_ upd_same q
   cases e:H u5 with
   | none=>rfl
   | some w=>have:=b4 u5 w (p4.ne hu5).symm e;rw [hu5] at this;cases this
theorem zn6 {f:Addr}{fd:FuncData}(F:Fun K "_law_term" "_law_term" zaZ f fd)(T:Txt mg)(O__law_take:Own P w K mg base CX0 1 "_law_take" zcw)(O__law_leaf:Own P w K mg base CX0 2 "_law_leaf" ze0)(O__law_heads:Own P w K mg base CX0 1 "_law_heads" zei)
  (hm:mg "_law_term" = some (.ref f)) (hk:PySem.W.keepIn K (.ref f)=true) (hb:Binds K fd zbA []):∀ n,FnOk P w K mg base CX0 (n + 4) f fd zbA (zeg n):=by
 intro n
 induction n using Nat.strongRecOn with
 | ind n ih =>
  exact znK n F T O__law_take O__law_leaf O__law_heads ⟨f,fd,_,⟨fun vs H Q E ⟨m,h1,h⟩=>(ih m h1).len vs H Q E h,fun A outer s H args us vs Q E hr he hb hv ⟨m,h1,h⟩=>((ih m h1).mono (by omega)).run A outer s H args us vs Q E hr he hb hv h⟩,hm,hk,hb⟩
theorem zlQ {f:Addr}{fd:FuncData}(F:Fun K "_law_term" "_law_term" zaZ f fd)(T:Txt mg)(O__law_take:Own P w K mg base CX0 1 "_law_take" zcw)(O__law_leaf:Own P w K mg base CX0 2 "_law_leaf" ze0)(O__law_heads:Own P w K mg base CX0 1 "_law_heads" zei)
  (hm:mg "_law_term" = some (.ref f)) (hk:PySem.W.keepIn K (.ref f)=true) (hb:Binds K fd zbA []) (n:Nat):Own P w K mg base CX0 (n + 4) "_law_term" (zeg n):=⟨f,fd,_,zn6 F T O__law_take O__law_leaf O__law_heads hm hk hb n,hm,hk,hb⟩
end
end Lw
namespace Lw
open PySem L2
noncomputable abbrev M:=Nat×Str×Nat
noncomputable def sL (x y:Str):Bool:=decide (x.cps.toList < y.cps.toList)
theorem znc {x y:Str}(h:x.cps.toList=y.cps.toList):x=y:=by
 cases x;cases y;simp only [Str.mk.injEq];exact Array.toList_inj.mp h
theorem zoC (x:Str):sL x x=false:=decide_eq_false (List.lt_irrefl _)
theorem zni {x y:Str}(h:sL x y=true):sL y x=false:=decide_eq_false fun k=>absurd (List.lt_trans (of_decide_eq_true h) k) (List.lt_irrefl _)
theorem zlF {x y:Str}(n:x≠y):sL x y=true∨sL y x=true:=by
 by_cases h:x.cps.toList < y.cps.toList
 ·exact .inl (decide_eq_true h)
 ·by_cases k:y.cps.toList < x.cps.toList
  ·exact .inr (decide_eq_true k)
  ·exact absurd (znc (List.le_antisymm (List.not_lt.mp k) (List.not_lt.mp h))) n
noncomputable def ltM (a b:M):Bool:=if a.1=b.1 then (if a.2.1=b.2.1 then decide (a.2.2 < b.2.2) else sL a.2.1 b.2.1) else decide (a.1 < b.1)
theorem zfN {a b:M}(h:ltM a b=true):ltM b a=false:=by
 obtain ⟨a1,a2,a3⟩:=a
 obtain ⟨b1,b2,b3⟩:=b
 unfold ltM at h ⊢
 dsimp only at h ⊢
 by_cases e1:a1=b1
 ·subst e1
  rw [if_pos rfl] at h ⊢
  by_cases e2:a2=b2
  ·subst e2
   rw [if_pos rfl] at h ⊢
   exact decide_eq_false (by have:=of_decide_eq_true h;omega)
  ·rw [if_neg e2] at h;rw [if_neg (Ne.symm e2)];exact zni h
 ·rw [if_neg e1] at h;rw [if_neg (Ne.symm e1)]
  exact decide_eq_false (by have:=of_decide_eq_true h;omega)
theorem zeA {a b:M}(n:a≠b):ltM a b=true∨ltM b a=true:=by
 obtain ⟨a1,a2,a3⟩:=a
 obtain ⟨b1,b2,b3⟩:=b
 unfold ltM
 dsimp only
 by_cases e1:a1=b1
 ·subst e1
  rw [if_pos rfl,if_pos rfl]
  by_cases e2:a2=b2
  ·subst e2
   rw [if_pos rfl,if_pos rfl]
   have:a3≠b3:=fun z=>n (by rw [z])
   rcases Nat.lt_or_gt_of_ne this with h | h
   ·exact .inl (decide_eq_true h)
   ·exact .inr (decide_eq_true h)
  ·rw [if_neg e2,if_neg (Ne.symm e2)];exact zlF e2
 ·rw [if_neg e1,if_neg (Ne.symm e1)]
  rcases Nat.lt_or_gt_of_ne e1 with h | h
  ·exact .inl (decide_eq_true h)
  ·exact .inr (decide_eq_true h)
noncomputable def lexK:List M->List M->Bool
 | [],[]=>false
 | [],_ :: _=>true
 | _ :: _,[]=>false
 | a :: s,b :: t=>if a=b then lexK s t else ltM a b
theorem zd3:∀ s:List M,lexK s s=false
 | []=>rfl
 | a :: s=>by rw [lexK,if_pos rfl,zd3 s]
theorem zeB:∀ {s t:List M},lexK s t=true->lexK t s=false
 | [],[],h=>by cases h
 | [],_ :: _,_=>rfl
 | _ :: _,[],h=>by cases h
 | a :: s,b :: t,h=>by
  rw [lexK] at h ⊢
  by_cases e:a=b
  ·rw [if_pos e] at h;rw [if_pos e.symm];exact zeB h
  ·rw [if_neg e] at h;rw [if_neg (Ne.symm e)];exact zfN h
theorem ze9:∀ {s t:List M},s≠t->lexK s t=true∨lexK t s=true
 | [],[],n=>absurd rfl n
 | [],_ :: _,_=>.inl rfl
 | _ :: _,[],_=>.inr rfl
 | a :: s,b :: t,n=>by
  rw [lexK,lexK]
  by_cases e:a=b
  ·rw [if_pos e,if_pos e.symm];exact ze9 fun z=>n (by rw [e,z])
  ·rw [if_neg e,if_neg (Ne.symm e)];exact zeA e
noncomputable def sortS (x:Str):Nat:=if x.cps.toList[0]?=some 63 then 0 else 1
mutual
noncomputable def key:D->List M
 | .str x=>[(sortS x,x,0)]
 | .tup (.str n :: ds)=>(2,n,ds.length + 1) :: keys ds
 | _=>[]
noncomputable def keys:List D->List M
 | []=>[]
 | d :: ds=>key d ++ keys ds
end
mutual
/-- texts and tuples whose first is a text -/
noncomputable def Fl:D->Prop
 | .str x=>1<=x.cps.toList.length/\x.cps.toList.length<=20
 | .tup (.str _ :: ds)=>Fls ds
 | _=>False
noncomputable def Fls:List D->Prop
 | []=>True
 | d :: ds=>Fl d/\Fls ds
end
noncomputable def sortD:D->Nat
 | .str x=>sortS x
 | _=>2
mutual
/-- part by part -/
noncomputable def ah:D->D->Bool
 | .str x,.str y=>if sortS x=sortS y then sL x y else decide (sortS x < sortS y)
 | .tup (.str n :: ds),.tup (.str m :: es)=>if n=m then (if ds.length=es.length then ahs ds es else decide (ds.length < es.length)) else sL n m
 | d,e=>decide (sortD d < sortD e)
noncomputable def ahs:List D->List D->Bool
 | d :: ds,e :: es=>if eqD d e=true then ahs ds es else ah d e
 | _,_=>false
end
theorem zh6 (x:Str):sortS x < 2:=by unfold sortS;split <;> omega
mutual
theorem zhK:∀ (d e:D) (s t:List M),Fl d->Fl e->lexK (key d ++ s) (key e ++ t)=if eqD d e=true then lexK s t else ah d e
 | .str x,.str y,s,t,_,_=>by
  have e1:eqD (.str x) (.str y)=(x == y):=rfl
  show (if ((sortS x,x,0):M)=(sortS y,y,0) then lexK s t else ltM (sortS x,x,0) (sortS y,y,0))=_
  rw [e1]
  by_cases e:x=y
  ·subst e;rw [if_pos rfl,if_pos (by simp)]
  ·rw [if_neg (fun z=>e (by simp at z;exact z.2)),if_neg (by simpa using e),ah]
   unfold ltM
   dsimp only
   by_cases h:sortS x=sortS y
   ·rw [if_pos h,if_neg e,if_pos h]
   ·rw [if_neg h,if_neg h]
 | .str x,.tup (.str m :: es),s,t,_,_=>by
  have e1:eqD (.str x) (.tup (.str m :: es))=false:=rfl
  have:=zh6 x
  show (if ((sortS x,x,0):M)=(2,m,es.length + 1) then _ else ltM (sortS x,x,0) (2,m,es.length + 1))=_
  rw [e1,if_neg (fun z=>by simp at z),if_neg (by decide),ah]
  ·unfold ltM
   rw [if_neg (by dsimp only;omega)]
   rfl
  all_goals (intros;simp_all)
 | .tup (.str n :: ds),.str y,s,t,_,_=>by
  have e1:eqD (.tup (.str n :: ds)) (.str y)=false:=rfl
  have:=zh6 y
  show (if ((2,n,ds.length + 1):M)=(sortS y,y,0) then _ else ltM (2,n,ds.length + 1) (sortS y,y,0))=_
  rw [e1,if_neg (fun z=>by simp at z),if_neg (by decide),ah]
  ·unfold ltM
   rw [if_neg (by dsimp only;omega)]
   rfl
  all_goals (intros;simp_all)
 | .tup (.str n :: ds),.tup (.str m :: es),s,t,fd,fe=>by
  have e1:eqD (.tup (.str n :: ds)) (.tup (.str m :: es))=((n == m) && eqDs ds es):=rfl
  show (if ((2,n,ds.length + 1):M)=(2,m,es.length + 1) then lexK (keys ds ++ s) (keys es ++ t) else ltM (2,n,ds.length + 1) (2,m,es.length + 1))=_
  rw [e1,ah]
  by_cases hn:n=m
  ·subst hn
   by_cases hl:ds.length=es.length
   ·rw [if_pos (by rw [hl]),if_pos rfl,if_pos hl,ziv ds es s t hl fd fe]
    simp
   ·rw [if_neg (fun z=>hl (by simp at z;omega)),if_pos rfl,if_neg hl]
    have:eqDs ds es=false:=by
     cases h:eqDs ds es with
     | false=>rfl
     | true=>rw [zb4] at h;simp at h;exact absurd h.2 hl
    rw [this,if_neg (by simp)]
    unfold ltM
    dsimp only
    rw [if_pos rfl,if_pos rfl]
    simp
  ·rw [if_neg (fun z=>hn (by simp at z;exact z.1)),if_neg (by simp [hn]),if_neg hn]
   unfold ltM
   dsimp only
   rw [if_pos rfl,if_neg hn]
theorem ziv:∀ (ds es:List D) (s t:List M),ds.length=es.length->Fls ds->Fls es->lexK (keys ds ++ s) (keys es ++ t)=if eqDs ds es=true then lexK s t else ahs ds es
 | [],[],s,t,_,_,_=>by rw [eqDs,if_pos rfl];rfl
 | d :: ds,e :: es,s,t,hl,⟨f1,f2⟩,⟨g1,g2⟩=>by
  rw [keys,keys,List.append_assoc,List.append_assoc,zhK d e _ _ f1 g1,ziv ds es s t (by simpa using hl) f2 g2,eqDs,ahs]
  by_cases h:eqD d e=true
  ·rw [if_pos h,if_pos h,h,Bool.true_and]
  ·have h':eqD d e=false:=by simpa using h
   rw [if_neg h,if_neg h,h',Bool.false_and,if_neg (by decide)]
 | [],_ :: _,_,_,h,_,_=>by simp at h
 | _ :: _,[],_,_,h,_,_=>by simp at h
end
theorem zfO {d e:D}(fd:Fl d)(fe:Fl e):lexK (key d) (key e)=(!eqD d e && ah d e):=by
 have:=zhK d e [] [] fd fe
 rw [List.append_nil,List.append_nil] at this
 rw [this]
 cases h:eqD d e <;> simp [lexK]
theorem zn0 {d e:D}(fd:Fl d)(fe:Fl e)(h:key d=key e):eqD d e=true:=by
 have a:=zfO fd fe
 have b:=zhK d e [] [(0,default,0)] fd fe
 rw [List.append_nil,h] at b
 cases q:eqD d e with
 | true=>rfl
 | false =>
  rw [q,if_neg (by decide)] at b
  rw [q,h,zd3,← b] at a
  have:∀ (s:List M) (m:M),lexK s (s ++ [m])=true:=by
   intro s m
   induction s with
   | nil=>rfl
   | cons a s ih=>rw [List.cons_append,lexK,if_pos rfl,ih]
  rw [this] at a
  cases a
end Lw
namespace Lw
open PySem L2
section
variable {P:Program}{w:World}{K:PySem.W.Frag}{mg:Str->Option Value}{base:Heap}
theorem zph {H:Hp}{a:Addr}{xs:List V}(h:H a=some (.tup xs)):isV H (.ref a) (.ty "tuple")=some true:=by unfold isV tyN;simp only [h];rfl
theorem Reps.get {H:Hp}:∀ {ds:List D} {vs:List V} {i:Nat} {v:V},Reps H ds vs->vs[i]?=some v->∃ d,ds[i]?=some d/\Rep H d v
 | [],_,_,_,e,h=>by cases e;simp at h
 | d :: _,_,0,_,⟨x,r,e,a,b⟩,h=>by subst e;simp at h;subst h;exact ⟨d,rfl,a⟩
 | _ :: _,_,i + 1,_,⟨x,r,e,a,b⟩,h=>by subst e;simp at h;obtain ⟨d,h1,h2⟩:=Reps.get b h;exact ⟨d,by simpa using h1,h2⟩
theorem Fls.get:∀ {ds:List D} {i:Nat} {d:D},Fls ds->ds[i]?=some d->Fl d
 | [],_,_,_,z=>by simp at z
 | _ :: _,0,_,⟨a,_⟩,h=>by simp at h;subst h;exact a
 | _ :: _,i + 1,_,⟨_,b⟩,h=>Fls.get b (by simpa using h)
theorem zd8:∀ {ds:List D} {i:Nat} {d:D},ds[i]?=some d->depD d<=depDs ds
 | [],_,_,h=>by simp at h
 | e :: ds,0,_,h=>by simp at h;subst h;rw [depDs];omega
 | e :: ds,i + 1,_,h=>by have:=zd8 (ds:=ds) (i:=i) (by simpa using h);rw [depDs];omega
theorem ziB {d:D}(h:Fl d):(∃ x,d = .str x/\1<=x.cps.toList.length/\x.cps.toList.length<=20)∨∃ n ds,d = .tup (.str n :: ds)/\Fls ds:=by
 unfold Fl at h
 split at h
 ·exact .inl ⟨_,rfl,h⟩
 ·exact .inr ⟨_,_,rfl,h⟩
 ·exact absurd h id
end
end Lw
namespace Lw
open PySem L2
section
variable {P:Program}{w:World}{K:PySem.W.Frag}{mg:Str->Option Value}{base:Heap}
noncomputable def opn1 (n z:Str)(d:D):List D:=match d with
 | .tup (.str m :: es)=>if m=n then es else [d]
 | d=>if eqD d (.str z)=true then [] else [d]
noncomputable def opn (n z:Str)(ds:List D):List D:=ds.flatMap (opn1 n z)
theorem zd1 (n z:Str)(ds:List D)(d:D):opn n z (ds ++ [d])=opn n z ds ++ opn1 n z d:=by simp [opn]
end
end Lw
namespace Lw
open PySem L2
section
variable {P:Program}{w:World}{K:PySem.W.Frag}{mg:Str->Option Value}{base:Heap}
theorem IsTms.get {fx:List (Str×Int)}{sm:List (Str×Str)}{os:List Str}:∀ {ds:List D} {i:Nat} {d:D},IsTms fx sm os ds->ds[i]?=some d->IsTm fx sm os d
 | [],_,_,_,z=>by simp at z
 | _ :: _,0,_,⟨a,_⟩,h=>by simp at h;subst h;exact a
 | _ :: _,i + 1,_,⟨_,b⟩,h=>IsTms.get b (by simpa using h)
theorem zh4 {fx:List (Str×Int)}{sm:List (Str×Str)}{os:List Str}{d:D}(h:IsTm fx sm os d):(∃ x,d = .str x/\(x ∈ os∨x ∈ zeros fx))∨∃ n ds,(d = .tup (.str n :: ds)∨d = .lst (.str n :: ds))/\HdOk fx sm n ds.length/\IsTms fx sm os ds:=by
 unfold IsTm at h
 split at h
 ·exact .inl ⟨_,rfl,h⟩
 ·exact .inr ⟨_,_,.inl rfl,h⟩
 ·exact .inr ⟨_,_,.inr rfl,h⟩
 ·exact absurd h id
theorem zfd {fx:List (Str×Int)}{sm:List (Str×Str)}{n:Str}{k:Nat}(h:HdOk fx sm n k):1<=k:=by rcases h with ⟨h,_⟩ | ⟨h,_⟩ <;> omega
theorem zdq {H:Hp}{a:Addr}{xs:List V}(h:H a=some (.tup xs)):isV H (.ref a) (.ty "str")=some false:=by unfold isV tyN;simp only [h];rfl
theorem zeD {H:Hp}{a:Addr}{xs:List V}(h:H a=some (.lst xs)):isV H (.ref a) (.ty "str")=some false:=by unfold isV tyN;simp only [h];rfl
theorem zhG:∀ {ds:List D} {i:Nat} {d:D},ds[i]?=some d->lvs d<=lvss ds
 | [],_,_,h=>by simp at h
 | e :: ds,0,_,h=>by simp at h;subst h;rw [lvss];omega
 | e :: ds,i + 1,_,h=>by have:=zhG (ds:=ds) (i:=i) (by simpa using h);rw [lvss];omega
mutual
theorem zjD {fx:List (Str×Int)}{sm:List (Str×Str)}{os:List Str}:∀ {d:D},IsTm fx sm os d->1<=lvs d
 | .str x,_=>by rw [lvs] <;> simp
 | .tup (.str n :: ds),h=>by
  unfold IsTm at h
  have:=zc1 h.2
  have:=zfd h.1
  rw [lvs];omega
 | .lst (.str n :: ds),h=>by
  unfold IsTm at h
  have:=zc1 h.2
  have:=zfd h.1
  rw [lvs];omega
 | .non,h=>by unfold IsTm at h;exact absurd h id
 | .bl _,h=>by unfold IsTm at h;exact absurd h id
 | .int _,h=>by unfold IsTm at h;exact absurd h id
 | .tup [],h=>by unfold IsTm at h;exact absurd h id
 | .lst [],h=>by unfold IsTm at h;exact absurd h id
 | .tup (.non :: _),h=>by unfold IsTm at h;exact absurd h id
 | .tup (.bl _ :: _),h=>by unfold IsTm at h;exact absurd h id
 | .tup (.int _ :: _),h=>by unfold IsTm at h;exact absurd h id
 | .tup (.tup _ :: _),h=>by unfold IsTm at h;exact absurd h id
 | .tup (.lst _ :: _),h=>by unfold IsTm at h;exact absurd h id
 | .lst (.non :: _),h=>by unfold IsTm at h;exact absurd h id
 | .lst (.bl _ :: _),h=>by unfold IsTm at h;exact absurd h id
 | .lst (.int _ :: _),h=>by unfold IsTm at h;exact absurd h id
 | .lst (.tup _ :: _),h=>by unfold IsTm at h;exact absurd h id
 | .lst (.lst _ :: _),h=>by unfold IsTm at h;exact absurd h id
theorem zc1 {fx:List (Str×Int)}{sm:List (Str×Str)}{os:List Str}:∀ {ds:List D},IsTms fx sm os ds->ds.length<=lvss ds
 | [],_=>Nat.zero_le _
 | d :: ds,⟨a,b⟩=>by
  have h1:=zjD a
  have h2:=zc1 b
  rw [lvss,List.length_cons];omega
end
end
end Lw
namespace Lw
open PySem L2
mutual
theorem zoa:∀ {d e:D},Fl d->Fl e->eqD d e=true->d=e
 | .str x,.str y,_,_,h=>by
  have h:(x == y)=true:=h
  rw [eq_of_beq h]
 | .tup (.str n :: ds),.tup (.str m :: es),fd,fe,h=>by
  have h:((n == m) && eqDs ds es)=true:=h
  rw [Bool.and_eq_true] at h
  unfold Fl at fd fe
  rw [eq_of_beq h.1,zmY fd fe h.2]
 | .str _,.tup (.str _ :: _),_,_,h=>by cases (show false=true from h)
 | .tup (.str _ :: _),.str _,_,_,h=>by cases (show false=true from h)
theorem zmY:∀ {ds es:List D},Fls ds->Fls es->eqDs ds es=true->ds=es
 | [],[],_,_,_=>rfl
 | d :: ds,e :: es,⟨a,b⟩,⟨a',b'⟩,h=>by
  rw [eqDs,Bool.and_eq_true] at h
  rw [zoa a a' h.1,zmY b b' h.2]
 | [],_ :: _,_,_,h=>by cases (show false=true from h)
 | _ :: _,[],_,_,h=>by cases (show false=true from h)
end
theorem zpc {d e:D}(fd:Fl d)(fe:Fl e)(h:key d=key e):d=e:=zoa fd fe (zn0 fd fe h)
noncomputable def leK (d e:D):Prop:=lexK (key e) (key d)=false
theorem zme {d e:D}(fd:Fl d)(fe:Fl e)(h1:leK d e)(h2:leK e d):d=e:=by
 by_cases k:key d=key e
 ·exact zpc fd fe k
 ·rcases ze9 k with h | h
  ·rw [h2] at h;cases h
  ·rw [h1] at h;cases h
theorem ze8:∀ {a b c:List M},lexK a b=false->lexK b c=false->lexK a c=false:=by
 have ltM_trans:∀ {a b c:M},ltM a b=true->ltM b c=true->ltM a c=true:=by
  rintro ⟨a1,a2,a3⟩ ⟨b1,b2,b3⟩ ⟨c1,c2,c3⟩ h k
  unfold ltM at h k ⊢
  dsimp only at h k ⊢
  by_cases e1:a1=b1
  ·subst e1
   rw [if_pos rfl] at h
   by_cases e2:a1=c1
   ·subst e2
    rw [if_pos rfl] at k ⊢
    by_cases f1:a2=b2
    ·subst f1
     rw [if_pos rfl] at h
     by_cases f2:a2=c2
     ·subst f2
      rw [if_pos rfl] at k ⊢
      have:=of_decide_eq_true h;have:=of_decide_eq_true k
      exact decide_eq_true (p:=_) (by omega)
     ·rw [if_neg f2] at k ⊢;exact k
    ·rw [if_neg f1] at h
     by_cases f2:b2=c2
     ·subst f2;rw [if_neg f1];exact h
     ·rw [if_neg f2] at k
      have t:sL a2 c2=true:=decide_eq_true (List.lt_trans (of_decide_eq_true h) (of_decide_eq_true k))
      by_cases f3:a2=c2
      ·subst f3;rw [zoC] at t;cases t
      ·rw [if_neg f3];exact t
   ·rw [if_neg e2] at k ⊢;exact k
  ·rw [if_neg e1] at h
   have h:=of_decide_eq_true h
   by_cases e2:b1=c1
   ·subst e2;rw [if_neg e1];exact decide_eq_true h
   ·rw [if_neg e2] at k
    have k:=of_decide_eq_true k
    rw [if_neg (by omega)];exact decide_eq_true (p:=_) (by omega)
 intro a
 induction a with
 | nil =>
  intro b c h k
  cases b with
  | nil=>exact k
  | cons y b=>cases h
 | cons x a ih =>
  intro b c h k
  cases c with
  | nil=>rfl
  | cons z c =>
   cases b with
   | nil=>cases k
   | cons y b =>
    rw [lexK] at h k ⊢
    by_cases e1:x=y
    ·subst e1
     rw [if_pos rfl] at h
     by_cases e2:x=z
     ·rw [if_pos e2] at k ⊢;exact ih h k
     ·rw [if_neg e2] at k ⊢;exact k
    ·rw [if_neg e1] at h
     have hyx:ltM y x=true:=(zeA e1).resolve_left (by rw [h];decide)
     by_cases e2:y=z
     ·subst e2;rw [if_neg e1];exact h
     ·rw [if_neg e2] at k
      have hzy:ltM z y=true:=(zeA e2).resolve_left (by rw [k];decide)
      have hzx:=ltM_trans hzy hyx
      by_cases e3:x=z
      ·subst e3;have:=zfN hzx;rw [hzx] at this;cases this
      ·rw [if_neg e3];exact zfN hzx
theorem zkC {a b c:D}(h:leK a b)(k:leK b c):leK a c:=ze8 k h
theorem ze1:∀ {l m:List D},(∀ d ∈ l,Fl d)->l.Perm m->l.Pairwise leK->m.Pairwise leK->l=m
 | [],m,_,p,_,_=>(List.nil_perm.mp p).symm
 | a :: l,[],_,p,_,_=>absurd (List.perm_nil.mp p) (by simp)
 | a :: l,b :: m,f,p,s,t=>by
  have fb:∀ d ∈ b :: m,Fl d:=fun d hd=>f d (p.mem_iff.mpr hd)
  obtain ⟨s1,s2⟩:=List.pairwise_cons.mp s
  obtain ⟨t1,t2⟩:=List.pairwise_cons.mp t
  have e:a=b:=by
   have ha:a ∈ b :: m:=p.mem_iff.mp List.mem_cons_self
   have hb:b ∈ a :: l:=p.mem_iff.mpr List.mem_cons_self
   obtain h | h:=List.mem_cons.mp ha
   ·exact h
   ·obtain k | k:=List.mem_cons.mp hb
    ·exact k.symm
    ·exact zme (f a List.mem_cons_self) (fb b List.mem_cons_self) (s1 b k) (t1 a h)
  subst e
  rw [ze1 (fun d hd=>f d (List.mem_cons_of_mem _ hd)) (List.perm_cons a |>.mp p) s2 t2]
noncomputable def insA (d:D):List D->List D
 | []=>[d]
 | e :: l=>if ah d e=true then d :: e :: l else e :: insA d l
theorem zdr (d:D):∀ l:List D,(insA d l).Perm (d :: l)
 | []=>.refl _
 | e :: l=>by
  unfold insA
  by_cases h:ah d e=true
  ·rw [if_pos h]
  ·rw [if_neg h];exact ((zdr d l).cons e).trans (.swap d e l)
theorem zpq {d e:D}(fd:Fl d)(fe:Fl e):ah d e=true->lexK (key d) (key e)=true∨d=e:=fun h=>by
 rw [zfO fd fe,h]
 cases q:eqD d e with
 | false=>exact .inl rfl
 | true=>exact .inr (zoa fd fe q)
theorem zeG {d:D}(fd:Fl d):∀ {l:List D},(∀ e ∈ l,Fl e)->l.Pairwise leK->(insA d l).Pairwise leK
 | [],_,_=>List.pairwise_singleton _ _
 | e :: l,f,s=>by
  obtain ⟨s1,s2⟩:=List.pairwise_cons.mp s
  have fe:=f e List.mem_cons_self
  unfold insA
  by_cases h:ah d e=true
  ·rw [if_pos h]
   have de:leK d e:=by
    rcases zpq fd fe h with q | q
    ·exact zeB q
    ·subst q;exact zd3 _
   refine List.pairwise_cons.mpr ⟨fun x hx=>?_,s⟩
   obtain k | k:=List.mem_cons.mp hx
   ·subst k;exact de
   ·exact zkC de (s1 x k)
  ·rw [if_neg h]
   have ed:leK e d:=by
    have:lexK (key d) (key e)=false:=by rw [zfO fd fe];simp [h]
    exact this
   refine List.pairwise_cons.mpr ⟨fun x hx=>?_,zeG fd (fun y hy=>f y (List.mem_cons_of_mem _ hy)) s2⟩
   rcases List.mem_cons.mp ((zdr d l).mem_iff.mp hx) with k | k
   ·subst k;exact ed
   ·exact s1 x k
end Lw
namespace L2
open PySem PySem.Spec PyProof.Rows
theorem zjJ {ks:List (Option Expr)}{vs es:List Expr}{p:Pos}{env:Env}:starEach (.Dict ks vs p :: es) env=(false,eval (.Dict ks vs p) env) :: starEach es env:=by rw [starEach];exact fun _ _ z=>nomatch z
theorem zny {X:Cx}{es:List Expr}{p:Pos}{t:TA}(h:PA X es t):PA X (.Dict [] [] p :: es) (tCons zmH t):=zaa zlO h zjJ
end L2
namespace L2
open PySem PySem.Spec PyProof.Rows
theorem zgy:typeLookup (.type "list") "keys" = pure none:=am_miss_of_fast (by decide +kernel)
theorem zgG {P:Program}{w:World}{A:Around}{E:Value->Shared->Prop}{s:Shared}{a:Addr}{xs:Array Value}{k:Nat}{sl:Array (Option Value)}{Q:Option Value->Shared->Prop}
  (at_a:s.heap.get? a=some { cls:=.type "list",dict:=none,data:=.seq xs k,slots:=sl }) (calm:A.handled=none)
  (q:∀ h' tk,(∀ b ob,s.heap.get? b=some ob->h'.get? b=some ob)->Q none { s with heap:=h',toks:=tk }) :
  wpAny (model P w) A (getAttr? (.ref a) "keys") Q E s:=by
 rcases s with ⟨hp,gs,dr,tk,os⟩
 have ty:∀ t,(⟨hp,gs,dr,t,os⟩:Shared).TypeIs (.ref a) "list":=fun _=>⟨_,at_a,rfl⟩
 have l1:=F.slot_list_getattribute.lookup
 have l2:=F.slot_list_getattribute.bind (.ref a)
 have l3:=am_list_getattr_none
 have l4:=sub_AttributeError
 rw [getAttr?]
 unfold getAttrBy? getAttrBy
 repeat (any_goals (first | assumption | exact ty _ | ((with_reducible show wpAny _ _ (call (Value.builtin "list.__getattribute__") _ _) _ _ _);refine call_meets F.slot_list_getattribute (ty _) am_entry_list_getattribute (F.args_list_getattribute_2 _ _) (meets_getattribute_miss_list a xs k sl "keys" _ zgy (by decide) (by decide)) ⟨at_a,calm,fun h' tk' e n=>?_⟩) | wp_step))
 obtain ⟨x1,x2,x3⟩:=n.there
 dsimp only [wants]
 unfold getattributeRaised
 wp_walk
 exact q _ _ n.keeps
section
variable {P:Program}{w:World}{K:Type}[DecidableEq K]{knd:KeyKind P w K}
noncomputable def ziH (knd:KeyKind P w K)(h:Heap)(d it:Addr)(x:Value)(kv:K×Value):Prop :=
 ∃ (q:Addr) (o:Obj) (key:Value) (n:Nat),x = .ref q/\q≠d/\q≠it/\h.get? q=some o/\(o.cls = .type "list"∨o.cls = .type "tuple")/\o.data = .seq #[key,kv.2] n/\knd.is kv.1 key=true
theorem ziH.mono {h h':Heap}{d it:Addr}{x:Value}{kv:K×Value}(p:ziH knd h d it x kv)(k:∀ b o,b≠d->b≠it->h.get? b=some o->h'.get? b=some o):ziH knd h' d it x kv:=by
 obtain ⟨q,o,key,n,e1,e2,e3,e4,e5⟩:=p
 exact ⟨q,o,key,n,e1,e2,e3,k q o e2 e3 e4,e5⟩
inductive Prs (knd:KeyKind P w K)(h:Heap)(d it:Addr):List Value->List (K×Value)->Prop
 | nil:Prs knd h d it [] []
 | cons {x:Value} {xs:List Value} {kv:K×Value} {more:List (K×Value)}:ziH knd h d it x kv->Prs knd h d it xs more->Prs knd h d it (x :: xs) (kv :: more)
theorem Prs.mono {h h':Heap}{d it:Addr}(k:∀ b o,b≠d->b≠it->h.get? b=some o->h'.get? b=some o):∀ {xs:List Value} {more:List (K×Value)},Prs knd h d it xs more->Prs knd h' d it xs more
 | _,_,.nil=>.nil
 | _,_,.cons p r=>.cons (p.mono k) (Prs.mono k r)
theorem zdj:plainId "dict.update.loop" = true:=by decide +kernel
theorem zgR:entryFor table "dict.update.loop" = some Builtin.«dict.update.loop»:=entryFor_of_fast (by kernel_rfl)
theorem zfG {A:Around}{E:Value->Shared->Prop}{s:Shared}{q:Addr}{o:Obj}{n:Nat}{a b:Value}{Q:List Value->Shared->Prop}(e:s.heap.get? q=some o)(c:o.cls = .type "list"∨o.cls = .type "tuple")(dt:o.data = .seq #[a,b] n)(h:Q [a,b] s) :
  wpAny (model P w) A (Builtin.Dict.pairItems (.ref q)) Q E s:=by
 unfold Builtin.Dict.pairItems
 rcases c with c | c
 ·refine wpAny_bind (wpAny_typeOf (T:="list") ⟨o,e,c⟩ ?_)
  rw [if_pos (by decide)]
  exact wpAny_bind (wpAny_seqItems e dt (wpAny_pure h))
 ·refine wpAny_bind (wpAny_typeOf (T:="tuple") ⟨o,e,c⟩ ?_)
  rw [if_pos (by decide)]
  exact wpAny_bind (wpAny_seqItems e dt (wpAny_pure h))
theorem zls {d it l:Addr}{items:Array Value}(nid:it≠d)(nld:l≠d)(nli:l≠it):∀ (m i:Nat),items.size - i=m->∀ (A:Around) (R:Result->Shared->Prop) (s:Shared) (kvs more:List (K×Value)) (tk:Tok),
  A.handled=none->s.heap.IsListIter it l i->s.heap.IsList l items->s.heap.DictOf knd d kvs->Prs knd s.heap d it (items.toList.drop i) more->kvs.length + more.length<=sizeLine ->
  (∀ h' tk',h'.DictOf knd d (merged kvs more)->(∀ b o,b≠d->b≠it->s.heap.get? b=some o->h'.get? b=some o)->R (.ok (.ret .none)) { s with heap:=h',toks:=tk' }) ->
  codeAny (model P w) A (.builtin "dict.update.loop" ⟨[.ref d,.ref it,.int i tk,.none],[]⟩) R s:=by
 intro m
 induction m with
 | zero =>
  intro i hm A R s kvs more tk hA st hl hd al hz k
  refine codeAny_builtin zgR ?_
  rw [Around.under_plainId zdj]
  have hi:items[i]?=none:=by simp;omega
  have en:more=[]:=by
   have:items.toList.drop i=[]:=by simp;omega
   rw [this] at al
   cases al;rfl
  subst en
  unfold Builtin.«dict.update.loop»
  dsimp only
  refine wpAny_bind (wpAny_pyNext_list_end hA st hl hi fun h' eb=>?_)
  dsimp only
  refine wpAny_bind (m:=Builtin.Dict.addKeywords d []) (wpAny_pure (wpAny_pure ?_))
  exact k h' s.toks (hd.extBut eb nid.symm) fun b o _ hb e=>eb b o hb e
 | succ m ih =>
  intro i hm A R s kvs more tk hA st hl hd al hz k
  refine codeAny_builtin zgR ?_
  rw [Around.under_plainId zdj]
  have inR:i < items.size:=by omega
  have hi:items[i]?=some items[i]:=by simp [inR]
  have ed:items.toList.drop i=items[i] :: items.toList.drop (i + 1):=by simp [List.drop_eq_getElem_cons,inR]
  rw [ed] at al
  cases al with
  | cons p rest =>
   rename_i kv more
   unfold Builtin.«dict.update.loop»
   dsimp only
   refine wpAny_bind (wpAny_pyNext_list_item st hl hi fun h1 st1 sb1=>?_)
   dsimp only
   obtain ⟨q,o,key,n,eq,nqd,nqi,gq,cq,dq,kq⟩:=p
   rw [eq]
   refine wpAny_bind (wpAny_holding (wpAny_bind (wpAny_tryCatch (zfG (s:={ s with heap:=h1 }) ((sb1.2 q nqi).trans gq) cq dq ?_))))
   refine wpAny_holding (wpAny_dictSet_pairs kq (hd.sameBut sb1 nid.symm) (fun h2 hd2 sb2=>?_) (by simp at hz;omega))
   have kept:∀ b o,b≠d->b≠it->s.heap.get? b=some o->h2.get? b=some o:=fun b o nb ni e=>(sb2.2 b nb).trans ((sb1.2 b ni).trans e)
   refine wpAny_pure ⟨plainId_quiet zdj _,?_⟩
   have e1:((i:Int) + 1)=((i + 1:Nat):Int):=by push_cast;rfl
   rw [e1]
   refine ih (i + 1) (by omega) A R _ (stored kvs kv.1 kv.2) more 0 hA (st1.at fun o e=>(sb2.2 it nid).trans e) (hl.at fun o e=>kept l o nld nli e) hd2 (rest.mono kept) ?_ fun h' tk' r1 r2=>?_
   ·have:=stored_length_le kvs kv.1 kv.2
    simp at hz;omega
   ·exact k h' tk' r1 fun b o nb ni e=>r2 b o nb ni (kept b o nb ni e)
noncomputable def zps (knd:KeyKind P w K)(h:Heap)(x:Value)(kv:K×Value):Prop :=
 ∃ (q:Addr) (o:Obj) (key:Value) (n:Nat),x = .ref q/\h.get? q=some o/\(o.cls = .type "list"∨o.cls = .type "tuple")/\o.data = .seq #[key,kv.2] n/\knd.is kv.1 key=true
inductive PrsIn (knd:KeyKind P w K)(h:Heap):List Value->List (K×Value)->Prop
 | nil:PrsIn knd h [] []
 | cons {x:Value} {xs:List Value} {kv:K×Value} {more:List (K×Value)}:zps knd h x kv->PrsIn knd h xs more->PrsIn knd h (x :: xs) (kv :: more)
theorem PrsIn.at {h h':Heap}{d it:Addr}(ed:h.get? d=none)(ei:h.get? it=none)(k:∀ b o,h.get? b=some o->h'.get? b=some o):∀ {xs:List Value} {more:List (K×Value)},PrsIn knd h xs more->Prs knd h' d it xs more
 | _,_,.nil=>.nil
 | _,_,.cons ⟨q,o,key,n,e1,e2,e3⟩ r=>.cons ⟨q,o,key,n,e1,fun e=>(by rw [e,ed] at e2;cases e2),fun e=>(by rw [e,ei] at e2;cases e2),k q o e2,e3⟩ (PrsIn.at ed ei k r)
theorem zeK {A:Around}{E:Value->Shared->Prop}{s:Shared}{l:Addr}{items:Array Value}{n:Nat}{sl:Array (Option Value)}{more:List (K×Value)}{Q:Value->Shared->Prop}
  (at_l:s.heap.get? l=some { cls:=.type "list",dict:=none,data:=.seq items n,slots:=sl }) (calm:A.handled=none) (al:PrsIn knd s.heap items.toList more) (hz:more.length<=sizeLine)
  (q:∀ h' tk,h'.DictOf knd s.heap.objs.size (merged [] more)->(∀ b o,s.heap.get? b=some o->h'.get? b=some o)->Q (.ref s.heap.objs.size) { s with heap:=h',toks:=tk }) :
  wpAny (model P w) A (call (.type "dict") [.ref l]) Q E s:=by
 refine callType_codes (Q₁:=fun v s1=>v = .ref s.heap.objs.size/\s1={ s with heap:=s.heap.push { cls:=.type "dict",data:=.dict #[] } }) F.kt_called_dict (F.kt_typeCall_dict_1 _) F.entry_dict_init (kt_code_dict_new _ ⟨rfl,rfl⟩) ?_
 rintro v s1 ⟨rfl,rfl⟩
 have d0:(s.heap.push { cls:=.type "dict",data:=.dict #[] }).DictOf knd s.heap.objs.size []:=Heap.DictOf.new s.heap
 have l0:=Heap.get?_push_of_some { cls:=.type "dict",data:=.dict #[] } at_l
 have lt:=Heap.lt_size at_l
 refine ⟨d0.typeIs,F.args_dict_init_2 _ _,?_⟩
 unfold Builtin.«dict.__init__» Builtin.Dict.selfAndRest
 refine wpAny_bind (wpAny_bind (wpAny_notOrdered_dict d0.typeIs (wpAny_pure ?_)))
 unfold Builtin.Dict.updateCommon Builtin.Dict.updateFrom
 dsimp only
 refine wpAny_bind (wpAny_typeOf (T:="list") ⟨_,l0,rfl⟩ ?_)
 rw [if_pos (by decide)]
 refine wpAny_bind (zgG l0 calm fun h1 t1 k1=>?_)
 rw [if_pos (by rfl)]
 have l1:=k1 _ _ l0
 refine wpAny_bind (wpAny_rule (wpAny_bind (wpAny_pyIter_list (items:=items) ⟨_,l1,rfl,_,rfl⟩ (wpAny_pure ⟨plainId_quiet zdj _,?_⟩))))
 have d1:=d0.keep k1
 have dlt:s.heap.objs.size < h1.objs.size:=by
  obtain ⟨o,e,_⟩:=Heap.dictOf_iff.mp d1
  exact Heap.lt_size e
 have k2:∀ b o,s.heap.get? b=some o->(h1.push { cls:=.type "list_iterator",data:=.fields #[.ref l,.int 0 0] }).get? b=some o:=fun b o e=>Heap.get?_push_of_some _ (k1 b o (Heap.get?_push_of_some _ e))
 refine zls (it:=h1.objs.size) (l:=l) (items:=items) (Nat.ne_of_gt dlt) (Nat.ne_of_lt lt) (Nat.ne_of_lt (Nat.lt_trans lt dlt)) _ 0 rfl A.in1 _ _ [] more 0 calm ⟨_,Heap.get?_push_size _ rfl,rfl,rfl⟩ ⟨_,k2 _ _ at_l,rfl,_,rfl⟩ (d1.push _)
  (PrsIn.at (Heap.get?_none_of_le (Nat.le_refl _)) (Heap.get?_none_of_le (Nat.le_of_lt dlt)) k2 al) (by simpa using hz) fun h' tk' r1 r2=>?_
 exact ⟨rfl,q h' tk' r1 fun b o e=>r2 b o (Nat.ne_of_lt (Heap.lt_size e)) (Nat.ne_of_lt (Nat.lt_trans (Heap.lt_size e) dlt)) (k2 b o e)⟩
end
noncomputable def prV (H:Hp):V->Option (V×V)
 | .ref p=>match H p with
  | some (.lst [a,b])=>some (a,b)
  | some (.tup [a,b])=>some (a,b)
  | _=>none
 | _=>none
theorem zif {X:Cx}{pins:List (Addr×Obj)}{σ:St}{H:Hp}{s:Shared}(I:Inv X pins σ H s):∀ {ys:List V} {us:List Value} {kvs:List (Key×V)},Vals ys us->ys.map (prV H)=kvs.map (fun kv=>some (kV kv.1,kv.2)) ->
  ∃ rs:List (Key×Value),PrsIn (zaV X.prog X.w) s.heap us rs/\KV kvs rs
 | [],_,[],r,_=>by cases r;exact ⟨[],.nil,.nil⟩
 | [],_,_ :: _,_,e=>by cases e
 | _ :: _,_,[],_,e=>by cases e
 | y :: ys,_,kv :: kvs,r,e=>by
  cases r with
  | @cons _ u _ us ry r =>
   rw [List.map_cons,List.map_cons] at e
   injection e with e1 e2
   obtain ⟨rs,c,q⟩:=zif I r e2
   cases y with
   | ref p =>
    cases ry
    unfold prV at e1
    dsimp only at e1
    split at e1
    ·rename_i a b hp
     cases e1
     obtain ⟨_,its,n,rv,h1⟩:=(show ObjOk X.prog X.w H s.heap p (.lst [_,_]) from I.hok p _ hp)
     obtain ⟨u1,u2,rfl,r1,r2⟩:=vals2 rv
     exact ⟨(kv.1,u2) :: rs,.cons ⟨p,_,u1,n,rfl,h1,.inl rfl,rfl,zkN r1⟩ c,.cons ⟨rfl,r2⟩ q⟩
    ·rename_i a b hp
     cases e1
     obtain ⟨_,its,rv,o,h1,h2,n,h3⟩:=(show ObjOk X.prog X.w H s.heap p (.tup [_,_]) from I.hok p _ hp)
     obtain ⟨u1,u2,rfl,r1,r2⟩:=vals2 rv
     exact ⟨(kv.1,u2) :: rs,.cons ⟨p,o,u1,n,rfl,h1,.inr h2,h3,zkN r1⟩ c,.cons ⟨rfl,r2⟩ q⟩
    ·cases e1
   | _=>cases e1
noncomputable def zoF:List V->Hp->VK->Prop:=fun xs H Q=>∃ p ys kvs,xs=[.ref p]/\H p=some (.lst ys)/\ys.map (prV H)=kvs.map (fun kv=>some (kV kv.1,kv.2))/\∀ d,H d=none->Q (.ref d) (upd H d (.dK (zcZ [] kvs)))
theorem zfi {X:Cx}(hc:X.calm=true):CallR X (.type "dict") zoF:=by
 intro pins s σ H xs us Q I r h
 obtain ⟨p,ys,kvs,rfl,hp,al,q⟩:=h
 obtain ⟨u,rfl,rx⟩:=vals1 r
 cases rx
 obtain ⟨z,its,n,rv,h1⟩:=(show ObjOk X.prog X.w H s.heap p (.lst ys) from I.hok p _ hp)
 obtain ⟨rs,c,rk⟩:=zif I rv al
 have ll:kvs.length=ys.length:=by have:=congrArg List.length al;simpa using this.symm
 have lr:kvs.length=rs.length:=rk.length
 refine zeK h1 (I.ok.hd hc) (by simpa using c) (by omega) fun h' tk dd kp=>⟨.ref s.heap.objs.size,_,?_,rfl,q _ (I.hok.fresh (Nat.le_refl _))⟩
 have hz:(zcZ [] kvs).length<=sizeLine:=by
  have:=zdo kvs []
  rw [List.length_nil] at this;omega
 exact I.laid (t':=tk) kp (Nat.le_refl _) (zpl hz (beq_eq_false_iff_ne.mpr (Ne.symm (Nat.ne_of_lt I.big))) (rk.merge .nil) dd)
end L2
namespace Lw
open PySem L2
noncomputable def zcf (ds:List D):List D:=ds.foldl (fun l d=>insA d l) []
noncomputable def zr (sm:List (Str×Str))(n:Str):Option Str:=(sm.find? fun r=>decide (r.1=n)).map (·.2)
noncomputable def one (n z:Str)(l:List D):D:=match l with
 | []=>.str z
 | [d]=>d
 | l=>.tup (.str n :: l)
noncomputable def knot (sm:List (Str×Str))(n:Str)(ps:List D):D:=match zr sm n with
 | none=>.tup (.str n :: ps)
 | some z=>one n z (zcf (opn n z ps))
mutual
noncomputable def flt (sm:List (Str×Str)):D->D
 | .tup (.str n :: ds)=>knot sm n (flts sm ds)
 | .lst (.str n :: ds)=>knot sm n (flts sm ds)
 | d=>d
noncomputable def flts (sm:List (Str×Str)):List D->List D
 | []=>[]
 | d :: ds=>flt sm d :: flts sm ds
end
theorem zbd (sm:List (Str×Str)):∀ ds:List D,flts sm ds=ds.map (flt sm)
 | []=>rfl
 | d :: ds=>by rw [flts,zbd sm ds];rfl
theorem zgM:∀ (ds l:List D),(ds.foldl (fun l d=>insA d l) l).Perm (ds ++ l)
 | [],l=>.refl _
 | d :: ds,l=>(zgM ds (insA d l)).trans (((zdr d l).append_left ds).trans (List.perm_middle))
theorem za1 (ds:List D):(zcf ds).Perm ds:=by have:=zgM ds [];simpa [zcf] using this
mutual
noncomputable def sz:D->Nat
 | .tup (_ :: ds)=>max 1 (szs ds)
 | .lst (_ :: ds)=>max 1 (szs ds)
 | _=>1
noncomputable def szs:List D->Nat
 | []=>0
 | d :: ds=>sz d + szs ds
end
theorem zoy:∀ d:D,1<=sz d:=by
 intro d
 unfold sz
 split <;> omega
theorem zhh:∀ ds:List D,ds.length<=szs ds
 | []=>Nat.le_refl _
 | d :: ds=>by rw [szs,List.length_cons];have:=zoy d;have:=zhh ds;omega
theorem zhi:∀ ds es:List D,szs (ds ++ es)=szs ds + szs es
 | [],es=>by simp [szs]
 | d :: ds,es=>by rw [List.cons_append,szs,zhi ds es,szs];omega
theorem zlA {l m:List D}(p:l.Perm m):szs l=szs m:=by
 induction p with
 | nil=>rfl
 | cons x _ ih=>rw [szs,szs,ih]
 | swap x y l=>rw [szs,szs,szs,szs];omega
 | trans _ _ a b=>exact a.trans b
theorem zgT:∀ ds es:List D,depDs (ds ++ es)=max (depDs ds) (depDs es)
 | [],es=>by simp [depDs]
 | d :: ds,es=>by rw [List.cons_append,depDs,zgT ds es,depDs,Nat.max_assoc]
theorem zji {l m:List D}(p:l.Perm m):depDs l=depDs m:=by
 induction p with
 | nil=>rfl
 | cons x _ ih=>rw [depDs,depDs,ih]
 | swap x y l=>rw [depDs,depDs,depDs,depDs,Nat.max_left_comm]
 | trans _ _ a b=>exact a.trans b
theorem znA (n z:Str)(d:D):szs (opn1 n z d)<=sz d:=by
 unfold opn1
 split
 ·split
  ·rw [sz];omega
  ·rw [szs,szs];omega
 ·split
  ·rw [szs];omega
  ·rw [szs,szs];omega
theorem zd2 (n z:Str)(d:D)(ds:List D):opn n z (d :: ds)=opn1 n z d ++ opn n z ds:=by simp [opn]
theorem zkb (n z:Str):∀ ds:List D,szs (opn n z ds)<=szs ds
 | []=>Nat.le_refl _
 | d :: ds=>by rw [zd2,zhi,szs];have:=znA n z d;have:=zkb n z ds;omega
theorem zlT (n z:Str)(d:D):depDs (opn1 n z d)<=depD d:=by
 unfold opn1
 split
 ·split
  ·rw [depD,depDs];omega
  ·rw [depDs,depDs];omega
 ·split
  ·rw [depDs];omega
  ·rw [depDs,depDs];omega
theorem zkd (n z:Str):∀ ds:List D,depDs (opn n z ds)<=depDs ds
 | []=>Nat.le_refl _
 | d :: ds=>by rw [zd2,zgT,depDs];have:=zlT n z d;have:=zkd n z ds;omega
theorem zoV (n z:Str)(l:List D):sz (one n z l)<=max 1 (szs l):=by
 unfold one
 split
 ·show sz (.str z)<=_
  unfold sz;omega
 ·rw [szs,szs];omega
 ·rw [sz];omega
theorem zkF (sm:List (Str×Str))(n:Str)(ps:List D):sz (knot sm n ps)<=max 1 (szs ps):=by
 unfold knot
 split
 ·rw [sz];omega
 ·rename_i z _
  have h1:=zoV n z (zcf (opn n z ps))
  rw [zlA (za1 _)] at h1
  have h2:=zkb n z ps
  omega
theorem znH (n z:Str)(l:List D):depD (one n z l)<=depDs l + 1:=by
 unfold one
 split
 ·show (0:Nat)<=_;omega
 ·rw [depDs,depDs];omega
 ·rw [depD,depDs,show depD (.str n)=0 from rfl];omega
theorem zit (sm:List (Str×Str))(n:Str)(ps:List D):depD (knot sm n ps)<=depDs ps + 1:=by
 unfold knot
 split
 ·rw [depD,depDs,show depD (.str n)=0 from rfl];omega
 ·rename_i z _
  have h1:=znH n z (zcf (opn n z ps))
  rw [zji (za1 _)] at h1
  have h2:=zkd n z ps
  omega
mutual
theorem zmX (sm:List (Str×Str)):∀ d:D,sz (flt sm d)<=sz d
 | .tup (.str n :: ds)=>by rw [flt,sz];have:=zkF sm n (flts sm ds);have:=zfU sm ds;omega
 | .lst (.str n :: ds)=>by rw [flt,sz];have:=zkF sm n (flts sm ds);have:=zfU sm ds;omega
 | .non | .bl _ | .int _ | .str _ | .tup [] | .lst [] | .tup (.non :: _) | .tup (.bl _ :: _) | .tup (.int _ :: _) | .tup (.tup _ :: _) | .tup (.lst _ :: _) | .lst (.non :: _) | .lst (.bl _ :: _) | .lst (.int _ :: _) | .lst (.tup _ :: _) | .lst (.lst _ :: _)=>by unfold flt;exact Nat.le_refl _
theorem zfU (sm:List (Str×Str)):∀ ds:List D,szs (flts sm ds)<=szs ds
 | []=>Nat.le_refl _
 | d :: ds=>by rw [flts,szs,szs];have:=zmX sm d;have:=zfU sm ds;omega
end
mutual
theorem zk0 (sm:List (Str×Str)):∀ d:D,depD (flt sm d)<=depD d
 | .tup (.str n :: ds)=>by rw [flt,depD,depDs,show depD (.str n)=0 from rfl];have:=zit sm n (flts sm ds);have:=zd7 sm ds;omega
 | .lst (.str n :: ds)=>by rw [flt,depD,depDs,show depD (.str n)=0 from rfl];have:=zit sm n (flts sm ds);have:=zd7 sm ds;omega
 | .non | .bl _ | .int _ | .str _ | .tup [] | .lst [] | .tup (.non :: _) | .tup (.bl _ :: _) | .tup (.int _ :: _) | .tup (.tup _ :: _) | .tup (.lst _ :: _) | .lst (.non :: _) | .lst (.bl _ :: _) | .lst (.int _ :: _) | .lst (.tup _ :: _) | .lst (.lst _ :: _)=>by unfold flt;exact Nat.le_refl _
theorem zd7 (sm:List (Str×Str)):∀ ds:List D,depDs (flts sm ds)<=depDs ds
 | []=>Nat.le_refl _
 | d :: ds=>by rw [flts,depDs,depDs];have:=zk0 sm d;have:=zd7 sm ds;omega
end
theorem zb8:∀ {ds:List D},Fls ds->∀ d ∈ ds,Fl d
 | _ :: _,⟨a,b⟩,d,h=>by
  obtain rfl | h:=List.mem_cons.mp h
  ·exact a
  ·exact zb8 b d h
theorem zdM:∀ {ds:List D},(∀ d ∈ ds,Fl d)->Fls ds
 | [],_=>trivial
 | d :: ds,h=>⟨h d List.mem_cons_self,zdM fun e k=>h e (List.mem_cons_of_mem _ k)⟩
theorem znD {n z:Str}{d:D}(h:Fl d):Fls (opn1 n z d):=by
 unfold opn1
 split
 ·rename_i m es
  have k:Fls es:=by unfold Fl at h;exact h
  split
  ·exact k
  ·exact ⟨h,trivial⟩
 ·split
  ·exact trivial
  ·exact ⟨h,trivial⟩
theorem zkc {n z:Str}{ds:List D}(h:Fls ds):Fls (opn n z ds):=zdM fun d k=>by
 obtain ⟨e,h1,h2⟩:=List.mem_flatMap.mp k
 exact zb8 (znD (zb8 h e h1)) d h2
mutual
noncomputable def Nb:D->Prop
 | .tup (_ :: ds)=>ds≠[]/\Nbs ds
 | _=>True
noncomputable def Nbs:List D->Prop
 | []=>True
 | d :: ds=>Nb d/\Nbs ds
end
theorem zfM:∀ {ds:List D},Nbs ds->∀ d ∈ ds,Nb d
 | _ :: _,⟨a,b⟩,d,h=>by
  obtain rfl | h:=List.mem_cons.mp h
  ·exact a
  ·exact zfM b d h
theorem zks:∀ {ds:List D},(∀ d ∈ ds,Nb d)->Nbs ds
 | [],_=>trivial
 | d :: ds,h=>⟨h d List.mem_cons_self,zks fun e k=>h e (List.mem_cons_of_mem _ k)⟩
theorem znC {n z:Str}{d:D}(h:Nb d):Nbs (opn1 n z d):=by
 unfold opn1
 split
 ·rename_i m es
  have k:Nbs es:=by unfold Nb at h;exact h.2
  split
  ·exact k
  ·exact ⟨h,trivial⟩
 ·split
  ·exact trivial
  ·exact ⟨h,trivial⟩
theorem zoM {n z:Str}{ds:List D}(h:Nbs ds):Nbs (opn n z ds):=zks fun d k=>by
 obtain ⟨e,h1,h2⟩:=List.mem_flatMap.mp k
 exact zfM (znC (zfM h e h1)) d h2
theorem zoW {n z:Str}{l:List D}(h:∀ d ∈ l,Nb d):Nb (one n z l):=by
 unfold one
 split
 ·unfold Nb;exact trivial
 ·exact h _ List.mem_cons_self
 ·rename_i l h1 h2
  unfold Nb
  exact ⟨h1,zks h⟩
theorem zkG {sm:List (Str×Str)}{n:Str}{ps:List D}(h:Nbs ps)(ne:ps≠[]):Nb (knot sm n ps):=by
 unfold knot
 split
 ·unfold Nb;exact ⟨ne,h⟩
 ·exact zoW fun d k=>zfM (zoM h) d ((za1 _).mem_iff.mp k)
theorem znB {n:Str}{d:D}(f:Fl d)(b:Nb d):opn1 n ("" : Str) d≠[]:=by
 unfold opn1
 split
 ·split
  ·unfold Nb at b;exact b.1
  ·exact fun z=>nomatch z
 ·split
  ·rename_i e
   exfalso
   cases d with
   | str x =>
    have e:(x == ("" : Str))=true:=e
    have e:=eq_of_beq e
    subst e
    unfold Fl at f
    exact absurd f.1 (by decide)
   | tup xs=>cases e
   | _=>unfold Fl at f;exact f
  ·exact fun z=>nomatch z
theorem zmN {n:Str}:∀ {ps:List D},Fls ps->Nbs ps->ps≠[]->opn n ("" : Str) ps≠[]
 | [],_,_,h=>absurd rfl h
 | d :: ps,⟨f,_⟩,⟨b,_⟩,_=>by
  rw [zd2]
  exact fun z=>znB f b (List.append_eq_nil_iff.mp z).1
theorem zkH {sm:List (Str×Str)}{n:Str}{ps:List D}(hz:∀ r ∈ sm,r.2=("" : Str)∨Fl (.str r.2))(h:Fls ps)(b:Nbs ps)(ne:ps≠[]):Fl (knot sm n ps):=by
 unfold knot
 split
 ·unfold Fl;exact h
 ·rename_i z e
  have fz:z=("" : Str)∨Fl (.str z):=by
   unfold zr at e
   obtain ⟨r,h1,rfl⟩:=Option.map_eq_some_iff.mp e
   exact hz r (List.mem_of_find?_eq_some h1)
  have f1:∀ d ∈ zcf (opn n z ps),Fl d:=fun d k=>zb8 (zkc h) d ((za1 _).mem_iff.mp k)
  unfold one
  split
  ·rename_i e1
   rcases fz with rfl | fz
   ·exfalso
    have:=(za1 (opn n ("" : Str) ps)).length_eq
    rw [e1] at this
    exact zmN h b ne (List.length_eq_zero_iff.mp this.symm)
   ·exact fz
  ·rename_i e;exact f1 _ (by rw [e];exact List.mem_cons_self)
  ·unfold Fl;exact zdM f1
end Lw
namespace L2
open PySem PySem.Spec PyProof.Rows
noncomputable def Itv (K:PySem.W.Frag)(a:Addr)(xs:List V):It :=
 ⟨fun i H=>SqL K H a xs/\i < xs.length,fun i H x H'=>H'=H/\xs[xs.length - 1 - i]?=some x,fun i H=>SqL K H a xs/\i=xs.length⟩
theorem zlv {P:Program}{w:World}{K:PySem.W.Frag}{tg:Expr}(a it:Addr)(xs:List V):Turn P w K tg (Itv K a xs) [it] it (fun i h=>h.IsRevIter it a ((xs.length:Int) - 1 - (i:Int))) where
 mem:=by simp
 obj:=fun i h st b hb=>by
  obtain rfl:b=it:=by simpa using hb
  obtain ⟨o,e,c,d⟩:=st
  exact ⟨o,e,fun v z=>by rw [d] at z;cases z⟩
 keep:=fun i h h' st k=>st.at fun o e=>k it (by simp) o e
 item:=by
  intro X hP hw hK hc i pins s σ H E I hf st hg
  subst hP hw hK
  obtain ⟨hq,hi⟩:=hg
  obtain ⟨its,rv,p,hz⟩:=I.list hq
  have hx:xs[xs.length - 1 - i]?=some xs[xs.length - 1 - i]:=List.getElem?_eq_getElem (by omega)
  obtain ⟨u,hu,ru⟩:=rv.get hx
  obtain ⟨f0,f1,f2,f3,f4,f5⟩:=hf it (by simp)
  have e0:(xs.length:Int) - 1 - (i:Int)=((xs.length - 1 - i:Nat):Int):=by omega
  rw [e0] at st
  refine wpAny_pyNext_rev_item st p.isList (x:=u) (by simpa using hu) fun h' st' sb=>?_
  have I1:Inv X pins σ H { s with heap:=h' }:=I.turned (t':=s.toks) (fun b o hb e=>(sb.2 b hb).trans e) f0 f1 f3 f4 f5
  obtain ⟨o,e,c,d⟩:=id st'
  refine ⟨u,rfl,zkV (s:={ s with heap:=h' }) e c d (by decide) ⟨_,H,I1,ru,⟨rfl,hx⟩,?_,fun b hb=>(hf b hb).1⟩⟩
  have e1:(xs.length:Int) - 1 - ((i + 1:Nat):Int)=((xs.length - 1 - i:Nat):Int) - 1:=by omega
  rw [e1];exact st'
 done:=by
  intro X hP hw hK hc i pins s σ H E I hf st hg
  subst hP hw hK
  obtain ⟨hq,hi⟩:=hg
  obtain ⟨f0,f1,f2,f3,f4,f5⟩:=hf it (by simp)
  have e0:(xs.length:Int) - 1 - (i:Int) = -1:=by omega
  rw [e0] at st
  exact wpAny_pyNext_rev_end (I.ok.hd hc) st fun h' eb=>⟨rfl,I.turned (t':=s.toks) (fun b o hb e=>eb b o hb e) f0 f1 f3 f4 f5⟩
 self:=fun _ _ _ _ _ st h=>wpAny_pyIter_revIter st h
noncomputable def iRev (K:PySem.W.Frag)(ta:TA):TI:=fun σ H R=>ta σ H fun vs H1=>∃ a xs,vs=[.ref a]/\H1 a=some (.lst xs)/\R (Itv K a xs) H1
theorem zgp {X:Cx}{tg:Expr}(K:PySem.W.Frag)(hK:X.K=K){a:Expr}{ta:TA}{p pos:Pos}(hg:Gl X "reversed")(hm:X.mg "reversed" = none)(ha:PA X [a] ta)(hs:starEach [a] X.env=[(false,eval a X.env)]:=by rfl) :
  PI X tg (.Call (.Name "reversed" p) [a] [] pos) (iRev K ta):=by
 subst hK
 intro pins s σ H R I h
 refine Call_ (zfa I hg hm boot_reversed (PyProof.Rows.callWith_type1 (thn (ha pos pins s σ H _ I h) fun us s1 ⟨vs,H1,I1,r1,q1⟩=>?_) hs rfl))
 obtain ⟨l1,xs,e,hx,q⟩:=q1
 subst e
 obtain ⟨u1,rfl,e1⟩:=vals1 r1
 cases e1
 obtain ⟨its,rv,p1,hz1⟩:=I1.list (SqL.of hx)
 refine call_reversed_list p1.isList ?_
 have st:(s1.heap.push (revObj l1 ((its.toArray.size:Int) - 1))).IsRevIter s1.heap.objs.size l1 ((xs.length:Int) - 1 - ((0:Nat):Int)):=⟨_,Heap.get?_push_size _ rfl,rfl,by
  have e:=rv.length
  rw [List.size_toArray,← e]
  simp [revObj]⟩
 refine wpAny_pyIter_revIter (s:={ s1 with heap:=s1.heap.push (revObj l1 ((its.toArray.size:Int) - 1)) }) st ?_
 refine ⟨s1.heap.objs.size,[s1.heap.objs.size],_,_,H1,rfl,I1.kept (t':=s1.toks) fun b o e=>Heap.get?_push_of_some _ e,zlv l1 _ xs,st,fun b hb=>?_,q⟩
 obtain rfl:b=s1.heap.objs.size:=by simpa using hb
 exact I1.fpOk (Nat.le_refl _) (I1.hok.fresh (Nat.le_refl _))
section
variable {g:TG}{tb:TS}{D:Ends}{σ:St}{H:Hp}{K:PySem.W.Frag}
theorem zmm {a:Addr}(xs:List V)(Pv:Nat->St->Hp->Prop)(h0:Pv 0 σ H)(hl:∀ i σ H,i<=xs.length->Pv i σ H->H a=some (.lst xs))
  (hs:∀ i x σ H,i < xs.length->xs[xs.length - 1 - i]?=some x->Pv i σ H->g x σ H fun σ2 H2=>tb { D with nx:=Pv (i + 1),ct:=Pv (i + 1),bk:=D.nx } σ2 H2) (hd:∀ σ H,Pv xs.length σ H->D.nx σ H):ForB (Itv K a xs) g tb D σ H:=by
 refine ⟨fun i m σ H=>m=xs.length - i/\i<=xs.length/\Pv i σ H,⟨xs.length,by simp,Nat.zero_le _,h0⟩,?_⟩
 rintro i m σ H ⟨rfl,hi,p⟩
 have el:=SqL.of (K:=K) (hl i σ H hi p)
 by_cases hlt:i < xs.length
 ·refine .inr ⟨⟨el,hlt⟩,Pv (i + 1),fun σ' H' q=>⟨xs.length - (i + 1),by omega,rfl,hlt,q⟩,fun z H' y=>?_⟩
  obtain ⟨rfl,q⟩:=y
  exact hs i z σ _ hlt q p
 ·have e:i=xs.length:=by omega
  subst e
  exact .inl ⟨⟨el,rfl⟩,hd σ H p⟩
end
end L2
namespace Lw
open PySem L2
section
variable {P:Program}{w:World}{K:PySem.W.Frag}{mg:Str->Option Value}{base:Heap}
mutual
/-- a term: leaves that can be told,names with parts -/
noncomputable def Tm:D->Prop
 | .str x=>1<=x.cps.toList.length/\x.cps.toList.length<=20
 | .tup (.str _ :: ds)=>ds≠[]/\Tms ds
 | .lst (.str _ :: ds)=>ds≠[]/\Tms ds
 | _=>False
noncomputable def Tms:List D->Prop
 | []=>True
 | d :: ds=>Tm d/\Tms ds
end
theorem znb {d:D}(h:Tm d):(∃ x,d = .str x/\1<=x.cps.toList.length/\x.cps.toList.length<=20)∨∃ n ds,(d = .tup (.str n :: ds)∨d = .lst (.str n :: ds))/\ds≠[]/\Tms ds:=by
 unfold Tm at h
 split at h
 ·exact .inl ⟨_,rfl,h⟩
 ·exact .inr ⟨_,_,.inl rfl,h⟩
 ·exact .inr ⟨_,_,.inr rfl,h⟩
 ·exact absurd h id
theorem zfV {sm:List (Str×Str)}{ds:List D}(h:ds≠[]):flts sm ds≠[]:=by
 rw [zbd]
 exact fun z=>h (List.map_eq_nil_iff.mp z)
mutual
theorem ziz {sm:List (Str×Str)}(hz:∀ r ∈ sm,r.2=("" : Str)∨Fl (.str r.2)):∀ {d:D},Tm d->Fl (flt sm d)/\Nb (flt sm d)
 | .tup (.str n :: ds),h=>by
  unfold Tm at h
  obtain ⟨a,b⟩:=zc9 hz h.2
  rw [flt];exact ⟨zkH hz a b (zfV h.1),zkG b (zfV h.1)⟩
 | .lst (.str n :: ds),h=>by
  unfold Tm at h
  obtain ⟨a,b⟩:=zc9 hz h.2
  rw [flt];exact ⟨zkH hz a b (zfV h.1),zkG b (zfV h.1)⟩
 | .str x,h=>by unfold flt;unfold Tm at h;unfold Fl Nb;exact ⟨h,trivial⟩
 | .non,h | .bl _,h | .int _,h | .tup [],h | .lst [],h | .tup (.non :: _),h | .tup (.bl _ :: _),h | .tup (.int _ :: _),h | .tup (.tup _ :: _),h | .tup (.lst _ :: _),h | .lst (.non :: _),h | .lst (.bl _ :: _),h | .lst (.int _ :: _),h | .lst (.tup _ :: _),h | .lst (.lst _ :: _),h=>by unfold Tm at h;exact absurd h id
theorem zc9 {sm:List (Str×Str)}(hz:∀ r ∈ sm,r.2=("" : Str)∨Fl (.str r.2)):∀ {ds:List D},Tms ds->Fls (flts sm ds)/\Nbs (flts sm ds)
 | [],_=>by rw [flts];exact ⟨trivial,trivial⟩
 | d :: ds,⟨a,b⟩=>by rw [flts];exact ⟨⟨(ziz hz a).1,(zc9 hz b).1⟩,⟨(ziz hz a).2,(zc9 hz b).2⟩⟩
end
theorem zn7 {sm:List (Str×Str)}(hz:∀ r ∈ sm,r.2=("" : Str)∨Fl (.str r.2)){ds:List D}(h:Tms ds):Fls (flts sm ds):=(zc9 hz h).1
theorem zf7 {fx:List (Str×Int)}{sm:List (Str×Str)}(so:SignsOk fx sm){x:Str}(h:x ∈ zeros fx):1<=x.cps.toList.length/\x.cps.toList.length<=20:=by
 unfold zeros at h
 obtain ⟨r,h1,rfl⟩:=List.mem_map.mp h
 have:=so.nm r.1 (List.mem_append_left _ (List.mem_map_of_mem ((List.mem_filter.mp h1).1)))
 exact ⟨this.1,Nat.le_trans this.2.1 (by decide)⟩
theorem zdA {fx:List (Str×Int)}{sm:List (Str×Str)}(so:SignsOk fx sm):∀ r ∈ sm,r.2=("" : Str)∨Fl (.str r.2):=fun r hr=>by
 by_cases e:r.2=("" : Str)
 ·exact .inl e
 ·refine .inr ?_
  unfold Fl
  exact zf7 so (so.nought r hr e)
mutual
theorem zlx {fx:List (Str×Int)}{sm:List (Str×Str)}{os:List Str}(so:SignsOk fx sm)(ho:∀ x ∈ os,zaR x):∀ {d:D},IsTm fx sm os d->Tm d/\sz d=lvs d
 | .str x,h=>by
  unfold IsTm at h
  refine ⟨?_,by unfold sz lvs;rfl⟩
  unfold Tm
  rcases h with h | h
  ·obtain ⟨l,rfl,h1,h2,_⟩:=ho x h
   exact ⟨by simp,by simp;omega⟩
  ·exact zf7 so h
 | .tup (.str n :: ds),h=>by
  unfold IsTm at h
  obtain ⟨a,b⟩:=zgf so ho h.2
  have h1:=zfd h.1
  have h2:=zc1 h.2
  refine ⟨?_,by rw [sz,lvs,b];omega⟩
  unfold Tm
  exact ⟨fun z=>by rw [z] at h1;simp at h1,a⟩
 | .lst (.str n :: ds),h=>by
  unfold IsTm at h
  obtain ⟨a,b⟩:=zgf so ho h.2
  have h1:=zfd h.1
  have h2:=zc1 h.2
  refine ⟨?_,by rw [sz,lvs,b];omega⟩
  unfold Tm
  exact ⟨fun z=>by rw [z] at h1;simp at h1,a⟩
 | .non,h | .bl _,h | .int _,h | .tup [],h | .lst [],h | .tup (.non :: _),h | .tup (.bl _ :: _),h | .tup (.int _ :: _),h | .tup (.tup _ :: _),h | .tup (.lst _ :: _),h | .lst (.non :: _),h | .lst (.bl _ :: _),h | .lst (.int _ :: _),h | .lst (.tup _ :: _),h | .lst (.lst _ :: _),h=>by unfold IsTm at h;exact absurd h id
theorem zgf {fx:List (Str×Int)}{sm:List (Str×Str)}{os:List Str}(so:SignsOk fx sm)(ho:∀ x ∈ os,zaR x):∀ {ds:List D},IsTms fx sm os ds->Tms ds/\szs ds=lvss ds
 | [],_=>⟨trivial,rfl⟩
 | d :: ds,⟨a,b⟩=>by
  obtain ⟨c1,c2⟩:=zlx so ho a
  obtain ⟨e1,e2⟩:=zgf so ho b
  exact ⟨⟨c1,e1⟩,by rw [szs,lvss,c2,e2]⟩
end
theorem zeI (x:V)(xs:List V):cutV (x :: xs) (some 1) none=xs:=by
 unfold cutV HT.sIx
 simp
theorem RowS.prs {H:Hp}:∀ {sm:List (Str×Str)} {sv:List V},RowS H sm sv->sv.map (prV H)=(sm.map fun r=>((.inr r.1,V.str r.2):Key×V)).map (fun kv=>some (kV kv.1,kv.2))
 | [],_,e=>by cases e;rfl
 | r :: l,_,⟨t,us,e,h,q⟩=>by
  subst e
  rw [List.map_cons,RowS.prs q]
  unfold prV
  simp only [h]
  rfl
theorem zdB:∀ (more acc:List (Key×V)),((acc ++ more).map (·.1)).Nodup->zcZ acc more=acc ++ more
 | [],acc,_=>by simp [zcZ]
 | p :: r,acc,h=>by
  have e:putK acc p.1 p.2=acc ++ [p]:=by
   unfold putK
   rw [if_neg]
   intro z
   obtain ⟨y,h1,h2⟩:=List.any_eq_true.mp z
   rw [List.map_append,List.map_cons] at h
   exact (List.nodup_append.mp h).2.2 y.1 (List.mem_map_of_mem h1) p.1 List.mem_cons_self (by simpa using h2)
  show zcZ (putK acc p.1 p.2) r=_
  rw [e,zdB r (acc ++ [p]) (by simpa using h)]
  simp
theorem zma {sm:List (Str×Str)}(nd:(sm.map (·.1)).Nodup):zcZ [] (sm.map fun r=>((.inr r.1,V.str r.2):Key×V))=sm.map fun r=>(.inr r.1,V.str r.2):=by
 rw [zdB]
 ·rfl
 ·rw [List.nil_append,List.map_map]
  exact List.pairwise_map.mpr ((List.pairwise_map.mp nd).imp fun h e=>h (Sum.inr.inj e))
theorem zmC (n:Str):∀ sm:List (Str×Str),valV (sm.map fun r=>((.inr r.1,V.str r.2):Key×V)) (.inr n)=(zr sm n).map V.str
 | []=>rfl
 | r :: l=>by
  by_cases e:r.1=n
  ·rw [List.map_cons,zdS (by rw [e])];simp [zr,e]
  ·rw [List.map_cons,zdT (fun z=>e (by cases z;rfl)),zmC n l];simp [zr,e]
mutual
theorem Rep.tups {H H':Hp}(s:TupS H H'):∀ {d:D} {v:V},Fl d->Rep H d v->Rep H' d v
 | .str x,v,_,h=>h
 | .tup (.str n :: ds),v,f,⟨a,vs,e,ha,x,r,e2,hx,hr⟩=>⟨a,vs,e,s _ _ ha,x,r,e2,hx,Reps.tups s (by unfold Fl at f;exact f) hr⟩
 | .non,_,f,_ | .bl _,_,f,_ | .int _,_,f,_ | .lst _,_,f,_ | .tup [],_,f,_ | .tup (.non :: _),_,f,_ | .tup (.bl _ :: _),_,f,_ | .tup (.int _ :: _),_,f,_ | .tup (.tup _ :: _),_,f,_ | .tup (.lst _ :: _),_,f,_=>by unfold Fl at f;exact absurd f id
theorem Reps.tups {H H':Hp}(s:TupS H H'):∀ {ds:List D} {vs:List V},Fls ds->Reps H ds vs->Reps H' ds vs
 | [],_,_,h=>h
 | _ :: _,_,⟨a,b⟩,⟨x,r,e,h1,h2⟩=>⟨x,r,e,Rep.tups s a h1,Reps.tups s b h2⟩
end
theorem zlz (i:Nat)(l:List D):szs (l.take i)<=szs l:=by
 have:=zhi (l.take i) (l.drop i)
 rw [List.take_append_drop] at this
 omega
theorem zlV {n z:Str}:∀ {l:List D},1 < l.length->one n z l = .tup (.str n :: l)
 | [],h=>by simp at h
 | [_],h=>by simp at h
 | _ :: _ :: _,_=>rfl
end
end Lw
namespace Lw
open PySem L2
section
variable {P:Program}{w:World}{K:PySem.W.Frag}{mg:Str->Option Value}{base:Heap}
theorem Reps.rev {H:Hp}:∀ {ds:List D} {vs:List V},Reps H ds vs->Reps H ds.reverse vs.reverse
 | [],_,e=>by cases e;rfl
 | d :: ds,_,⟨x,r,e,a,b⟩=>by subst e;rw [List.reverse_cons,List.reverse_cons];exact Reps.snoc a (Reps.rev b)
end
end Lw
namespace L2
open PySem PySem.Spec PyProof.Rows
noncomputable def revT {α:Type}(xs:List α):List α:=(xs.drop 1).reverse
theorem zgl {α:Type}(x:α)(xs:List α):revT (x :: xs)=xs.reverse:=rfl
theorem zmz (k:Nat):(List.range k).map (fun m=>k - m)=((List.range k).map (fun m=>1 + m)).reverse:=by
 apply List.ext_getElem
 ·simp
 ·intro i h1 h2
  simp at h1 h2 ⊢
  omega
theorem zg8 (its:List Value)(k:Nat)(h:its.length=k + 1):(List.range k).filterMap (fun m=>its.toArray[k - m]?)=(its.drop 1).reverse:=by
 have e:(List.range k).filterMap (fun m=>its.toArray[k - m]?)=((List.range k).map (fun m=>k - m)).filterMap (fun j=>its.toArray[j]?):=by rw [List.filterMap_map];rfl
 rw [e,zmz,List.filterMap_reverse]
 have:=pick_run its.toArray 1 k
 rw [this]
 congr 1
 rw [List.take_of_length_le]
 rw [List.length_drop]
 simp
 omega
theorem zj3 (its:List Value)(h:its≠[]):slicePick its.toArray none (some 0) (some (-1))=(revT its).toArray:=by
 obtain ⟨k,hk⟩:∃ k,its.length=k + 1:=⟨its.length - 1,by have:=List.length_pos_iff.mpr h;omega⟩
 unfold slicePick
 rw [List.size_toArray,hk]
 have e:sliceBounds none (some 0) (some (-1)) (k + 1)=((k:Int),0,-1):=by
  simp only [sliceBounds,Option.getD_some]
  refine Prod.ext ?_ (Prod.ext ?_ rfl)
  ·simp
  ·simp <;> omega
 rw [e]
 have e2:sliceRange (k:Int) 0 (-1)=(List.range k).map fun m=>k - m:=by
  unfold sliceRange
  have c:(if (-1:Int) > 0 then (if (k:Int) < 0 then (0 - (k:Int) + -1 - 1) / -1 else 0) else (if (k:Int) > 0 then ((k:Int) - 0 - -1 - 1) / (- -1) else 0)).toNat=k:=by
   rw [if_neg (by decide)]
   split
   ·have:((k:Int) - 0 - -1 - 1) / (- -1)=k:=by rw [show (- -1:Int)=1 from rfl,Int.ediv_one];omega
    rw [this];omega
   ·omega
  dsimp only
  rw [c]
  refine List.map_congr_left fun m hm=>?_
  have:=List.mem_range.mp hm
  omega
 dsimp only
 rw [e2,List.filterMap_map]
 have:=zg8 its k hk
 unfold revT
 rw [← this]
 rfl
theorem zg9 {prog:Program}{w:World}{A:Around}{E:Value->Shared->Prop}{s:Shared}{sl:Addr}{vl vu vt:Value}{n:Nat}{Q:Int×Int×Nat->Shared->Prop}(hs:s.heap.IsSliceOf sl vl vu vt)(pl:IsPart vl none)(pu:IsPart vu (some 0))(pt:IsPart vt (some (-1)))(hn:1<=n)
  (h:Q ((n:Int) - 1,-1,n - 1) s):wpAny (model prog w) A (Builtin.Slice.sliceApplied (.ref sl) (pure (n:Int))) Q E s:=by
 obtain ⟨os,hos,hcs,hds⟩:=id hs
 unfold Builtin.Slice.sliceApplied Builtin.Slice.sliceFields
 refine wpAny_bind (wpAny_bind (wpAny_field hos hds (x:=vl) rfl (wpAny_bind (wpAny_field hos hds (x:=vu) rfl (wpAny_bind (wpAny_field hos hds (x:=vt) rfl (wpAny_pure ?_)))))))
 refine wpAny_bind (HT.slicePart_ pt ?_)
 show wpAny _ _ (if ((-1:Int) == 0)=true then _ else _) _ _ s
 rw [if_neg (by decide)]
 refine wpAny_bind (HT.slicePart_ pl (wpAny_bind (HT.slicePart_ pu (wpAny_bind (wpAny_pure ?_)))))
 have e1:Builtin.Slice.sliceAdjust none (some 0) (-1) (n:Int)=((n:Int) - 1,0):=by
  unfold Builtin.Slice.sliceAdjust
  refine Prod.ext ?_ ?_
  ·simp
  ·simp
   omega
 have e2:Builtin.Slice.slicePlaces ((n:Int) - 1) 0 (-1)=n - 1:=by
  unfold Builtin.Slice.slicePlaces
  rw [if_neg (by decide)]
  split
  ·rw [show (- -1:Int)=1 from rfl,Int.ediv_one];omega
  ·omega
 show wpAny _ _ (match Builtin.Slice.sliceAdjust none (some 0) (-1) (n:Int) with | (lo,hi)=>pure (lo,(-1:Int),Builtin.Slice.slicePlaces lo hi (-1))) _ _ s
 rw [e1]
 show wpAny _ _ (pure ((n:Int) - 1,(-1:Int),Builtin.Slice.slicePlaces ((n:Int) - 1) 0 (-1))) _ _ s
 rw [e2]
 exact wpAny_pure h
theorem ziR {prog:Program}{w:World}{A:Around}{E:Value->Shared->Prop}{s:Shared}{t sl:Addr}{its:List Value}{vl vu vt:Value}{Q:Value->Shared->Prop}(ht:IsTup s.heap t its.toArray)(hs:s.heap.IsSliceOf sl vl vu vt)(pl:IsPart vl none)(pu:IsPart vu (some 0))(pt:IsPart vt (some (-1)))(hn:its≠[])(hz:its.length<=sizeLine)
  (h:Q (.ref s.heap.objs.size) { s with heap:=s.heap.push { cls:=.type "tuple",data:=.seq (revT its).toArray } }):wpAny (model prog w) A (getItem (.ref t) (.ref sl)) Q E s:=by
 obtain ⟨k,hk⟩:∃ k,its.length=k + 1:=⟨its.length - 1,by have:=List.length_pos_iff.mpr hn;omega⟩
 obtain ⟨os,hos,hcs,hds⟩:=id hs
 have hTs:s.TypeIs (.ref sl) "slice":=⟨os,hos,hcs⟩
 unfold getItem
 try with_reducible refine wpAny_holding ?_
 first | refine wpAny_bind (wpAny_pure ?_) | skip
 refine wpAny_bind (wpAny_sequenceKey ht.typeIs (by decide) ?_)
 refine wpAny_bind (wpAny_callSpecial?_slot (name:=Str.ofString "__getitem__") ht.typeIs PyProof.Rows.slot_tuple_getitem
  (wpAny_call_entry PyProof.Rows.slot_tuple_getitem ht.typeIs entry_tuple_getitem ?_ (args_tuple_getitem _ _)))
 show wpAny _ _ (Builtin.Tuple.tupleItemsOf (.ref t) >>= _) _ _ s
 refine wpAny_bind (tupleItemsOf_ ht ?_)
 refine wpAny_bind (wpAny_typeOf hTs ?_)
 rw [if_pos (by decide)]
 refine wpAny_bind (zg9 (n:=its.toArray.size) hs pl pu pt (by rw [List.size_toArray];omega) ?_)
 dsimp only
 rw [if_neg (by intro q;rw [Bool.and_eq_true,Bool.and_eq_true] at q;exact absurd q.1.2 (by decide))]
 have e:((List.range (its.toArray.size - 1)).filterMap fun (m:Nat)=>its.toArray[(((its.toArray.size:Nat):Int) - 1 + (m:Int) * -1).toNat]?).toArray=(revT its).toArray:=by
  rw [List.size_toArray,hk]
  have q:=zg8 its k hk
  unfold revT
  rw [← q]
  congr 2
  funext m
  congr 1
  omega
 rw [e]
 have hsz:sizeOk (.seq (revT its).toArray):=by
  show (revT its).toArray.size<=sizeLine
  rw [List.size_toArray]
  unfold revT
  rw [List.length_reverse,List.length_drop]
  omega
 first
  | exact wpAny_bind (m:=Builtin.Tuple.tupleExact _) (wpAny_newObj_type (wpAny_pure ⟨_,rfl,wpAny_pure h⟩) hsz)
  | exact wpAny_bind (m:=Builtin.Tuple.tupleExact _) (wpAny_newObj_type (wpAny_bind (wpAny_pure (wpAny_pure ⟨_,rfl,wpAny_pure h⟩))) hsz)
  | exact wpAny_bind (wpAny_bind (m:=Builtin.Tuple.tupleExact _) (wpAny_newObj_type (wpAny_pure (wpAny_pure ⟨_,rfl,wpAny_pure h⟩)) hsz))
  | exact wpAny_bind (wpAny_bind (m:=Builtin.Tuple.tupleExact _) (wpAny_newObj_type (wpAny_pure ⟨_,rfl,wpAny_pure h⟩) hsz))
noncomputable def Sl3R (X:Cx)(r:V->Option Int->Option Int->Option Int->Hp->VK->Prop):Prop :=
 ∀ (pins:List (Addr×Obj)) (s:Shared) (σ:St) (H:Hp) (x:V) (v vl vu vt:Value) (lo hi st:Option Int) (sl:Addr) (Q:VK),Inv X pins σ H s->RelV x v->s.heap.IsSliceOf sl vl vu vt->IsPart vl lo->IsPart vu hi->IsPart vt st->r x lo hi st H Q ->
  ∃ T id,typeLookup (.type T) "__getitem__" = pure (some (.builtin id))/\s.TypeIs v T/\wpAny (model X.prog X.w) X.A (getItem v (.ref sl)) (EP X pins σ Q) X.xe s
noncomputable def tSl3 (r:V->Option Int->Option Int->Option Int->Hp->VK->Prop)(te:TE)(tl th tt:TO):TE:=fun σ H Q=>te σ H fun x H1=>tl σ H1 fun l H2=>th σ H2 fun u H3=>tt σ H3 fun t H4=>r x l u t H4 Q
theorem zew {X:Cx}{e:Expr}{te:TE}{lo hi:Option Expr}{st:Expr}{tl th tt:TO}{pos p2:Pos}{r:V->Option Int->Option Int->Option Int->Hp->VK->Prop}(hr:Sl3R X r)(he:PE X e te)(hl:PO X lo tl)(hu:PO X hi th)(ht:PO X (some st) tt):PE X (.Subscript e (.Slice lo hi (some st) p2) pos) (tSl3 r te tl th tt):=by
 intro pins s σ H Q I h
 refine Subscript_ (thn (he pins s σ H _ I h) fun v s1 ⟨x,H1,I1,r1,q1⟩=>?_)
 refine wpAny_Slice (thn (hl pins s1 σ H1 _ I1 q1) fun vl s2 ⟨l,H2,I2,pl,q2⟩=>thn (hu pins s2 σ H2 _ I2 q2) fun vu s3 ⟨u,H3,I3,pu,q3⟩=>thn (ht pins s3 σ H3 _ I3 q3) fun vt s4 ⟨t,H4,I4,pt,q4⟩=>?_)
 have I5:Inv X pins σ H4 { s4 with heap:=s4.heap.push { cls:=.type "slice",data:=.fields #[vl,vu,vt] } }:=I4.kept (t':=s4.toks) fun b ob q=>Heap.get?_push_of_some _ q
 obtain ⟨T,id,hT,hy,hg⟩:=hr pins _ σ H4 x v vl vu vt l u t s4.heap.objs.size Q I5 r1 (Heap.IsSliceOf.new ..) pl pu pt q4
 exact tail_any (ops:=[v,.ref s4.heap.objs.size]) hy hT hg (by with_unfolding_all rfl)
noncomputable def rBack:V->Option Int->Option Int->Option Int->Hp->VK->Prop:=fun x lo hi st H Q=>lo=none/\hi=some 0/\st=some (-1)/\∃ a xs,x = .ref a/\SeqV H a xs/\xs≠[] /\
 ∀ p o,H p=none->(o = .lst (revT xs)/\H a=some (.lst xs)∨o = .tup (revT xs)/\H a=some (.tup xs))->Q (.ref p) (upd H p o)
theorem Vals.revT {xs:List V}{us:List Value}(h:Vals xs us):Vals (revT xs) (L2.revT us):=(h.drop 1).reverse
theorem zh7 {α:Type}(xs:List α):(revT xs).length<=xs.length:=by unfold revT;rw [List.length_reverse,List.length_drop];omega
theorem zjv {xs:List V}{us:List Value}(h:Vals xs us)(n:xs≠[]):us≠[]:=fun z=>by
 have:=h.length
 rw [z] at this
 exact n (List.length_eq_zero_iff.mp this)
theorem zjU {X:Cx}:Sl3R X rBack:=by
 intro pins s σ H x v vl vu vt lo hi st sl Q I rx hs pl pu pt h
 obtain ⟨rfl,rfl,rfl,a,xs,rfl,ha | ha,hn,q⟩:=h
 ·cases rx
  obtain ⟨its,r,hl,hz⟩:=I.list (SqL.of ha)
  refine ⟨"list",_,slot_list_getitem.lookup,hl.isList.typeIs,?_⟩
  have hlen:=r.length
  refine wpAny_getItem_list_slice hl.isList hs pl pu pt (by decide) ?_ (by rw [List.size_toArray] <;> omega)
  rw [zj3 its (zjv r hn)]
  refine ⟨.ref s.heap.objs.size,_,I.laid (t':=s.toks) (o:=.lst (revT xs)) (fun b ob q=>Heap.get?_push_of_some _ q) (Nat.le_refl _) ?_,rfl,q _ _ (I.hok.fresh (Nat.le_refl _)) (.inl ⟨rfl,ha⟩)⟩
  exact ⟨Nat.le_trans (zh7 xs) hz,_,0,r.revT,Heap.get?_push_size _ rfl⟩
 ·cases rx
  obtain ⟨its,r,hl,hz⟩:=I.tuple (SqT.of ha)
  refine ⟨"tuple",_,PyProof.Rows.slot_tuple_getitem.lookup,hl.typeIs,?_⟩
  have hlen:=r.length
  refine ziR hl hs pl pu pt (zjv r hn) (by omega) ?_
  refine ⟨.ref s.heap.objs.size,_,I.laid (t':=s.toks) (o:=.tup (revT xs)) (fun b ob q=>Heap.get?_push_of_some _ q) (Nat.le_refl _) ?_,rfl,q _ _ (I.hok.fresh (Nat.le_refl _)) (.inr ⟨rfl,ha⟩)⟩
  exact ⟨Nat.le_trans (zh7 xs) hz,_,r.revT,⟨_,Heap.get?_push_size _ rfl,rfl,_,rfl⟩⟩
noncomputable def rExtU:V->List V->Hp->VK->Prop:=fun x vs H Q=>∃ l b xs zs,x = .ref l/\vs=[.ref b]/\H l=some (.lst xs)/\SeqV H b zs/\xs.length + zs.length<=sizeLine/\Q .non (upd H l (.lst (xs ++ zs)))
theorem zob {l b:Addr}{its its2:Array Value}{n n2:Nat}{od:Option Addr}{osl:Array (Option Value)}(h0:(!its.isEmpty && Builtin.List.listTooLong (its.size + its2.size))=false)(h1:its.size<=sizeLine)(h2:its.size + its2.size<=sizeLine + 1) :
  Meets (Builtin.«list.extend» ⟨[.ref l,.ref b],[]⟩) (fun _ R s=>s.heap.get? l=some { cls:=.type "list",data:=.seq its n }/\s.heap.get? b=some ⟨.type "tuple",od,.seq its2 n2,osl⟩ /\
   R (.ok (.ret .none)) { s with heap:=s.heap.update l (Obj.mapSeq fun x=>x ++ its2) }):=by
 refine .of_wp fun prog w A R s1 h=>?_
 obtain ⟨hp,g,d,tk,os⟩:=s1
 obtain ⟨hl,hb,h⟩:=h
 have h0:¬ (!its.isEmpty && Builtin.List.listTooLong (its.size + its2.size))=true:=by rw [h0];decide
 have f1:=AutoSeq1.idx_int
 have f4:=AutoSeq1.sub_tuple_list
 have f5:=AutoSeq1.sub_list_tuple
 have h3:(its ++ its2).size<=sizeLine + 1:=by
  rw [Array.size_append]
  exact h2
 wp_walk using (wpAny_updateSeq hl rfl (hz:=h1) (_hz':=h3)),
  wpAny_loadPart' hl,wpAny_loadPart' hb
 exact ⟨_,rfl,h⟩
theorem zez {X:Cx}:MtM X "list.extend" rExtU:=by
 intro pins s σ H x vs v us Q I rx rv h
 obtain ⟨l,b,xs,zs,hx,hv,hH,hB | hB,hz,q⟩:=h
 ·exact zkv pins s σ H x vs v us Q I rx rv ⟨l,b,xs,zs,hx,hv,hH,hB,hz,q⟩
 subst hx hv
 cases rx
 obtain ⟨u,rfl,ru⟩:=rv.one
 cases ru
 obtain ⟨z,its,n,r,hl,e⟩:=I.lstM hH
 obtain ⟨its2,r2,⟨⟨oc,od,odt,osl⟩,e2,c2,n2,d2⟩,z2⟩:=I.tuple (SqT.of hB)
 cases c2
 cases d2
 have hl2:=r2.length
 have hsz:its.toArray.size + its2.toArray.size<=sizeLine:=by rw [List.size_toArray,List.size_toArray];omega
 have m:=zob (l:=l) (b:=b) (its:=its.toArray) (its2:=its2.toArray) (n:=n) (n2:=n2) (od:=od) (osl:=osl) (by rw [zfJ hsz,Bool.and_false]) (by rw [List.size_toArray];omega) (by omega)
 refine call_meets F.slot_list_extend ⟨_,e,rfl⟩ F.entry_list_extend (F.args_list_extend_2 _ _) m ⟨e,e2,?_⟩
 refine ⟨.non,_,I.lset (its':=its ++ its2) hH e (by simp) (r.append r2) ?_,rfl,q⟩
 rw [List.length_append]
 omega
noncomputable def tl1 (z:Str):Str:=⟨(z.cps.toList.drop 1).toArray⟩
noncomputable def rSlTx:V->Option Int->Option Int->Hp->VK->Prop:=fun x lo hi H Q=>∃ z,x = .str z/\lo=some 1/\hi=none/\1<=z.length/\z.length<=sizeLine/\Q (.str (tl1 z)) H
theorem zj2 (z:Str)(h:1<=z.length)(u:Tok):slicePicked z (some (1,u)) none none=(List.range (z.length - 1)).map fun m=>1 + m:=by
 show Builtin.Str.strSliceIndices (some 1) none 1 z.length=_
 unfold Builtin.Str.strSliceIndices;dsimp only
 rw [if_neg (show ¬ (1:Int) < 0 by decide),if_pos (show (1:Int) > 0 by decide),if_pos (show (1:Int) > 0 by decide)]
 have e:max 0 (min 1 (z.length:Int))=1:=by omega
 rw [e]
 unfold sliceRange
 dsimp only
 rw [if_pos (by decide)]
 have c:(if (1:Int) < (z.length:Int) then ((z.length:Int) - 1 + 1 - 1) / 1 else 0).toNat=z.length - 1:=by
  split
  ·rw [Int.ediv_one];omega
  ·omega
 rw [c]
 refine List.map_congr_left fun m _=>?_
 omega
theorem zoz {X:Cx}:SlR X rSlTx:=by
 intro pins s σ H x v vl vu lo hi sl Q I rx hs pl pu h
 obtain ⟨z,rfl,rfl,rfl,h1,hz,q⟩:=h
 obtain ⟨t,rfl⟩:=rx
 cases pl
 rename_i tk
 cases pu
 refine ⟨"str",_,F.slot_str_getitem.lookup,typeIs_str _ _ _,?_⟩
 refine wpAny_getItem_str_slice (l:=some (1,tk)) (u:=none) (st:=none) hs rfl ?_
 have hp:=zj2 z h1 tk
 unfold sliceMade
 rw [hp,if_neg (by intro w;rw [Bool.and_eq_true] at w;have:=eq_of_beq w.2;simp at this;omega)]
 have e:(((List.range (z.length - 1)).map fun m=>1 + m).filterMap (z.cps[·]?)).toArray=(z.cps.toList.drop 1).toArray:=by
  have:=pick_run z.cps 1 (z.length - 1)
  rw [this]
  congr 1
  rw [List.take_of_length_le]
  rw [List.length_drop,Array.length_toList]
  exact Nat.le_refl _
 rw [e]
 refine ⟨?_,.str (tl1 z),H,I.tok _,⟨_,rfl⟩,q⟩
 show (z.cps.toList.drop 1).toArray.size<=sizeLine
 have hd:(z.cps.toList.drop 1).length=z.cps.size - 1:=by simp
 rw [List.size_toArray,hd]
 exact Nat.le_trans (Nat.sub_le _ _) hz
noncomputable def Itx (z:Str):It:=⟨fun i _=>i < z.cps.size,fun i H x H'=>H'=H/\∃ c,z.cps[i]?=some c/\x = .str ⟨#[c]⟩,fun i _=>i=z.cps.size⟩
theorem zlu {P:Program}{w:World}{K:PySem.W.Frag}{tg:Expr}(it:Addr)(z:Str)(t:Tok):Turn P w K tg (Itx z) [it] it (fun i h=>h.IsStrIter it "str_ascii_iterator" z t i) where
 mem:=by simp
 obj:=fun i h st b hb=>by
  obtain rfl:b=it:=by simpa using hb
  obtain ⟨o,e,c,d⟩:=st
  exact ⟨o,e,fun v q=>by rw [d] at q;cases q⟩
 keep:=fun i h h' st k=>by
  obtain ⟨o,e,r⟩:=st
  exact ⟨o,k it (by simp) o e,r⟩
 item:=by
  intro X hP hw hK hc i pins s σ H E I hf st hg
  subst hP hw hK
  obtain ⟨f0,f1,f2,f3,f4,f5⟩:=hf it (by simp)
  have W:=Walks.strAscii (prog:=X.prog) (w:=X.w) (I.ok.hd hc) it z t
  refine W.item i s _ _ hg st fun v h' tk hv st' kk=>?_
  obtain ⟨c,u,hcu,rfl⟩:=hv
  have I1:Inv X pins σ H { s with heap:=h',toks:=tk }:=I.turned (fun b o hb e=>kk b o (by simpa using hb) e) f0 f1 f3 f4 f5
  obtain ⟨o,e,cc,d⟩:=id st'
  exact ⟨_,rfl,zkV (s:={ s with heap:=h',toks:=tk }) e cc d (by decide) ⟨.str ⟨#[c]⟩,H,I1,⟨u,rfl⟩,⟨rfl,c,hcu,rfl⟩,st',fun b hb=>(hf b hb).1⟩⟩
 done:=by
  intro X hP hw hK hc i pins s σ H E I hf st hg
  subst hP hw hK
  obtain ⟨f0,f1,f2,f3,f4,f5⟩:=hf it (by simp)
  have hg:i=z.cps.size:=hg
  subst hg
  exact wpAny_pyNext_ascii_end (I.ok.hd hc) st (by simp) fun h' eb=>⟨rfl,I.turned (t':=s.toks) (fun b o hb e=>eb b o hb e) f0 f1 f3 f4 f5⟩
 self:=fun _ _ _ _ _ st h=>wpAny_pyIter_striter_ascii st h
noncomputable def iTxt (te:TE):TI:=fun σ H R=>te σ H fun x H1=>∃ z:Str,x = .str z/\z.cps.all (· < 128)=true/\R (Itx z) H1
theorem zj4 {X:Cx}{tg e:Expr}{te:TE}(he:PE X e te):PI X tg e (iTxt te):=by
 intro pins s σ H R I h
 refine thn (he pins s σ H _ I h) fun v s1 ⟨x,H1,I1,r1,q1⟩=>?_
 obtain ⟨z,rfl,ha,q⟩:=q1
 obtain ⟨t,rfl⟩:=r1
 refine wpAny_pyIter_ascii ha ?_
 refine ⟨s1.heap.objs.size,[s1.heap.objs.size],_,_,H1,rfl,I1.kept (t':=s1.toks) fun b o e=>Heap.get?_push_of_some _ e,zlu _ z t,⟨_,Heap.get?_push_size _ rfl,rfl,rfl⟩,fun b hb=>?_,q⟩
 obtain rfl:b=s1.heap.objs.size:=by simpa using hb
 exact I1.fpOk (Nat.le_refl _) (I1.hok.fresh (Nat.le_refl _))
end L2
namespace L2
open PySem PySem.Spec PyProof.Rows
section
variable {X:Cx}{CX:CXT}{k:Nat}{sp:Sp}{E:XK}{x m:Str}{C:Addr}{p pos apos:Pos}{o e:Expr}{es:List Expr}{ta:TE}{t:TA}
theorem zii {pl:Sem Bool}(O:OwnM X.prog X.w X.K X.mg X.base CX k C m sp)(hr:Room k X.A)(hx:Passes CX X E)(he:PE X o ta)(ha:PA X (e :: es) t)
  (hst:starEach (e :: es) X.env=(false,eval e X.env) :: starEach es X.env:=by rfl) (hpl:(backTo pos (starEach es X.env)).any (·.1)=false:=by rfl)
  (ht:eval (.Call (.Attribute o m apos) (e :: es) [] pos) X.env=(do
   let ov ← eval o X.env
   standAt apos.atName
   let (f,first) ← holding [ov] (getMethod ov m pl)
   callWith pos f first (backTo pos (starEach (e :: es) X.env)) (backToKw pos (keywordEach [] X.env))):=by rfl):PE X (.Call (.Attribute o m apos) (e :: es) [] pos) (tMeth C m sp [] E ta t):=by
 obtain ⟨f,fd,ps,F,M,hb,c⟩:=O
 exact zns he c M F hr hb .nil hx ha hst hpl ht
noncomputable def OwnC (P:Program)(w:World)(K:PySem.W.Frag)(mg:Str->Option Value)(base:Heap)(CX:CXT)(k:Nat)(x:Str)(C:Addr)(sp:Sp):Prop :=
 ∃ f fd ps,FnOk P w K mg base CX k f fd ps sp/\mg x=some (.ref C)/\Mk K C f/\Binds K fd ps []
theorem zpB (O:OwnC X.prog X.w X.K X.mg X.base CX k x C sp)(hr:Room (k + 1) X.A)(hx:Passes CX X E)(hg:Gl X x)(ha:PA X (e :: es) t)(hdb:(x == ("__debug__" : Str))=false:=by decide)
  (he:starEach (e :: es) X.env=(false,eval e X.env) :: starEach es X.env:=by rfl) (hpl:(backTo pos (starEach es X.env)).any (·.1)=false:=by rfl):PE X (.Call (.Name x p) (e :: es) [] pos) (tMake C sp [] E t):=by
 obtain ⟨f,fd,ps,F,hm,M,hb⟩:=O
 exact znt M F hr hg hm hb .nil hx ha hdb he hpl
end
section
variable {g:TG}{tt:TT}{te:TE}{Q:VK}{σ:St}{H:Hp}
theorem zgV {z:Str}(Pv:Nat->List V->St->Hp->Prop)(h0:Pv 0 [] σ H)(hs:∀ i c acc σ H,z.cps[i]?=some c->Pv i acc σ H->CStep g tt te (.str ⟨#[c]⟩) acc σ H (Pv (i + 1)))
  (hd:∀ acc σ H,Pv z.cps.size acc σ H->∀ p,H p=none->Q (.ref p) (upd H p (.lst acc))):CompB (Itx z) g tt te Q σ H :=
 zd9 (n:=z.cps.size) Pv h0 (fun i acc σ H hi p=>⟨hi,fun x H' y=>by obtain ⟨rfl,c,hc,rfl⟩:=y;exact hs i c acc σ _ hc p⟩) fun acc σ H p=>⟨rfl,hd acc σ H p⟩
end
noncomputable def inTx (z:Str)(c:Nat):Bool:=!(Builtin.Str.occurrences z ⟨#[c]⟩ 0 z.length 1).isEmpty
end L2
namespace Lw
open PySem L2
section
variable {P:Program}{w:World}{K:PySem.W.Frag}{mg:Str->Option Value}{base:Heap}
noncomputable def mulO (fx:List (Str×Int))(n:Str):Option Int:=(fx.find? fun r=>decide (r.1=n)).map (·.2)
noncomputable def mulV (fx:List (Str×Int))(n:Str):V:=((mulO fx n).map V.int).getD .non
noncomputable def nulV (sm:List (Str×Str))(n:Str):V:=((zr sm n).map V.str).getD .non
theorem zmD (n:Str):∀ fx:List (Str×Int),valV (fx.map fun r=>((.inr r.1,V.int r.2):Key×V)) (.inr n)=(mulO fx n).map V.int
 | []=>rfl
 | r :: l=>by
  by_cases e:r.1=n
  ·rw [List.map_cons,zdS (by rw [e])];simp [mulO,e]
  ·rw [List.map_cons,zdT (fun z=>e (by cases z;rfl)),zmD n l];simp [mulO,e]
structure SgAt (K:PySem.W.Frag)(C:Addr)(fx:List (Str×Int))(sm:List (Str×Str))(H:Hp)(g:Addr):Prop where
 cls:Cls K C
 n1:zcA K C "many_by_name"
 n2:zcA K C "nought_by_name"
 ex:∃ dx fs dm dn,H g=some (.ins C dx fs)/\fs.lookup ("many" : Str)=none/\fs.lookup ("nought" : Str)=none/\fs.lookup ("many_by_name" : Str)=some (.ref dm)/\fs.lookup ("nought_by_name" : Str)=some (.ref dn) /\
  H dm=some (.dK (fx.map fun r=>(.inr r.1,.int r.2)))/\H dn=some (.dK (sm.map fun r=>(.inr r.1,.str r.2)))
theorem SgAt.same {C:Addr}{fx:List (Str×Int)}{sm:List (Str×Str)}{H H':Hp}{g:Addr}(h:SgAt K C fx sm H g)(s:Same H H'):SgAt K C fx sm H' g:=by
 obtain ⟨a,b,c,dx,fs,dm,dn,h1,h2,h3,h4,h5,h6,h7⟩:=h
 exact ⟨a,b,c,dx,fs,dm,dn,s _ _ h1,h2,h3,h4,h5,s _ _ h6,s _ _ h7⟩
noncomputable def zjP (K:PySem.W.Frag)(C:Addr):Sp:=fun vs H Q _=>∃ (g:Addr) (n:Str) (fx:List (Str×Int)) (sm:List (Str×Str)),vs=[.ref g,.str n]/\SgAt K C fx sm H g/\Q (mulV fx n) H
theorem znP {f C:Addr}{fd:FuncData}(F:Fun K "many" "Signs.many" zba f fd)(T:Txt mg):FnOk P w K mg base CX0 1 f fd zcQ (zjP K C):=by
 refine F.ok zfE (fun vs H Q E h=>?_) (fun cdv A outer s H vs Q E hr h=>?_)
 ·obtain ⟨g,n,fx,sm,rfl,_⟩:=h
  rfl
 ·obtain ⟨g,n,fx,sm,rfl,⟨c1,c2,c3,dx,fs,dm,dn,h1,h2,h3,h4,h5,h6,h7⟩,q⟩:=h
  have hu:=hr.units
  refine ⟨_,(zag (zao (zdk (zal K rfl (zaj zai rfl T.n_isinstance rfl (zaa (pv 1) (zaa (zaD (v:=V.ty "str") rfl T.n_str rfl rfl) zae))) (fun _=>rfl)) (zij (Nat.lt_of_le_of_lt (Nat.add_le_add_left (by decide) _) hu) (zmM (pv 0) rfl) (pv 1) ⟨rfl,rfl,rfl,rfl⟩) zex))),?_⟩
  simp only [zdQ]
  clear hr F T hu
  have d6:=DGet.k (k:=.inr n) h6
  rw [zmD] at d6
  have keep:=And.intro q (And.intro c1 (And.intro c2 (And.intro h1 (And.intro h4 (And.intro h6 d6)))))
  clear q c1 c2 c3 h1 h2 h3 h4 h5 h6 h7 d6
  walk_at "rd"
  obtain ⟨q,c1,c2,h1,h4,h6,d6⟩:=keep
  refine ⟨true,rfl,?_⟩
  rw [if_pos rfl]
  exact ⟨_,rfl,g,C,dx,fs,_,rfl,h1,c1,c2,h4,dm,rfl,.inl ⟨_,.inl h6⟩,_,rfl,_,d6,q⟩
noncomputable def zdX (K:PySem.W.Frag)(C:Addr):Sp:=fun vs H Q _=>∃ (g:Addr) (n:Str) (fx:List (Str×Int)) (sm:List (Str×Str)),vs=[.ref g,.str n]/\SgAt K C fx sm H g/\Q (nulV sm n) H
theorem zkj {f C:Addr}{fd:FuncData}(F:Fun K "nought" "Signs.nought" zaO f fd)(T:Txt mg):FnOk P w K mg base CX0 1 f fd zca (zdX K C):=by
 refine F.ok zep (fun vs H Q E h=>?_) (fun cdv A outer s H vs Q E hr h=>?_)
 ·obtain ⟨g,n,fx,sm,rfl,_⟩:=h
  rfl
 ·obtain ⟨g,n,fx,sm,rfl,⟨c1,c2,c3,dx,fs,dm,dn,h1,h2,h3,h4,h5,h6,h7⟩,q⟩:=h
  have hu:=hr.units
  refine ⟨_,(zag (zao (zdk (zal K rfl (zaj zai rfl T.n_isinstance rfl (zaa (pv 1) (zaa (zaD (v:=V.ty "str") rfl T.n_str rfl rfl) zae))) (fun _=>rfl)) (zij (Nat.lt_of_le_of_lt (Nat.add_le_add_left (by decide) _) hu) (zmM (pv 0) rfl) (pv 1) ⟨rfl,rfl,rfl,rfl⟩) zex))),?_⟩
  simp only [zc0]
  clear hr F T hu
  have d7:=DGet.k (k:=.inr n) h7
  rw [zmC] at d7
  have keep:=And.intro q (And.intro c1 (And.intro c3 (And.intro h1 (And.intro h5 (And.intro h7 d7)))))
  clear q c1 c2 c3 h1 h2 h3 h4 h5 h6 h7 d7
  walk_at "rd"
  obtain ⟨q,c1,c3,h1,h5,h7,d7⟩:=keep
  refine ⟨true,rfl,?_⟩
  rw [if_pos rfl]
  exact ⟨_,rfl,g,C,dx,fs,_,rfl,h1,c1,c3,h5,dn,rfl,.inl ⟨_,.inl h7⟩,_,rfl,_,d7,q⟩
theorem zpz {c:Nat}(h:isWd c):inTx "abcdefghijklmnopqrstuvwxyz0123456789" c=true:=by
 have a:∀ j:Fin 26,inTx "abcdefghijklmnopqrstuvwxyz0123456789" (97 + j.1)=true:=by decide +kernel
 have b:∀ j:Fin 10,inTx "abcdefghijklmnopqrstuvwxyz0123456789" (48 + j.1)=true:=by decide +kernel
 unfold isWd at h
 rcases h with h | h
 ·have:=a ⟨c - 97,by omega⟩
  rw [show 97 + (c - 97)=c by omega] at this
  exact this
 ·have:=b ⟨c - 48,by omega⟩
  rw [show 48 + (c - 48)=c by omega] at this
  exact this
theorem zir {H:Hp}{z:Str}(h:z.length<=sizeLine):lenV H (.str z)=some z.length:=if_pos h
theorem zhL {H:Hp}{z:Str}{i:Int}(h:z.length<=sizeLine):ixV H (.str z) (.int i)=(atI z.cps.toList i).map fun c=>.str ⟨#[c]⟩:=if_pos h
noncomputable def zjL:Sp:=fun vs H Q _=>∃ x:Str,vs=[.str x]/\(zaR x∨zcR x)/\∀ H',Same H H'->(zaR x->Q (.bl true) H')/\(zcR x->Q (.bl false) H')
theorem znJ {f:Addr}{fd:FuncData}(F:Fun K "is_wish" "is_wish" zbE f fd)(T:Txt mg):FnOk P w K mg base CX0 1 f fd zeO zjL:=by
 refine F.ok ziU (fun vs H Q E h=>?_) (fun cdv A outer s H vs Q E hr h=>?_)
 ·obtain ⟨x,rfl,_⟩:=h
  rfl
 ·obtain ⟨x,rfl,hx,q⟩:=h
  have hu:=hr.units
  refine ⟨_,(zaf (zaT (PW.pt (zdz (za4 (zal K rfl (zaj zai rfl T.n_isinstance rfl (zaa (pv 0) (zaa (zaD (v:=V.ty "str") rfl T.n_str rfl rfl) zae))) (fun _=>rfl))) (zcG (za4 (zdi zfH zfH zah (zaj zaM rfl T.n_len rfl (zaa (pv 0) zae)) (zbL T.c_LONGEST_WISH rfl)))))) (zag (zao zgr)) zaq)
   (zag (zao (zj9 (zbW (zbr hu) (zbg ix_F (pv 0) zah (fun _ _=>rfl)) zbf (nomark _)) (zih (zaj (zeL rfl) rfl T.n_all rfl (zaa (zbV rfl (CompSc.by (N:=zeR) (names:=(zad zbE).names) (N':=["sign"]) (src:=[none]) (by decide +kernel) rfl rfl) (zj4 (zcn zoz (pv 0) (zbH zah) zbT)) (fun _ _ _ _=>(zaC (i:=0) (show List.Nodup (["sign"]:List Str) by decide +kernel) rfl (Or.inl rfl))) (fun _ _ _ _=>zbx) (fun _ _ _ _=>(zbW zdm (pv 0) (zbL T.c_WISH_SIGNS rfl) (by with_unfolding_all rfl)))) zae))))))),?_⟩
  simp only [zeR]
  clear hr F T hu
  have keep:=And.intro q hx
  clear q hx
  walk_at "rd"
  obtain ⟨q,hx⟩:=keep
  have hl:x.length<=20:=by
   rcases hx with ⟨l,rfl,_,h2,_⟩ | h
   ·show (63 :: l).toArray.size<=20
    rw [List.size_toArray,List.length_cons];omega
   ·have:=h.2.1
    rw [Array.length_toList] at this
    exact Nat.le_trans this (by decide)
  have hz:x.length<=sizeLine:=Nat.le_trans hl (by decide)
  refine ⟨true,rfl,?_⟩
  rw [if_neg (by decide)]
  refine ⟨.int x.length,by rw [zir hz];rfl,_,rfl,?_⟩
  rcases hx with hw | hn
  ·obtain ⟨l,rfl,h1,h2,h3⟩:=id hw
   have el:(Str.mk (63 :: l).toArray).length=l.length + 1:=by show (63 :: l).toArray.size=_;rw [List.size_toArray,List.length_cons]
   have q1:=fun H' s'=>(q H' s').1 hw
   have ix:ixV H (.str ⟨(63 :: l).toArray⟩) (.int 0)=some (.str ⟨#[63]⟩):=by
    rw [zhL hz]
    show (atI (63 :: l).toArray.toList 0).map _=_
    rw [List.toList_toArray,atI_zero]
    rfl
   rw [if_pos (by rw [el];omega)]
   refine ⟨_,rfl,?_⟩
   rw [if_neg (by rw [el];omega)]
   refine ⟨_,ix,?_⟩
   rw [rEqD_ss]

   refine ⟨_,rfl,?_⟩
   have e63:decide ((⟨#[63]⟩:Str)=Str.ofString "?")=true:=by decide +kernel
   rw [if_pos e63]
   have et:tl1 ⟨(63 :: l).toArray⟩=⟨l.toArray⟩:=by unfold tl1;simp
   refine ⟨_,rfl,1,rfl,⟨(63 :: l).toArray⟩,rfl,rfl,rfl,by rw [el];omega,hz,tl1 ⟨(63 :: l).toArray⟩,rfl,?_,?_⟩
   ·rw [et]
    simp only [List.all_toArray,List.all_eq_true,decide_eq_true_eq]
    intro c hc
    have:=h3 c hc
    unfold isWd at this
    omega
   ·rw [et]
    refine zgV (fun i acc σ H'=>H'=H/\acc=(List.replicate i true).map V.bl/\i<=8/\∃ o:Option V,σ=[o]) ⟨rfl,rfl,by decide,none,rfl⟩ ?_ ?_
    ·rintro i c acc σ H' hc ⟨rfl,rfl,hi,o,rfl⟩
     have hc':l[i]?=some c:=by simpa using hc
     have hm:c ∈ l:=List.mem_of_getElem? hc'
     have hi':i < l.length:=(List.getElem?_eq_some_iff.mp hc').1
     refine ⟨_,rfl,_,rfl,_,rfl,?_⟩
     have e:=zpz (h3 c hm)
     unfold inTx at e
     dsimp only
     refine ⟨Nat.lt_of_le_of_lt (m:=100) (by simp;omega) (by decide),rfl,?_,by omega,_,rfl⟩
     rw [e,List.replicate_succ',List.map_append]
     rfl
    ·rintro acc σ H' ⟨rfl,rfl,hi,o,rfl⟩ p hp
     refine ⟨p,rfl,List.replicate _ true,upd_same,?_⟩
     have:(List.replicate (Str.mk l.toArray).cps.size true).all id=true:=by simp
     rw [this]
     exact q1 _ (Same.upd hp)
  ·have q1:=fun H' s'=>(q H' s').2 hn
   by_cases h2:(2:Int)<=x.length
   ·rw [if_pos h2]
    refine ⟨_,rfl,?_⟩
    have:=hn.2.1
    rw [Array.length_toList] at this
    have e9:(x.length:Int)<=9:=by show (x.cps.size:Int)<=9;omega
    rw [if_neg (by omega)]
    cases hc:x.cps.toList with
    | nil=>have:=hn.1;rw [hc] at this;simp at this
    | cons c r =>
     have hcc:=hn.2.2 c (by rw [hc];exact List.mem_cons_self)
     refine ⟨.str ⟨#[c]⟩,by rw [zhL hz,hc,atI_zero];rfl,?_⟩
     rw [rEqD_ss]
     refine ⟨_,rfl,?_⟩
     rw [if_neg]
     ·exact q1 _ (Same.refl _)
     ·intro w
      have:=of_decide_eq_true w
      have e:(⟨#[c]⟩:Str).cps=(Str.ofString "?").cps:=by rw [this]
      have e2:(Str.ofString "?").cps = #[63]:=by decide +kernel
      rw [e2] at e
      have:c=63:=by simpa using e
      omega
   ·rw [if_neg h2]
    exact q1 _ (Same.refl _)
theorem zin {fx:List (Str×Int)}{sm:List (Str×Str)}(so:SignsOk fx sm){n:Str}{k:Int}(h:(n,k) ∈ fx):mulO fx n=some k:=by
 have nd:=(List.nodup_append.mp so.nd).1
 unfold mulO
 clear so
 induction fx with
 | nil=>cases h
 | cons r l ih =>
  rw [List.map_cons,List.nodup_cons] at nd
  obtain rfl | h:=List.mem_cons.mp h
  ·simp
  ·have ne:r.1≠n:=fun e=>nd.1 (by rw [e];exact List.mem_map_of_mem (f:=(·.1)) h)
   rw [List.find?_cons,decide_eq_false ne]
   exact ih h nd.2
theorem zm5 {sm:List (Str×Str)}{n:Str}(h:n ∉ sm.map (·.1)):zr sm n=none:=by
 unfold zr
 rw [List.find?_eq_none.mpr]
 ·rfl
 ·intro r hr e
  exact h (List.mem_map.mpr ⟨r,hr,of_decide_eq_true e⟩)
theorem zm4 {sm:List (Str×Str)}{n:Str}(h:n ∈ sm.map (·.1)):∃ z,zr sm n=some z:=by
 obtain ⟨r,hr,e⟩:=List.mem_map.mp h
 cases q:sm.find? (fun r=>decide (r.1=n)) with
 | none=>exact absurd (decide_eq_true e) (List.find?_eq_none.mp q r hr)
 | some z=>exact ⟨z.2,by unfold zr;rw [q];rfl⟩
noncomputable def zhu (K:PySem.W.Frag)(C:Addr):Sp:=fun vs H Q _=>∃ (g:Addr) (fx:List (Str×Int)) (sm:List (Str×Str)) (os:List Str) (d:D) (v:V),vs=[.ref g,v]/\SgAt K C fx sm H g/\SignsOk fx sm/\(∀ x ∈ os,zaR x)/\Rep H d v/\IsTm fx sm os d/\lvs d<=100/\∀ H',Same H H'->Q (.bl true) H'
theorem zl8 {f C:Addr}{fd:FuncData}(F:Fun K "is_built" "is_built" zbu f fd)(T:Txt mg)(O_is_wish:Own P w K mg base CX0 1 "is_wish" zjL)(M_many:OwnM P w K mg base CX0 1 C "many" (zjP K C))(M_nought:OwnM P w K mg base CX0 1 C "nought" (zdX K C)):FnOk P w K mg base CX0 2 f fd zdH (zhu K C):=by
 refine F.ok zhw (fun vs H Q E h=>?_) (fun cdv A outer s H vs Q E hr h=>?_)
 ·obtain ⟨g,fx,sm,os,d,v,rfl,_⟩:=h
  rfl
 ·obtain ⟨g,fx,sm,os,d,v,rfl,sg,so,ho,rep,tm,l100,q⟩:=h
  have hu:=hr.units
  refine ⟨_,(zaf (zaT (zal K rfl (zaj zai rfl T.n_isinstance rfl (zaa (pv 1) (zaa (zaD (v:=V.ty "str") rfl T.n_str rfl rfl) zae))) (fun _=>rfl)) (zag (zao (zpA (zan O_is_wish (hr.mono (by decide)) pass0 rfl (zaa (pv 1) zae)) (zih (zbW (zbr hu) (zii M_many (hr.mono (by decide)) pass0 (pv 0) (zaa (pv 1) zae)) zah (nomark _)))))) zaq)
   (zaf (zaT (PW.pt (zdz (za4 (zal K rfl (zaj zai rfl T.n_isinstance rfl (zaa (pv 1) (zaa (zce (zaa (zaD (v:=V.ty "list") rfl T.n_list rfl rfl) (zaa (zaD (v:=V.ty "tuple") rfl T.n_tuple rfl rfl) zae))) zae))) (fun _=>rfl))) (zcG (zas (zgu hu) (zaj zaM rfl T.n_len rfl (zaa (pv 1) zae)) zah (nomark _))))) (zag (zao zgr)) zaq)
   (zaf (zaT (zas znE (zii M_nought (hr.mono (by decide)) pass0 (pv 0) (zaa (zbg ix_F (pv 1) zah (fun _ _=>rfl)) zae)) zex (nomark _)) (zag (zao (zbW zoR (zaj zaM rfl T.n_len rfl (zaa (pv 1) zae)) zah (nomark _)))) zaq)
   (zag (zao (zbW (zbr hu) (zii M_many (hr.mono (by decide)) pass0 (pv 0) (zaa (zbg ix_F (pv 1) zah (fun _ _=>rfl)) zae)) (zaQ ze4 (zaj zaM rfl T.n_len rfl (zaa (pv 1) zae)) zah) (nomark _))))))),?_⟩
  simp only [zfn]
  clear hr F T hu O_is_wish M_many M_nought
  have keep:=And.intro q (And.intro sg (And.intro so (And.intro ho (And.intro rep (And.intro tm l100)))))
  clear q sg so ho rep tm l100
  walk_at "rd"
  obtain ⟨q,sg,so,ho,rep,tm,l100⟩:=keep
  obtain ⟨dx,fs,_,_,h1,h2,h3,_⟩:=sg.ex
  rcases zh4 tm with ⟨x,rfl,hx⟩ | ⟨n,ds,hd,hh,tms⟩
  ·cases (show v = .str x from rep)
   refine ⟨true,rfl,?_⟩
   rw [if_pos rfl]
   rcases hx with hx | hx
   ·have hw:=ho x hx
    refine ⟨x,rfl,.inl hw,fun H' s'=>⟨fun _=>⟨true,rfl,?_⟩,fun hn=>?_⟩⟩
    ·rw [if_pos rfl];exact q _ s'
    ·obtain ⟨l,rfl,_⟩:=hw
     have:=hn.2.2 63 (by simp)
     omega
   ·obtain ⟨r,hr,e⟩:∃ r ∈ fx,r.1=x/\r.2=0:=by
     unfold zeros at hx
     obtain ⟨r,h1,rfl⟩:=List.mem_map.mp hx
     obtain ⟨h2,h3⟩:=List.mem_filter.mp h1
     exact ⟨r,h2,rfl,by simpa using h3⟩
    have hn:zcR x:=so.nm x (List.mem_append_left _ (List.mem_map.mpr ⟨r,hr,e.1⟩))
    have hm:mulO fx x=some 0:=zin so (by rw [← e.1,← e.2];exact hr)
    refine ⟨x,rfl,.inr hn,fun H' s'=>⟨fun hw=>?_,fun _=>⟨false,rfl,?_⟩⟩⟩
    ·obtain ⟨l,rfl,_⟩:=hw
     have:=hn.2.2 63 (by simp)
     omega
    ·rw [if_neg (by decide)]
     refine ⟨_,rfl,g,dx,fs,rfl,s' _ _ h1,h2,_,rfl,g,x,fx,sm,rfl,sg.same s',?_⟩
     show rEqD (mulV fx x) _ _ _
     unfold mulV
     rw [hm]
     show rEqD (.int 0) _ _ _
     rw [rEqD_ii]
     exact q _ s'
  ·obtain ⟨va,vs',rfl,hbb,hseq,res⟩:∃ va vs',v = .ref va/\isV H (.ref va) (.ty "str")=some false/\SeqV H va (.str n :: vs')/\Reps H ds vs':=by
    rcases hd with rfl | rfl
    ·obtain ⟨a,vs,rfl,ha,_,vs',rfl,e1,r⟩:=rep
     cases e1
     exact ⟨a,vs',rfl,zdq ha,.inr ha,r⟩
    ·obtain ⟨a,vs,rfl,ha,_,vs',rfl,e1,r⟩:=rep
     cases e1
     exact ⟨a,vs',rfl,zeD ha,.inl ha,r⟩
   have hlen:=Reps.len res
   refine ⟨false,hbb,?_⟩
   rw [if_neg (by decide)]
   refine ⟨by decide,fun p hp=>?_⟩
   have s1:Same H (upd H p (.tup [.ty "list",.ty "tuple"])):=Same.upd hp
   have hp1:upd H p (.tup [.ty "list",.ty "tuple"]) p=some (.tup [.ty "list",.ty "tuple"]):=upd_same
   generalize upd H p (.tup [.ty "list",.ty "tuple"])=H1 at s1 hp1 ⊢
   have hs1:=hseq.same s1
   have ix0:ixV H1 (.ref va) (.int 0)=some (.str n):=by
    rcases hs1 with e | e
    ·rw [ixV_l e,atI_zero]
    ·rw [ixV_t e,atI_zero]
   have ln:lenV H1 (.ref va)=some (vs'.length + 1):=by
    rcases hs1 with e | e
    ·rw [lenV_l e];rfl
    ·rw [lenV_t e];rfl
   refine ⟨true,by rcases hs1 with e | e;exact zmU e hp1;exact zmT e hp1,?_⟩
   rw [if_neg (by decide)]
   have hk:=zfd hh
   refine ⟨_,by rw [ln];rfl,_,rfl,?_⟩
   rw [if_neg (by omega)]
   refine ⟨_,rfl,g,dx,fs,rfl,s1 _ _ h1,h3,_,rfl,.str n,ix0,g,n,fx,sm,rfl,sg.same s1,?_⟩
   rcases hh with ⟨k0,hk⟩ | ⟨k2,hk⟩
   ·have nin:n ∉ sm.map (·.1):=fun z=>(List.nodup_append.mp so.nd).2.2 n (List.mem_map_of_mem (f:=(·.1)) hk) n z rfl
    have e0:nulV sm n = .non:=by unfold nulV;rw [zm5 nin];rfl
    have em:mulV fx n = .int (ds.length:Int):=by unfold mulV;rw [zin so hk];rfl
    rw [e0]
    refine ⟨false,rfl,?_⟩
    rw [if_neg (by decide)]
    refine ⟨_,rfl,g,dx,fs,rfl,s1 _ _ h1,h2,_,rfl,.str n,ix0,g,n,fx,sm,rfl,sg.same s1,?_⟩
    refine ⟨_,by rw [ln];rfl,_,rfl,?_⟩
    rw [em,rEqD_ii,decide_eq_true (by omega)]
    exact q _ s1
   ·obtain ⟨z,hz⟩:=zm4 hk
    have e0:nulV sm n = .str z:=by unfold nulV;rw [hz];rfl
    rw [e0]
    refine ⟨true,rfl,?_⟩
    rw [if_pos rfl]
    refine ⟨_,by rw [ln];rfl,_,rfl,?_⟩
    rw [decide_eq_true (p:=_) (by omega)]
    exact q _ s1
mutual
noncomputable def nds:D->Nat
 | .tup (_ :: ds)=>1 + ndss ds
 | .lst (_ :: ds)=>1 + ndss ds
 | _=>1
noncomputable def ndss:List D->Nat
 | []=>0
 | d :: ds=>nds d + ndss ds
end
theorem zfL (d:D):1<=nds d:=by
 unfold nds
 split <;> omega
theorem zcW:∀ ds:List D,ds.length<=ndss ds
 | []=>Nat.le_refl _
 | d :: ds=>by rw [ndss,List.length_cons];have:=zfL d;have:=zcW ds;omega
theorem zbM:∀ ds es:List D,ndss (ds ++ es)=ndss ds + ndss es
 | [],es=>by simp [ndss]
 | d :: ds,es=>by rw [List.cons_append,ndss,zbM ds es,ndss];omega
theorem zfK:∀ ds:List D,ndss ds.reverse=ndss ds
 | []=>rfl
 | d :: ds=>by rw [List.reverse_cons,zbM,zfK ds,ndss,ndss,ndss];omega
theorem zjs {c:TT}{tb:TS}{D:Ends}{σ:St}{H:Hp}(Pv:Nat->St->Hp->Prop)(n:Nat)(h0:Pv n σ H)
  (hs:∀ n σ H,Pv n σ H->∀ R:Bool->Hp->Prop,(∀ H',tb { D with nx:=fun σ' H''=>∃ m,m < n/\Pv m σ' H'',ct:=fun σ' H''=>∃ m,m < n/\Pv m σ' H'',bk:=D.nx } σ H'->R true H')->(∀ H',D.nx σ H'->R false H')->c σ H R):zjE c tb D σ H:=by
 refine ⟨Pv,⟨n,h0⟩,?_⟩
 intro m σ H p
 refine hs m σ H p _ (fun H' h=>?_) (fun H' h=>?_)
 ·rw [if_pos rfl]
  exact ⟨_,fun σ' H'' z=>z,h⟩
 ·rw [if_neg (by decide)];exact h
theorem zhR {H:Hp}{p:Addr}{o:HO}:del (upd H p o) p=del H p:=by
 funext b
 unfold del upd
 by_cases e:b=p
 ·rw [if_pos e,if_pos e]
 ·rw [if_neg e,if_neg e,if_neg e]
theorem zk7 {H:Hp}{t p:Addr}{o:HO}(h:H p=none):Same (del H t) (del (upd H p o) t):=fun b u e=>by
 obtain ⟨h1,h2⟩:=zb9 e
 exact zds (by rw [zac (zab h1 h)];exact h1) h2
theorem zdt {H H':Hp}{t:Addr}(s:Same H H'):Same (del H t) (del H' t):=fun b u e=>by
 obtain ⟨h1,h2⟩:=zb9 e
 exact zds (s _ _ h1) h2
theorem zbS {H:Hp}{d:D}:∀ {ds:List D} {vs:List V},Reps H (ds ++ [d]) vs->∃ us v,vs=us ++ [v]/\Reps H ds us/\Rep H d v
 | [],vs,⟨v,r,e,h,h'⟩=>by
  cases (show r=[] from h')
  exact ⟨[],v,e,rfl,h⟩
 | c :: ds,vs,⟨v,r,e,h,h'⟩=>by
  obtain ⟨us,u,e2,h2,h3⟩:=zbS (ds:=ds) h'
  exact ⟨v :: us,u,by rw [e,e2];rfl,⟨v,us,rfl,h,h2⟩,h3⟩
noncomputable def tp (r:D×Nat):D:=.tup [r.1,.int r.2]
noncomputable def CkI (g t:Addr)(v:V)(fx:List (Str×Int))(sm:List (Str×Str))(os:List Str)(H:Hp)(n:Nat)(σ:St)(H2:Hp):Prop:=∃ (ps:List (D×Nat)) (vs:List V) (o3 o4:Option V),σ=[some (.ref g),some v,some (.ref t),o3,o4]/\H2 t=some (.lst vs)/\Same H (del H2 t) /\
 Reps (del H2 t) (ps.map tp) vs/\(∀ r ∈ ps,IsTm fx sm os r.1/\lvs r.1<=100/\r.2 + depD r.1<=100)/\ndss (ps.map (·.1))=n/\n<=1000
noncomputable def CkC (t:Addr)(ds:List D)(k:Nat)(H5:Hp)(i:Nat)(acc:List V)(σ:St)(H6:Hp):Prop:=∃ o0:Option V,σ=[o0,some (.int k)]/\Same H5 H6/\Reps (del H6 t) ((ds.reverse.take i).map fun d=>tp (d,k + 1)) acc
theorem zpm {H:Hp}{t:Addr}(h:H t=none){H2:Hp}(s:Same H H2):Same H (del H2 t):=fun b u e=>zds (s _ _ e) (zab e h)
theorem zk6 {H H2:Hp}{t:Addr}(s:Same H (del H2 t)):Same H H2:=fun b u e=>(zb9 (s _ _ e)).1
noncomputable def zek (K:PySem.W.Frag)(C:Addr):Sp:=fun vs H Q _=>∃ (g:Addr) (fx:List (Str×Int)) (sm:List (Str×Str)) (os:List Str) (d:D) (v:V),vs=[.ref g,v]/\SgAt K C fx sm H g/\SignsOk fx sm/\(∀ x ∈ os,zaR x)/\Rep H d v/\IsTm fx sm os d/\lvs d<=100/\depD d<=100/\nds d<=1000/\∀ H',Same H H'->Q .non H'
theorem zl7 {f C:Addr}{fd:FuncData}(F:Fun K "check_term" "check_term" zaW f fd)(T:Txt mg)(O_is_built:Own P w K mg base CX0 2 "is_built" (zhu K C)):FnOk P w K mg base CX0 3 f fd zcL (zek K C):=by
 refine F.ok zbK (fun vs H Q E h=>?_) (fun cdv A outer s H vs Q E hr h=>?_)
 ·obtain ⟨g,fx,sm,os,d,v,rfl,_⟩:=h
  rfl
 ·obtain ⟨g,fx,sm,os,d,v,rfl,sg,so,ho,rep,tm,l100,d100,n1000,q⟩:=h
  have hu:=hr.units
  refine ⟨_,(zaf (zap (i:=2) zbK.nd rfl (Or.inl rfl) (zaX (zaa (zce (zaa (pv 1) (zaa zah zae))) zae)))
   (zag (zdZ PassesOwn.never (zal K rfl (pv 2) (fun _=>rfl)) (zaf (zgn (zgq PySem.F.plainAttrs_list PySem.F.slot_list_pop PySem.F.type_list_pop zgz (pv 2)) (zmK rfl (zd0 (zaC (i:=3) zbK.nd rfl (Or.inl rfl)) (zd0 (zaC (i:=4) zbK.nd rfl (Or.inr rfl)) zj5))))
   (zaf (zaT (PW.pt (zdz (zas zlU (pv 4) (zbL T.c_DEEPEST rfl) (nomark _)) (zcG (za4 (zal K rfl (zan O_is_built (hr.mono (by decide)) pass0 rfl (zaa (pv 0) (zaa (pv 3) zae))) (fun _=>rfl)))))) (zag zbp) zaq)
   (zag (zaT (za4 (zal K rfl (zaj zai rfl T.n_isinstance rfl (zaa (pv 3) (zaa (zaD (v:=V.ty "str") rfl T.n_str rfl rfl) zae))) (fun _=>rfl))) (zag (zaP (zcB PySem.F.plainAttrs_list PySem.F.slot_list_extend PySem.F.type_list_extend zez (pv 2) (zaa (zbV rfl (CompSc.by (N:=zcT) (names:=(zad zaW).names) (N':=["part","depth"]) (src:=[none,some 4]) (by decide +kernel) rfl rfl) (zbi K rfl (zew zjU (pv 3) zbT (zbH zah) (zbH (zj7 zgc zah)))) (fun _ _ _ _=>(zaC (i:=0) (show List.Nodup (["part","depth"]:List Str) by decide +kernel) rfl (Or.inl rfl))) (fun _ _ _ _=>zbx) (fun _ _ _ _=>(zce (zaa (pv 0) (zaa (zaQ zaG (pv 1) zah) zae))))) zae)))) zaq))))))),?_⟩
  simp only [zcT]
  clear hr F T hu O_is_built
  have keep:=And.intro q (And.intro sg (And.intro so (And.intro ho (And.intro rep (And.intro tm (And.intro l100 (And.intro d100 n1000)))))))
  clear q sg so ho rep tm l100 d100 n1000
  walk_at "rd"
  obtain ⟨q,sg,so,ho,rep,tm,l100,d100,n1000⟩:=keep
  refine ⟨by decide,fun p hp=>⟨by decide,fun t ht=>?_⟩⟩
  have s1:Same H (upd H p (.tup [v,.int 0])):=Same.upd hp
  have hp1:upd H p (.tup [v,.int 0]) p=some (.tup [v,.int 0]):=upd_same
  generalize upd H p (.tup [v,.int 0])=H1 at s1 hp1 ht ⊢
  have ht0:H t=none:=s1.free ht
  have e1:del (upd H1 t (.lst [.ref p])) t=del H1 t:=zhR
  have sd:Same H (del H1 t):=zpm ht0 s1
  refine zjs (CkI g t v fx sm os H) (nds d) ⟨[(d,0)],[.ref p],none,none,rfl,upd_same,by rw [e1];exact sd,?_,?_,by simp [ndss],n1000⟩ ?_
  ·rw [e1]
   exact ⟨.ref p,[],rfl,⟨p,_,rfl,zds hp1 (zab hp1 ht),v,_,rfl,Rep.same sd rep,.int 0,[],rfl,rfl,rfl⟩,rfl⟩
  ·intro r hr
   rw [List.mem_singleton.mp hr]
   exact ⟨tm,l100,by simpa using d100⟩
  ·rintro n σ H2 ⟨ps,vs,o3,o4,rfl,h2,sH,reps,ok,rfl,nle⟩ R hT hF
   rcases List.eq_nil_or_concat ps with rfl | ⟨ps',r,rfl⟩
   ·have:vs=[]:=reps
    subst this
    exact ⟨_,rfl,false,.inl ⟨[],SqL.of h2,rfl⟩,hF H2 (q _ (zk6 sH))⟩
   ·rw [List.concat_eq_append] at reps ok nle hT
    rw [List.map_append,List.map_cons,List.map_nil] at reps nle hT
    obtain ⟨us,u,rfl,reps',ru⟩:=zbS reps
    obtain ⟨a,_,rfl,ha,x,_,rfl,rx,_,_,rfl,e2,e3⟩:=ru
    cases e2
    cases (show _=[] from e3)
    obtain ⟨tmr,lr,dr⟩:=ok r (by simp)
    have keep:=And.intro q (And.intro sg (And.intro so (And.intro ho (And.intro sH (And.intro reps' (And.intro ok (And.intro nle (And.intro h2 (And.intro ha (And.intro rx (And.intro tmr (And.intro lr dr))))))))))))
    refine ⟨_,rfl,true,.inl ⟨_,SqL.of h2,by simp⟩,hT H2 ?_⟩
    clear q sg so ho sH reps ok nle hT hF rep tm l100 d100 n1000 s1 hp1 ht ht0 e1 sd h2 reps' ha rx tmr lr dr e3
    walk_at "rd"
    obtain ⟨q,sg,so,ho,sH,reps,ok,nle,h2,ha,rx,tmr,lr,dr⟩:=keep
    have hat:H2 a=some (.tup [x,.int r.2])/\a≠t:=zb9 ha
    refine ⟨tyL h2,.ref a,by simp,a,rfl,[x,.int r.2],SqT.of (by rw [zac hat.2];exact hat.1),rfl,x,_,rfl,_,_,rfl,rfl,r.2,rfl,?_⟩
    rw [if_neg (by omega),List.dropLast_concat]
    have e3:del (upd H2 t (.lst us)) t=del H2 t:=zhR
    have h3:upd H2 t (.lst us) t=some (.lst us):=upd_same
    rw [← e3] at sH reps rx
    generalize upd H2 t (.lst us)=H3 at e3 h3 sH reps rx ⊢
    have nl:us.length<=1000:=by
     have:=Reps.len reps
     rw [List.length_map] at this
     have h1:=zcW (ps'.map (·.1))
     rw [List.length_map] at h1
     rw [zbM] at nle
     omega
    refine ⟨g,fx,sm,os,r.1,x,rfl,sg.same (zk6 sH),so,ho,Rep.same (zmt _ _) rx,tmr,lr,fun H4 s4=>⟨true,rfl,?_⟩⟩
    rw [if_neg (by decide)]
    have h4:=s4 _ _ h3
    have sd4:=zdt (t:=t) s4
    have sH4:=sH.trans sd4
    have reps4:=Reps.same sd4 reps
    have rx4:=Rep.same sd4 rx
    have rest:∀ r' ∈ ps',IsTm fx sm os r'.1/\lvs r'.1<=100/\r'.2 + depD r'.1<=100:=fun r' hr'=>ok r' (List.mem_append_left _ hr')
    rw [zbM] at nle ⊢
    rcases zh4 tmr with ⟨y,ey,hy⟩ | ⟨n,ds,hd,hh,tms⟩
    ·rw [ey] at rx4
     cases (show x = .str y from rx4)
     refine ⟨true,rfl,?_⟩
     rw [if_neg (by decide)]
     exact ⟨_,by rw [ndss,ndss];have:=zfL r.1;omega,ps',us,_,_,rfl,h4,sH4,reps4,rest,rfl,by omega⟩
    ·obtain ⟨va,vs',rfl,hbb,hseq,res⟩:∃ va vs',x = .ref va/\isV H4 (.ref va) (.ty "str")=some false/\SeqV H4 va (.str n :: vs')/\Reps (del H4 t) ds vs':=by
      rcases hd with e | e
      ·rw [e] at rx4
       obtain ⟨a,vs,rfl,ha,_,vs',rfl,e1,r⟩:=rx4
       cases e1
       exact ⟨a,vs',rfl,zdq (zb9 ha).1,.inr (zb9 ha).1,r⟩
      ·rw [e] at rx4
       obtain ⟨a,vs,rfl,ha,_,vs',rfl,e1,r⟩:=rx4
       cases e1
       exact ⟨a,vs',rfl,zeD (zb9 ha).1,.inl (zb9 ha).1,r⟩
     have hnd:nds r.1=1 + ndss ds:=by rcases hd with e | e <;> rw [e,nds]
     have hdp:depD r.1=depDs ds + 1:=by
      rcases hd with e | e
      ·rw [e,depD,depDs,show depD (.str n)=0 from rfl];omega
      ·rw [e,depD,depDs,show depD (.str n)=0 from rfl];omega
     have hlv:lvs r.1=lvss ds:=by rcases hd with e | e <;> rw [e,lvs]
     refine ⟨false,hbb,?_⟩
     rw [if_pos rfl]
     refine ⟨tyL h4,_,rfl,0,rfl,1,rfl,-1,rfl,rfl,rfl,rfl,va,_,rfl,hseq,by simp,fun b o hb ho=>?_⟩
     rw [zgl] at ho
     refine ⟨b,rfl,vs'.reverse,by rcases ho with ⟨rfl,_⟩ | ⟨rfl,_⟩;exact .inl upd_same;exact .inr upd_same,fun J hJ=>?_⟩
     have s5:Same H4 (upd H4 b o):=Same.upd hb
     have hb5:upd H4 b o b=some o:=upd_same
     have nbt:b≠t:=(zab h4 hb).symm
     generalize upd H4 b o=H5 at s5 hb5 hJ ⊢
     refine za2 hJ (CkC t ds r.2 H5) ⟨none,rfl,Same.refl _,rfl⟩ ?_ ?_ ?_
     ·rintro i acc σ H' _ ⟨_,_,s6,_⟩
      rw [hb5,s6 _ _ hb5]
     ·rintro i y acc σ H6 hy ⟨o0,rfl,s6,racc⟩
      obtain ⟨e,he,re⟩:=Reps.get (Reps.rev res) hy
      have la:=Reps.len racc
      have h1:=zcW ds
      refine ⟨_,rfl,_,rfl,.inl ⟨_,rfl,(by decide:2<=sizeLine),fun p1 hp1=>⟨Nat.lt_of_le_of_lt (m:=1000) ?_ (by decide),_,rfl,s6.trans (Same.upd hp1),?_⟩⟩⟩
      ·rw [List.length_map,List.length_take,List.length_reverse] at la
       rw [ndss,ndss] at nle
       omega
      ·have np:p1≠t:=(zab (s6 _ _ (s5 _ _ h4)) hp1).symm
       have sm5:Same (del H4 t) (del (upd H6 p1 (.tup [y,.int (r.2 + 1)])) t):=zdt ((s5.trans s6).trans (Same.upd hp1))
       rw [zar he,List.map_append]
       have rp:Rep (del (upd H6 p1 (.tup [y,.int (r.2 + 1)])) t) (tp (e,r.2 + 1)) (.ref p1):=⟨p1,_,rfl,zds upd_same np,y,_,rfl,Rep.same sm5 re,_,[],rfl,rfl,rfl⟩
       exact Reps.snoc rp (Reps.same (zk7 hp1) racc)
     ·rintro acc σ H6 ⟨o0,rfl,s6,racc⟩ l hl
      have la:=Reps.len racc
      have lr':=Reps.len res
      have h1:=zcW ds
      have h6:upd H6 l (.lst acc) t=some (.lst us):=by
       rw [zac (zab (s6 _ _ (s5 _ _ h4)) hl)]
       exact s6 _ _ (s5 _ _ h4)
      rw [List.length_reverse,lr',← List.length_reverse (as:=ds),List.take_length] at racc
      rw [List.length_map,List.length_take,List.length_reverse] at la
      rw [ndss,ndss] at nle
      have s7:Same H4 (upd H6 l (.lst acc)):=(s5.trans s6).trans (Same.upd hl)
      have e7:del (upd (upd H6 l (.lst acc)) t (.lst (us ++ acc))) t=del (upd H6 l (.lst acc)) t:=zhR
      refine ⟨t,l,us,acc,rfl,rfl,h6,.inl upd_same,Nat.le_trans (m:=2000) (by omega) (by decide),ndss (ps'.map (·.1)) + ndss ds,by rw [ndss,ndss];omega,ps' ++ ds.reverse.map (fun d=>(d,r.2 + 1)),us ++ acc,_,_,rfl,upd_same,?_,?_,?_,?_,by omega⟩
      ·rw [e7];exact sH4.trans (zdt s7)
      ·rw [e7,List.map_append,List.map_map]
       exact Reps.append (Reps.same (zdt s7) reps4) (Reps.same (zk7 hl) racc)
      ·intro r' hr'
       rcases List.mem_append.mp hr' with h | h
       ·exact rest r' h
       ·obtain ⟨e,he,rfl⟩:=List.mem_map.mp h
        have he:=List.mem_reverse.mp he
        obtain ⟨i,hi⟩:=List.getElem?_of_mem he
        have h2:=zhG hi
        have h3:=zd8 hi
        exact ⟨tms.get hi,by show lvs e<=100;omega,by show r.2 + 1 + depD e<=100;omega⟩
      ·rw [List.map_append,List.map_map,zbM]
       congr 1
       rw [show ((fun x:D×Nat=>x.1) ∘ fun d=>(d,r.2 + 1))=id from rfl,List.map_id,zfK]
end
end Lw
namespace Lw
open PySem L2
section
variable {P:Program}{w:World}{K:PySem.W.Frag}{mg:Str->Option Value}{base:Heap}
mutual
noncomputable def Wk:D->Prop
 | .str _=>True
 | .tup (.str _ :: ds)=>Wks ds
 | .lst (.str _ :: ds)=>Wks ds
 | _=>False
noncomputable def Wks:List D->Prop
 | []=>True
 | d :: ds=>Wk d/\Wks ds
end
mutual
noncomputable def wlk:D->List D
 | .tup (.str n :: ds)=>.tup (.str n :: ds) :: wlks ds
 | .lst (.str n :: ds)=>.lst (.str n :: ds) :: wlks ds
 | d=>[d]
noncomputable def wlks:List D->List D
 | []=>[]
 | d :: ds=>wlk d ++ wlks ds
end
theorem zf9:∀ ds:List D,wlks ds=ds.flatMap wlk
 | []=>rfl
 | d :: ds=>by rw [wlks,zf9 ds];rfl
theorem zom {d:D}(h:Wk d):(∃ x,d = .str x)∨∃ n ds,(d = .tup (.str n :: ds)∨d = .lst (.str n :: ds))/\Wks ds:=by
 unfold Wk at h
 split at h
 ·exact .inl ⟨_,rfl⟩
 ·exact .inr ⟨_,_,.inl rfl,h⟩
 ·exact .inr ⟨_,_,.inr rfl,h⟩
 ·exact absurd h id
mutual
theorem zpk:∀ {d:D},Fl d->Wk d
 | .str x,h=>trivial
 | .tup (.str n :: ds),h=>by unfold Wk;unfold Fl at h;exact zk2 h
 | .non,h | .bl _,h | .int _,h | .lst _,h | .tup [],h | .tup (.non :: _),h | .tup (.bl _ :: _),h | .tup (.int _ :: _),h | .tup (.tup _ :: _),h | .tup (.lst _ :: _),h=>by unfold Fl at h;exact absurd h id
theorem zk2:∀ {ds:List D},Fls ds->Wks ds
 | [],_=>trivial
 | _ :: _,⟨a,b⟩=>⟨zpk a,zk2 b⟩
end
theorem Wks.app:∀ {ds es:List D},Wks ds->Wks es->Wks (ds ++ es)
 | [],_,_,h=>h
 | _ :: _,_,⟨a,b⟩,h=>⟨a,Wks.app b h⟩
theorem Wks.rev:∀ {ds:List D},Wks ds->Wks ds.reverse
 | [],h=>h
 | d :: ds,⟨a,b⟩=>by rw [List.reverse_cons];exact Wks.app (Wks.rev b) ⟨a,trivial⟩
theorem Wks.unsnoc:∀ {ds:List D} {d:D},Wks (ds ++ [d])->Wks ds/\Wk d
 | [],_,h=>⟨trivial,h.1⟩
 | _ :: _,_,⟨a,b⟩=>⟨⟨a,(Wks.unsnoc b).1⟩,(Wks.unsnoc b).2⟩
mutual
theorem zfr:∀ d:D,(wlk d).length<=nds d
 | .tup (.str n :: ds)=>by rw [wlk,nds,List.length_cons];have:=zfq ds;omega
 | .lst (.str n :: ds)=>by rw [wlk,nds,List.length_cons];have:=zfq ds;omega
 | .non | .bl _ | .int _ | .str _ | .tup [] | .lst [] | .tup (.non :: _) | .tup (.bl _ :: _) | .tup (.int _ :: _) | .tup (.tup _ :: _) | .tup (.lst _ :: _) | .lst (.non :: _) | .lst (.bl _ :: _) | .lst (.int _ :: _) | .lst (.tup _ :: _) | .lst (.lst _ :: _)=>by unfold wlk;rw [List.length_singleton];exact zfL _
theorem zfq:∀ ds:List D,(wlks ds).length<=ndss ds
 | []=>Nat.le_refl _
 | d :: ds=>by rw [wlks,ndss,List.length_append];have:=zfr d;have:=zfq ds;omega
end
noncomputable def zdW:Sp:=fun vs H Q _=>∃ (d:D) (v:V) (G:Hp),vs=[v]/\Same G H/\Rep G d v/\Wk d/\nds d<=1000/\∀ (l:Addr) (ws:List V) (H':Hp),Same H H'->H l=none->H' l=some (.lst ws)->Reps G (wlk d) ws->Q (.ref l) H'
noncomputable def WkI (v:V)(fo t:Addr)(d:D)(H G:Hp)(n:Nat)(σ:St)(H2:Hp):Prop:=∃ (fs ts:List D) (ws us:List V) (o:Option V),σ=[some v,some (.ref fo),some (.ref t),o]/\H2 fo=some (.lst ws)/\H2 t=some (.lst us)/\Same H H2/\Reps G fs ws/\Reps G ts us/\Wks ts /\
 fs ++ ts.reverse.flatMap wlk=wlk d/\ndss ts=n/\n<=1000
theorem zkg {f:Addr}{fd:FuncData}(F:Fun K "walked" "walked" zck f fd)(T:Txt mg):FnOk P w K mg base CX0 1 f fd zf3 zdW:=by
 refine F.ok zdh (fun vs H Q E h=>?_) (fun cdv A outer s H vs Q E hr h=>?_)
 ·obtain ⟨d,v,G,rfl,_⟩:=h
  rfl
 ·obtain ⟨d,v,G,rfl,sG,rep,wk,n1000,q⟩:=h
  have hu:=hr.units
  refine ⟨_,(zaf (zap (i:=1) zdh.nd rfl (Or.inl rfl) (zaX zae))
   (zaf (zap (i:=2) zdh.nd rfl (Or.inl rfl) (zaX (zaa (pv 0) zae)))
   (zaf (zdZ PassesOwn.never (zal K rfl (pv 2) (fun _=>rfl)) (zaf (zap (i:=3) zdh.nd rfl (Or.inl rfl) (zgq PySem.F.plainAttrs_list PySem.F.slot_list_pop PySem.F.type_list_pop zgz (pv 2)))
   (zaf (zaP (zcB PySem.F.plainAttrs_list PySem.F.slot_list_append PySem.F.type_list_append zbj (pv 1) (zaa (pv 3) zae)))
   (zag (zaT (za4 (zal K rfl (zaj zai rfl T.n_isinstance rfl (zaa (pv 3) (zaa (zaD (v:=V.ty "str") rfl T.n_str rfl rfl) zae))) (fun _=>rfl))) (zag (zaP (zcB PySem.F.plainAttrs_list PySem.F.slot_list_extend PySem.F.type_list_extend zez (pv 2) (zaa (zew zjU (pv 3) zbT (zbH zah) (zbH (zj7 zgc zah))) zae)))) zaq)))))
   (zag (zao (pv 1)))))),?_⟩
  simp only [ziI]
  clear hr F T hu
  have keep:=And.intro q (And.intro rep (And.intro wk (And.intro n1000 sG)))
  clear q rep wk n1000 sG
  walk_at "rd"
  obtain ⟨q,rep,wk,n1000,sG⟩:=keep
  refine ⟨by decide,fun fo hfo=>⟨by decide,fun t ht=>?_⟩⟩
  have nft:fo≠t:=zab upd_same ht
  have ht0:H t=none:=(Same.upd hfo).free ht
  refine zjs (WkI v fo t d H G) (nds d) ⟨[],[d],[],[v],none,rfl,by rw [zac nft];exact upd_same,upd_same,(Same.upd hfo).trans (Same.upd ht),rfl,⟨v,[],rfl,rep,rfl⟩,⟨wk,trivial⟩,by simp,by simp [ndss],n1000⟩ ?_
  rintro n σ H2 ⟨fs,ts,ws,us,o,rfl,h1,h2,sH,rf,rt,wt,e,rfl,nle⟩ R hT hF
  rcases List.eq_nil_or_concat ts with rfl | ⟨ts',r,rfl⟩
  ·cases (show us=[] from rt)
   refine ⟨_,rfl,false,.inl ⟨[],SqL.of h2,rfl⟩,hF H2 ⟨_,rfl,?_⟩⟩
   have e:fs=wlk d:=by simpa using e
   rw [e] at rf
   exact q fo ws H2 sH hfo h1 rf
  ·rw [List.concat_eq_append] at rt wt e nle hT
   obtain ⟨us',u,rfl,rt',ru⟩:=zbS rt
   obtain ⟨wt',wr⟩:=wt.unsnoc
   have keep:=And.intro q (And.intro h1 (And.intro h2 (And.intro sH (And.intro rf (And.intro rt' (And.intro ru (And.intro wt' (And.intro wr (And.intro e (And.intro nle (And.intro hfo (And.intro ht0 (And.intro n1000 sG)))))))))))))
   refine ⟨_,rfl,true,.inl ⟨_,SqL.of h2,by simp⟩,hT H2 ?_⟩
   clear q h1 h2 sH rf rt rt' ru wt wt' wr e nle hT hF rep wk n1000 hfo ht ht0 sG
   walk_at "rd"
   obtain ⟨q,h1,h2,sH,rf,rt,ru,wt,wr,e,nle,hfo,ht0,n1000,sG⟩:=keep
   rw [List.dropLast_concat]
   rw [List.reverse_append,List.reverse_cons,List.reverse_nil,List.nil_append,List.singleton_append,List.flatMap_cons] at e
   have h3:upd H2 t (.lst us') t=some (.lst us'):=upd_same
   have f3:upd H2 t (.lst us') fo=some (.lst ws):=by rw [zac nft];exact h1
   have s3:Same H (upd H2 t (.lst us')):=fun b o hb=>by rw [zac (zab hb ht0)];exact sH _ _ hb
   generalize upd H2 t (.lst us')=H3 at h3 f3 s3 ⊢
   have h4:upd H3 fo (.lst (ws ++ [u])) t=some (.lst us'):=by rw [zac nft.symm];exact h3
   have f4:upd H3 fo (.lst (ws ++ [u])) fo=some (.lst (ws ++ [u])):=upd_same
   have s4:Same H (upd H3 fo (.lst (ws ++ [u]))):=fun b o hb=>by rw [zac (zab hb hfo)];exact s3 _ _ hb
   have lf:=Reps.len rf
   have lw:=congrArg List.length e
   rw [List.length_append] at lw
   have lt':=Reps.len rt
   have hn:=zcW ts'
   have hnr:nds r + ndss ts'<=1000:=by
    rw [zbM,ndss,ndss] at nle;omega
   have rep2:Reps G (fs ++ [r]) (ws ++ [u]):=Reps.snoc ru rf
   refine ⟨tyL h2,u,by simp,tyL f3,ws,f3,Nat.lt_of_le_of_lt (m:=1000) (by have:=zfr d;omega) (by decide),?_⟩
   generalize upd H3 fo (.lst (ws ++ [u]))=H4 at h4 f4 s4 ⊢
   have sG4:=sG.trans s4
   rw [zbM]
   rcases zom wr with ⟨x,rfl⟩ | ⟨nm,ds,hd,wds⟩
   ·cases (show u = .str x from ru)
    refine ⟨true,rfl,?_⟩
    rw [if_neg (by decide)]
    refine ⟨ndss ts',by rw [ndss,ndss];have:=zfL (.str x);omega,fs ++ [.str x],ts',_,us',_,rfl,f4,h4,s4,rep2,rt,wt,?_,rfl,by omega⟩
    rw [← e]
    show _=fs ++ ([.str x] ++ _)
    rw [List.append_assoc]
   ·obtain ⟨va,vs',rfl,hbb,hseq⟩:∃ va vs',u = .ref va/\isV H4 (.ref va) (.ty "str")=some false/\SeqV H4 va (.str nm :: vs')/\Reps G ds vs':=by
     rcases hd with rfl | rfl
     ·obtain ⟨a,vs,rfl,ha,_,vs',rfl,e1,r⟩:=ru
      cases e1
      exact ⟨a,vs',rfl,zdq (sG4 _ _ ha),.inr (sG4 _ _ ha),r⟩
     ·obtain ⟨a,vs,rfl,ha,_,vs',rfl,e1,r⟩:=ru
      cases e1
      exact ⟨a,vs',rfl,zeD (sG4 _ _ ha),.inl (sG4 _ _ ha),r⟩
    obtain ⟨hseq,res⟩:=hseq
    have hnd:nds r=1 + ndss ds:=by rcases hd with rfl | rfl <;> rw [nds]
    have hwl:wlk r=r :: wlks ds:=by rcases hd with rfl | rfl <;> rw [wlk]
    have h1:=zcW ds
    have lr:=Reps.len res
    refine ⟨false,hbb,?_⟩
    rw [if_pos rfl]
    refine ⟨tyL h4,_,rfl,0,rfl,1,rfl,-1,rfl,rfl,rfl,rfl,va,_,rfl,hseq,by simp,fun b o hb ho=>?_⟩
    rw [zgl] at ho
    have h5:upd H4 b o t=some (.lst us'):=by rw [zac (zab h4 hb)];exact h4
    have f5:upd H4 b o fo=some (.lst (ws ++ [.ref va])):=by rw [zac (zab f4 hb)];exact f4
    have s5:Same H (upd H4 b o):=s4.trans (Same.upd hb)
    refine ⟨t,b,us',vs'.reverse,rfl,rfl,h5,by rcases ho with ⟨rfl,_⟩ | ⟨rfl,_⟩;exact .inl upd_same;exact .inr upd_same,Nat.le_trans (m:=2000) (by rw [List.length_reverse];omega) (by decide),ndss ts' + ndss ds,by rw [ndss,ndss];omega,fs ++ [r],ts' ++ ds.reverse,_,_,_,rfl,by rw [zac nft];exact f5,upd_same,?_,rep2,Reps.append rt (Reps.rev res),wt.app wds.rev,?_,by rw [zbM,zfK],by omega⟩
    ·exact fun b o hb=>by rw [zac (zab hb ht0)];exact s5 _ _ hb
    ·rw [← e,hwl,List.reverse_append,List.reverse_reverse,List.flatMap_append,← zf9]
     simp
noncomputable def mrk:D->M
 | .str x=>(sortS x,x,0)
 | .tup (.str n :: ds)=>(2,n,ds.length + 1)
 | _=>(0,"",0)
mutual
theorem zkK:∀ {d:D},Fl d->key d=(wlk d).map mrk
 | .str x,_=>by unfold key wlk;rfl
 | .tup (.str n :: ds),h=>by unfold Fl at h;rw [key,wlk,ziu h];rfl
 | .non,h | .bl _,h | .int _,h | .lst _,h | .tup [],h | .tup (.non :: _),h | .tup (.bl _ :: _),h | .tup (.int _ :: _),h | .tup (.tup _ :: _),h | .tup (.lst _ :: _),h=>by unfold Fl at h;exact absurd h id
theorem ziu:∀ {ds:List D},Fls ds->keys ds=(wlks ds).map mrk
 | [],_=>rfl
 | d :: ds,⟨a,b⟩=>by rw [keys,wlks,zkK a,ziu b,List.map_append]
end
mutual
theorem zmZ:∀ {d:D},Fl d->∀ e ∈ wlk d,Fl e
 | .str x,h=>by unfold wlk;intro e he;rw [List.mem_singleton.mp he];exact h
 | .tup (.str n :: ds),h=>by
  rw [wlk]
  intro e he
  obtain rfl | he:=List.mem_cons.mp he
  ·exact h
  ·exact zk1 (by unfold Fl at h;exact h) e he
 | .non,h | .bl _,h | .int _,h | .lst _,h | .tup [],h | .tup (.non :: _),h | .tup (.bl _ :: _),h | .tup (.int _ :: _),h | .tup (.tup _ :: _),h | .tup (.lst _ :: _),h=>by unfold Fl at h;exact absurd h id
theorem zk1:∀ {ds:List D},Fls ds->∀ e ∈ wlks ds,Fl e
 | [],_=>fun e he=>by cases he
 | d :: ds,⟨a,b⟩=>fun e he=>by
  rw [wlks] at he
  obtain he | he:=List.mem_append.mp he
  ·exact zmZ a e he
  ·exact zk1 b e he
end
noncomputable def mV (m:M):List V:=[.int m.1,.str m.2.1,.int m.2.2]
noncomputable def mD (m:M):D:=.tup [.int m.1,.str m.2.1,.int m.2.2]
noncomputable def zjO:Sp:=fun vs H Q _=>∃ (d:D) (v:V),vs=[v]/\Rep H d v/\Fl d/\∀ p,H p=none->Q (.ref p) (upd H p (.tup (mV (mrk d))))
theorem znO {f:Addr}{fd:FuncData}(F:Fun K "order_mark" "order_mark" za5 f fd)(T:Txt mg):FnOk P w K mg base CX0 1 f fd zcK zjO:=by
 refine F.ok zfD (fun vs H Q E h=>?_) (fun cdv A outer s H vs Q E hr h=>?_)
 ·obtain ⟨d,v,rfl,_⟩:=h
  rfl
 ·obtain ⟨d,v,rfl,rep,fl,q⟩:=h
  have hu:=hr.units
  refine ⟨_,(zaf (zaT (zal K rfl (zaj zai rfl T.n_isinstance rfl (zaa (pv 0) (zaa (zaD (v:=V.ty "str") rfl T.n_str rfl rfl) zae))) (fun _=>rfl)) (zag (zao (zce (zaa (zdk (zas (zbr hu) (zbg ix_F (pv 0) zah (fun _ _=>rfl)) zbf (nomark _)) zah zah) (zaa (pv 0) (zaa zah zae)))))) zaq)
   (zag (zao (zce (zaa zah (zaa (zbg ix_F (pv 0) zah (fun _ _=>rfl)) (zaa (zaj zaM rfl T.n_len rfl (zaa (pv 0) zae)) zae))))))),?_⟩
  simp only [zdN]
  clear hr F T hu
  have keep:=And.intro q (And.intro rep fl)
  clear q rep fl
  walk_at "rd"
  obtain ⟨q,rep,fl⟩:=keep
  rcases ziB fl with ⟨x,rfl,h1,h2⟩ | ⟨nm,ds,rfl,fls⟩
  ·cases (show v = .str x from rep)
   refine ⟨true,rfl,?_⟩
   rw [if_pos rfl]
   have hz:x.length<=sizeLine:=Nat.le_trans (m:=20) (by rw [Array.length_toList] at h2;exact h2) (by decide)
   cases hc:x.cps.toList with
   | nil=>rw [hc] at h1;simp at h1
   | cons c r =>
    refine ⟨.str ⟨#[c]⟩,by rw [zhL hz,hc,atI_zero];rfl,?_⟩
    rw [rEqD_ss]
    refine ⟨_,rfl,?_⟩
    have ec:decide ((⟨#[c]⟩:Str)=Str.ofString "?")=decide (c=63):=by
     have e2:Str.ofString "?" = ⟨#[63]⟩:=by decide +kernel
     rw [e2,Bool.eq_iff_iff]
     simp
    have es:sortS x=if c=63 then 0 else 1:=by unfold sortS;rw [hc];simp
    rw [ec]
    by_cases h:c=63
    ·rw [if_pos (decide_eq_true h)]
     refine ⟨by decide,fun p hp=>?_⟩
     have:Q (.ref p) (upd H p (.tup [.int (sortS x),.str x,.int 0])):=q p hp
     rw [es,if_pos h] at this
     exact this
    ·rw [if_neg (by simpa using h)]
     refine ⟨by decide,fun p hp=>?_⟩
     have:Q (.ref p) (upd H p (.tup [.int (sortS x),.str x,.int 0])):=q p hp
     rw [es,if_neg h] at this
     exact this
  ·obtain ⟨a,vs,rfl,ha,_,vs',rfl,e1,r⟩:=rep
   cases e1
   have lr:=Reps.len r
   refine ⟨false,zdq ha,?_⟩
   rw [if_neg (by decide)]
   refine ⟨.str nm,by rw [ixV_t ha,atI_zero],.int (ds.length + 1),by rw [lenV_t ha,List.length_cons,lr];rfl,by decide,fun p hp=>?_⟩
   exact q p hp
noncomputable def spKey:Sp:=fun vs H Q _=>∃ (d:D) (v:V),vs=[v]/\Rep H d v/\Fl d/\nds d<=1000/\∀ (l:Addr) (H':Hp),Same H H'->H l=none->Rep (nw H H') (.lst ((key d).map mD)) (.ref l)->Q (.ref l) H'
noncomputable def KyI (ds:List D)(H H1:Hp)(i:Nat)(acc:List V)(σ:St)(H2:Hp):Prop:=∃ o0:Option V,σ=[o0]/\Same H1 H2/\Reps (nw H H2) (((ds.take i).map mrk).map mD) acc
theorem zib {H:Hp}{p:Addr}{m:M}(h:H p=some (.tup (mV m))):Rep H (mD m) (.ref p):=⟨p,_,rfl,h,.int _,_,rfl,rfl,.str _,_,rfl,rfl,.int _,[],rfl,rfl,rfl⟩
theorem zkm {H H1 H2:Hp}(s:Same H1 H2):Same (nw H H1) (nw H H2):=fun a o e=>by
 obtain ⟨h1,h2⟩:=zcz.mp e
 exact zcz.mpr ⟨h1,s _ _ h2⟩
theorem zo0 {f:Addr}{fd:FuncData}(F:Fun K "order_key" "order_key" za6 f fd)(T:Txt mg)(O_order_mark:Own P w K mg base CX0 1 "order_mark" zjO)(O_walked:Own P w K mg base CX0 1 "walked" zdW):FnOk P w K mg base CX0 2 f fd zda spKey:=by
 refine F.ok zgj (fun vs H Q E h=>?_) (fun cdv A outer s H vs Q E hr h=>?_)
 ·obtain ⟨d,v,rfl,_⟩:=h
  rfl
 ·obtain ⟨d,v,rfl,rep,fl,n1000,q⟩:=h
  have hu:=hr.units
  refine ⟨_,(zaf (zaT (zal K rfl (zaj zai rfl T.n_isinstance rfl (zaa (pv 0) (zaa (zaD (v:=V.ty "str") rfl T.n_str rfl rfl) zae))) (fun _=>rfl)) (zag (zao (zaX (zaa (zan O_order_mark (hr.mono (by decide)) pass0 rfl (zaa (pv 0) zae)) zae)))) zaq)
   (zag (zao (zbV rfl (CompSc.by (N:=zdf) (names:=(zad za6).names) (N':=["at"]) (src:=[none]) (by decide +kernel) rfl rfl) (zbi K rfl (zan O_walked (hr.mono (by decide)) pass0 rfl (zaa (pv 0) zae))) (fun _ _ _ _=>(zaC (i:=0) (show List.Nodup (["at"]:List Str) by decide +kernel) rfl (Or.inl rfl))) (fun _ _ _ _=>zbx) (fun _ _ _ _=>(zan O_order_mark (hr.mono (by decide)) pass0 rfl (zaa (pv 0) zae))))))),?_⟩
  simp only [zdf]
  clear hr F T hu O_order_mark O_walked
  have keep:=And.intro q (And.intro rep (And.intro fl n1000))
  clear q rep fl n1000
  walk_at "rd"
  obtain ⟨q,rep,fl,n1000⟩:=keep
  rcases ziB fl with ⟨x,rfl,h1,h2⟩ | ⟨nm,ds,rfl,fls⟩
  ·cases (show v = .str x from rep)
   refine ⟨true,rfl,?_⟩
   rw [if_pos rfl]
   refine ⟨_,_,rfl,rep,fl,fun p hp=>⟨by decide,fun l hl=>q l _ ((Same.upd hp).trans (Same.upd hl)) ((Same.upd hp).free hl) ?_⟩⟩
   have hk:key (.str x)=[mrk (.str x)]:=by unfold key;rfl
   rw [hk]
   exact ⟨l,[.ref p],rfl,zcz.mpr ⟨(Same.upd hp).free hl,upd_same⟩,.ref p,[],rfl,zib (zcz.mpr ⟨hp,by rw [zac (zab upd_same hl)];exact upd_same⟩),rfl⟩
  ·obtain ⟨b,hb⟩:∃ b,isV H v (.ty "str")=some b/\b=false:=by
    obtain ⟨a,vs,rfl,ha,_⟩:=rep
    exact ⟨false,zdq ha,rfl⟩
   refine ⟨b,hb.1,?_⟩
   rw [if_neg (by rw [hb.2];decide)]
   refine ⟨_,v,H,rfl,Same.refl _,rep,zpk fl,n1000,fun l0 ws H1 s1 hl0 h1 rws=>⟨l0,rfl,ws,.inl h1,fun J hJ=>?_⟩⟩
   have lw:=Reps.len rws
   have lk:=zfr (.tup (.str nm :: ds))
   refine za2 hJ (KyI (wlk (.tup (.str nm :: ds))) H H1) ⟨none,rfl,Same.refl _,rfl⟩ (fun i acc σ H' _ ⟨_,_,s2,_⟩=>by rw [h1,s2 _ _ h1]) ?_ ?_
   ·rintro i x acc σ H2 hx ⟨o0,rfl,s2,racc⟩
    obtain ⟨e,he,re⟩:=Reps.get rws hx
    have la:=Reps.len racc
    refine ⟨_,rfl,e,x,rfl,Rep.same (s1.trans s2) re,zmZ fl e (List.mem_of_getElem? he),fun p hp=>⟨Nat.lt_of_le_of_lt (m:=1000) ?_ (by decide),_,rfl,s2.trans (Same.upd hp),?_⟩⟩
    ·rw [List.length_map,List.length_map,List.length_take] at la
     omega
    ·rw [zar he,List.map_append,List.map_append]
     exact Reps.snoc (zib (zcz.mpr ⟨(s1.trans s2).free hp,upd_same⟩)) (Reps.same (zkm (Same.upd hp)) racc)
   ·rintro acc σ H2 ⟨o0,rfl,s2,racc⟩ l hl
    rw [lw,List.take_length] at racc
    refine q l _ ((s1.trans s2).trans (Same.upd hl)) ((s1.trans s2).free hl) ?_
    rw [zkK fl]
    exact ⟨l,acc,rfl,zcz.mpr ⟨(s1.trans s2).free hl,upd_same⟩,Reps.same (zkm (Same.upd hl)) racc⟩
noncomputable def opP (n:Str)(d:D):List D:=match d with
 | .tup (.str m :: es)=>if m=n then es else [d]
 | d=>[d]
noncomputable def zeh:Sp:=fun vs H Q _=>∃ (n:Str) (d:D) (v:V),vs=[.str n,v]/\Rep H d v/\Fl d/\∀ (l:Addr) (ws:List V) (H':Hp),Same H H'->H l=none->H' l=some (.lst ws)->Reps H (opP n d) ws->Q (.ref l) H'
theorem zi3 {f:Addr}{fd:FuncData}(F:Fun K "opened" "opened" zcm f fd)(T:Txt mg):FnOk P w K mg base CX0 1 f fd zf6 zeh:=by
 refine F.ok zjY (fun vs H Q E h=>?_) (fun cdv A outer s H vs Q E hr h=>?_)
 ·obtain ⟨n,d,v,rfl,_⟩:=h
  rfl
 ·obtain ⟨n,d,v,rfl,rep,fl,q⟩:=h
  have hu:=hr.units
  refine ⟨_,(zaf (zaT (PW.pt (zjZ (zal K rfl (zaj zai rfl T.n_isinstance rfl (zaa (pv 1) (zaa (zaD (v:=V.ty "tuple") rfl T.n_tuple rfl rfl) zae))) (fun _=>rfl)) (zhx (zas (zbr hu) (zbg ix_F (pv 1) zah (fun _ _=>rfl)) (pv 0) (nomark _))))) (zag (zao (zaU zjm rfl T.n_list rfl (zaa (zcn ze2 (pv 1) (zbH zah) zbT) zae)))) zaq)
   (zag (zao (zaX (zaa (pv 1) zae))))),?_⟩
  simp only [ziK]
  clear hr F T hu
  have keep:=And.intro q (And.intro rep fl)
  clear q rep fl
  walk_at "rd"
  obtain ⟨q,rep,fl⟩:=keep
  have one1:opP n d=[d]->1<=sizeLine/\∀ (p:Addr),H p=none->Q (V.ref p) (upd H p (HO.lst [v])):=fun e=>⟨by decide,fun p hp=>q p [v] _ (Same.upd hp) hp upd_same (by rw [e];exact ⟨v,[],rfl,rep,rfl⟩)⟩
  rcases ziB fl with ⟨x,rfl,h1,h2⟩ | ⟨nm,ds,rfl,fls⟩
  ·cases (show v = .str x from rep)
   exact ⟨false,rfl,by rw [if_neg (by decide)];exact one1 rfl⟩
  ·obtain ⟨a,vs,rfl,ha,_,vs',rfl,e1,r⟩:=id rep
   cases e1
   refine ⟨true,zph ha,?_⟩
   rw [if_pos rfl]
   refine ⟨.str nm,by rw [ixV_t ha,atI_zero],?_⟩
   rw [rEqD_ss]
   refine ⟨_,rfl,?_⟩
   by_cases e:nm=n
   ·rw [if_pos (decide_eq_true e)]
    refine ⟨a,rfl,_,.inr ha,fun _ h=>?_,fun p o hp ho=>?_⟩
    ·have:=h.1
     simp [HT.sIx] at this
    ·rw [zeI] at ho
     refine ⟨vs',by rcases ho with ⟨rfl,_⟩ | ⟨rfl,_⟩;rw [seqV_l upd_same];rw [seqV_t upd_same],fun l hl=>q l vs' _ ((Same.upd hp).trans (Same.upd hl)) ((Same.upd hp).free hl) upd_same ?_⟩
     show Reps H (if nm=n then ds else [.tup (.str nm :: ds)]) vs'
     rw [if_pos e]
     exact r
   ·rw [if_neg (by simpa using e)]
    exact one1 (by show (if nm=n then ds else [.tup (.str nm :: ds)])=_;rw [if_neg e])
end
end Lw
namespace L2
open PySem PySem.Spec PyProof.Rows PySem.W
noncomputable def Asks (n:Nat)(lt:Nat->Nat->Bool){α:Type}:KasT α->(α->Prop)->Prop
 | .ret a,Q=>Q a
 | .ask i j k,Q=>i < n/\j < n/\Asks n lt (k (lt i j)) Q
theorem Asks.bind {n:Nat}{lt:Nat->Nat->Bool}{α β:Type}{f:α->KasT β}{Q:β->Prop}{R:α->Prop}(hf:∀ a,R a->Asks n lt (f a) Q):∀ {t:KasT α},Asks n lt t R->Asks n lt (t.bind f) Q
 | .ret a,h=>hf a h
 | .ask i j k,h=>⟨h.1,h.2.1,Asks.bind hf h.2.2⟩
theorem Asks.mono {n:Nat}{lt:Nat->Nat->Bool}{α:Type}{Q R:α->Prop}(hf:∀ a,R a->Q a):∀ {t:KasT α},Asks n lt t R->Asks n lt t Q
 | .ret a,h=>hf a h
 | .ask i j k,h=>⟨h.1,h.2.1,Asks.mono hf h.2.2⟩
structure Ord (n:Nat)(lt:Nat->Nat->Bool):Prop where
 irr:∀ i,lt i i=false
 asym:∀ i j,lt i j=true->lt j i=false
 tr:∀ i j k,lt j i=false->lt k j=false->lt k i=false
section
variable {n:Nat}{lt:Nat->Nat->Bool}
noncomputable def le (lt:Nat->Nat->Bool)(i j:Nat):Prop:=lt j i=false
noncomputable abbrev pa (p:Array Nat)(i:Nat):Nat:=p.getD i 0
noncomputable def Up (lt:Nat->Nat->Bool)(p:Array Nat)(k:Nat):Prop:=∀ i j,i<=j->j < k->le lt (pa p i) (pa p j)
noncomputable def Dn (lt:Nat->Nat->Bool)(p:Array Nat)(k:Nat):Prop:=∀ i j,i<=j->j < k->le lt (pa p j) (pa p i)
noncomputable def Gd (n:Nat)(p:Array Nat):Prop:=p.Perm (List.range n).toArray
theorem Gd.size {p:Array Nat}(h:Gd n p):p.size=n:=by have:=h.size_eq;simpa using this
theorem Gd.inn {p:Array Nat}(h:Gd n p)(hn:1<=n)(i:Nat):pa p i < n:=by
 by_cases hi:i < p.size
 ·have e:pa p i=p[i]:=by simp [pa,Array.getD,hi]
  rw [e]
  have hm:p[i] ∈ p.toList:=by simp
  have:=(Array.perm_iff_toList_perm.mp h).mem_iff.mp hm
  simpa using this
 ·have e:pa p i=0:=by simp [pa,Array.getD,hi]
  rw [e];exact hn
theorem zka {p q:Array Nat}{i j:Nat}(h:p[i]?=q[j]?):pa p i=pa q j:=by
 unfold pa
 rw [Array.getD_eq_getD_getElem?,Array.getD_eq_getD_getElem?,h]
theorem zdl {p:Array Nat}{i j:Nat}(hj:j<=p.size)(k:Nat):pa (kas_rev p i j) k=if i<=k/\k < j then pa p (i + j - 1 - k) else pa p k:=by
 have e:=getElem?_mirror_all (xs:=p) (i:=i) hj k
 unfold kas_rev
 by_cases h:i<=k/\k < j
 ·rw [if_pos h] at e ⊢;exact zka e
 ·rw [if_neg h] at e ⊢;exact zka e
theorem zoL {p:Array Nat}{src d:Nat}(hs:src < p.size)(hd:d<=src)(k:Nat):pa (bubble p src d) k=if k=src - d then pa p src else if src - d < k/\k<=src then pa p (k - 1) else pa p k:=by
 have e:=getElem?_bubble (xs:=p) hs d hd k
 by_cases h1:k=src - d
 ·rw [if_pos h1] at e ⊢;exact zka e
 ·rw [if_neg h1] at e ⊢
  by_cases mid:src - d < k/\k<=src
  ·rw [if_pos mid] at e ⊢;exact zka e
  ·rw [if_neg mid] at e ⊢;exact zka e
theorem Gd.rev {p:Array Nat}(h:Gd n p)(i j:Nat):Gd n (kas_rev p i j):=(mirror_perm p i j _).trans h
theorem Gd.bub {p:Array Nat}(h:Gd n p)(i j:Nat):Gd n (bubble p i j):=(bubble_perm p i j).trans h
variable (O:Ord n lt)
include O
theorem Ord.le_refl (i:Nat):le lt i i:=O.irr i
theorem Ord.le_trans {i j k:Nat}(a:le lt i j)(b:le lt j k):le lt i k:=O.tr i j k a b
theorem Ord.le_of {i j:Nat}(h:lt i j=true):le lt i j:=O.asym i j h
theorem Up.snoc {p:Array Nat}{k:Nat}(h:Up lt p k)(hk:1<=k)(e:le lt (pa p (k - 1)) (pa p k)):Up lt p (k + 1):=by
 intro i j hij hj
 by_cases hjk:j < k
 ·exact h i j hij hjk
 ·have:j=k:=by omega
  subst this
  by_cases hi:i=j
  ·subst hi;exact O.le_refl _
  ·exact O.le_trans (h i (j - 1) (by omega) (by omega)) e
theorem Dn.snoc {p:Array Nat}{k:Nat}(h:Dn lt p k)(hk:1<=k)(e:le lt (pa p k) (pa p (k - 1))):Dn lt p (k + 1):=by
 intro i j hij hj
 by_cases hjk:j < k
 ·exact h i j hij hjk
 ·have:j=k:=by omega
  subst this
  by_cases hi:i=j
  ·subst hi;exact O.le_refl _
  ·exact O.le_trans e (h i (j - 1) (by omega) (by omega))
theorem zf1 {p:Array Nat}(g:Gd n p)(hn:1<=n):∀ (f k:Nat),1<=k->Up lt p k->Asks n lt (kas_asc p f k) fun m=>k<=m/\m<=k + f/\Up lt p m/\(m < k + f->lt (pa p m) (pa p (m - 1))=true)
 | 0,k,h1,h=>⟨Nat.le_refl _,Nat.le_refl _,h,fun z=>absurd z (Nat.lt_irrefl _)⟩
 | f + 1,k,h1,h=>by
  refine ⟨g.inn hn _,g.inn hn _,?_⟩
  cases c:lt (p.getD k 0) (p.getD (k - 1) 0) with
  | true =>
   dsimp only
   rw [if_pos rfl]
   exact ⟨Nat.le_refl _,by omega,h,fun _=>c⟩
  | false =>
   dsimp only
   rw [if_neg (by decide)]
   exact (zf1 g hn f (k + 1) (by omega) (Up.snoc O h h1 c)).mono fun m ⟨a,b,d,e⟩=>⟨by omega,by omega,d,fun z=>e (by omega)⟩
theorem zdE {p:Array Nat}{k:Nat}(g:Gd n p)(hn:1<=n)(up:Up lt p k):∀ (f l r:Nat),r - l<=f->l<=r->r<=k->(∀ i,i < l->le lt (pa p i) (pa p k))->(∀ i,r<=i->i < k->le lt (pa p k) (pa p i)) ->
  Asks n lt (kas_place p k f l r) fun m=>m<=k/\(∀ i,i < m->le lt (pa p i) (pa p k))/\(∀ i,m<=i->i < k->le lt (pa p k) (pa p i))
 | 0,l,r,hf,hlr,hrk,h1,h2=>by
  have:l=r:=by omega
  subst this
  exact ⟨hrk,h1,h2⟩
 | f + 1,l,r,hf,hlr,hrk,h1,h2=>by
  unfold kas_place
  by_cases hge:l ≥ r
  ·rw [if_pos hge]
   have:l=r:=by omega
   subst this
   exact ⟨hrk,h1,h2⟩
  ·rw [if_neg hge]
   refine ⟨g.inn hn _,g.inn hn _,?_⟩
   cases c:lt (p.getD k 0) (p.getD ((l + r) / 2) 0) with
   | true =>
    dsimp only
    rw [if_pos rfl]
    refine zdE g hn up f l ((l + r) / 2) (by omega) (by omega) (by omega) h1 fun i hi hk=>?_
    exact O.le_trans (O.le_of c) (up _ _ hi hk)
   | false =>
    dsimp only
    rw [if_neg (by decide)]
    refine zdE g hn up f ((l + r) / 2 + 1) r (by omega) (by omega) hrk (fun i hi=>?_) h2
    exact O.le_trans (up i ((l + r) / 2) (by omega) (by omega)) c
theorem zop {p:Array Nat}{k l:Nat}(hk:k < p.size)(up:Up lt p k)(hl:l<=k)(h1:∀ i,i < l->le lt (pa p i) (pa p k))(h2:∀ i,l<=i->i < k->le lt (pa p k) (pa p i)):Up lt (bubble p k (k - l)) (k + 1):=by
 have e:=zoL (p:=p) hk (Nat.sub_le k l)
 have ek:k - (k - l)=l:=by omega
 rw [ek] at e
 intro i j hij hj
 rw [e i,e j]
 by_cases i1:i=l
 ·rw [if_pos i1]
  by_cases j1:j=l
  ·rw [if_pos j1];exact O.le_refl _
  ·rw [if_neg j1,if_pos (by omega)]
   exact h2 _ (by omega) (by omega)
 ·rw [if_neg i1]
  by_cases i2:l < i/\i<=k
  ·rw [if_pos i2,if_neg (by omega),if_pos (by omega)]
   exact up _ _ (by omega) (by omega)
  ·rw [if_neg i2]
   by_cases j1:j=l
   ·rw [if_pos j1];exact h1 _ (by omega)
   ·rw [if_neg j1]
    by_cases j2:l < j/\j<=k
    ·rw [if_pos j2];exact up _ _ (by omega) (by omega)
    ·rw [if_neg j2];exact up _ _ hij (by omega)
theorem ziG (hn:1<=n):∀ (f:Nat) (p:Array Nat) (k:Nat),Gd n p->k + f<=n->Up lt p k->Asks n lt (kas_bin f p k) fun q=>Gd n q/\Up lt q (k + f)
 | 0,p,k,g,hk,up=>⟨g,up⟩
 | f + 1,p,k,g,hk,up=>by
  unfold kas_bin
  refine Asks.bind (R:=fun m=>m<=k/\(∀ i,i < m->le lt (pa p i) (pa p k))/\(∀ i,m<=i->i < k->le lt (pa p k) (pa p i))) (fun m hm=>?_) (zdE O g hn up k 0 k (by omega) (by omega) (Nat.le_refl _) (fun i hi=>absurd hi (Nat.not_lt_zero _)) fun i hi hk=>absurd hi (by omega))
  refine (ziG hn f (bubble p k (k - m)) (k + 1) (g.bub _ _) (by omega) (zop O (by rw [g.size];omega) up hm.1 hm.2.1 hm.2.2)).mono fun q h=>⟨h.1,?_⟩
  rw [show k + (f + 1)=k + 1 + f by omega]
  exact h.2
noncomputable def Eqs (lt:Nat->Nat->Bool)(p:Array Nat)(n q:Nat):Prop:=∀ i j,n - (q + 1)<=i->i < n->n - (q + 1)<=j->j < n->le lt (pa p i) (pa p j)
theorem zm0 {p:Array Nat}{k q:Nat}(hk:k<=p.size)(dn:Dn lt p k)(eq:Eqs lt p k q):Dn lt (kas_rev p (k - (q + 1)) k) k:=by
 intro i j hij hj
 rw [zdl hk,zdl hk]
 by_cases h1:k - (q + 1)<=i/\i < k
 ·rw [if_pos h1,if_pos (by omega)]
  exact eq _ _ (by omega) (by omega) (by omega) (by omega)
 ·rw [if_neg h1]
  by_cases h2:k - (q + 1)<=j/\j < k
  ·rw [if_pos h2];exact dn _ _ (by omega) (by omega)
  ·rw [if_neg h2];exact dn _ _ hij hj
theorem ze3 {p:Array Nat}{i j:Nat}(hj:j<=p.size){k:Nat}(h:j<=k):pa (kas_rev p i j) k=pa p k:=by rw [zdl hj,if_neg (by omega)]
theorem zdw (hn:1<=n):∀ (f:Nat) (p:Array Nat) (k q:Nat),Gd n p->1<=k->k + f<=n->q + 1<=k->Dn lt p k->Eqs lt p k q->Asks n lt (kas_desc f p k q) fun r=>Gd n r.1/\k<=r.2.1/\r.2.1<=k + f/\r.2.2 + 1<=r.2.1/\Dn lt r.1 r.2.1/\Eqs lt r.1 r.2.1 r.2.2
 | 0,p,k,q,g,h1,hk,hq,dn,eq=>⟨g,Nat.le_refl _,Nat.le_refl _,hq,dn,eq⟩
 | f + 1,p,k,q,g,h1,hk,hq,dn,eq=>by
  refine ⟨g.inn hn _,g.inn hn _,?_⟩
  have one:∀ p':Array Nat,Eqs lt p' (k + 1) 0:=fun p' i j a b c d=>by
   have:i=k:=by omega
   have:j=k:=by omega
   subst_vars
   exact O.le_refl _
  have more:∀ r:Array Nat×Nat×Nat,(Gd n r.1/\k + 1<=r.2.1/\r.2.1<=k + 1 + f/\r.2.2 + 1<=r.2.1/\Dn lt r.1 r.2.1/\Eqs lt r.1 r.2.1 r.2.2)->(Gd n r.1/\k<=r.2.1/\r.2.1<=k + (f + 1)/\r.2.2 + 1<=r.2.1/\Dn lt r.1 r.2.1/\Eqs lt r.1 r.2.1 r.2.2):=fun r ⟨a,b,c,d⟩=>⟨a,by omega,by omega,d⟩
  have hz:k<=p.size:=by rw [g.size];omega
  cases c:lt (p.getD k 0) (p.getD (k - 1) 0) with
  | true =>
   dsimp only
   rw [if_pos rfl]
   have lc:=O.le_of c
   by_cases h0:q > 0
   ·rw [if_pos h0]
    have d1:=zm0 O hz dn eq
    have e1:pa (kas_rev p (k - (q + 1)) k) k=pa p k:=ze3 O hz (Nat.le_refl _)
    have e2:le lt (pa p k) (pa (kas_rev p (k - (q + 1)) k) (k - 1)):=by
     rw [zdl hz,if_pos (by omega)]
     exact O.le_trans lc (eq _ _ (by omega) (by omega) (by omega) (by omega))
    exact (zdw hn f _ (k + 1) 0 (g.rev _ _) (by omega) (by omega) (by omega) (Dn.snoc O d1 h1 (by rw [e1];exact e2)) (one _)).mono more
   ·rw [if_neg h0]
    exact (zdw hn f p (k + 1) 0 g (by omega) (by omega) (by omega) (Dn.snoc O dn h1 lc) (one _)).mono more
  | false =>
   dsimp only
   rw [if_neg (by decide)]
   refine ⟨g.inn hn _,g.inn hn _,?_⟩
   cases c2:lt (p.getD (k - 1) 0) (p.getD k 0) with
   | true =>
    dsimp only
    rw [if_pos rfl]
    exact ⟨g,Nat.le_refl _,by show k<=k + (f + 1);omega,hq,dn,eq⟩
   | false =>
    dsimp only
    rw [if_neg (by decide)]
    refine (zdw hn f p (k + 1) (q + 1) g (by omega) (by omega) (by omega) (Dn.snoc O dn h1 c2) ?_).mono more
    have a1:le lt (pa p (k - 1)) (pa p k):=c
    have a2:le lt (pa p k) (pa p (k - 1)):=c2
    intro i j hi hi' hj hj'
    by_cases i1:i=k
    ·by_cases j1:j=k
     ·subst i1;subst j1;exact O.le_refl _
     ·subst i1;exact O.le_trans a2 (eq _ _ (by omega) (by omega) (by omega) (by omega))
    ·by_cases j1:j=k
     ·subst j1;exact O.le_trans (eq _ _ (by omega) (by omega) (by omega) (by omega)) a1
     ·exact eq _ _ (by omega) (by omega) (by omega) (by omega)
theorem zna {p:Array Nat}{k:Nat}(hk:k<=p.size)(dn:Dn lt p k):Up lt (kas_rev p 0 k) k:=by
 intro i j hij hj
 rw [zdl hk,zdl hk,if_pos (by omega),if_pos (by omega)]
 exact dn _ _ (by omega) (by omega)
theorem zfk (hn:1<=n){p:Array Nat}{k m:Nat}(g:Gd n p)(h1:1<=k)(hk:k<=m)(hm:m<=n)(dn:Dn lt p k):Asks n lt (kas_tail3 k m p) fun r=>Gd n r.2/\1<=r.1/\r.1<=m/\Up lt r.2 r.1:=by
 have hz:k<=p.size:=by rw [g.size];omega
 unfold kas_tail3
 refine Asks.bind (fun a h=>?_) (zf1 O (g.rev 0 k) hn (m - k) k h1 (zna O hz dn))
 exact ⟨g.rev 0 k,by have:=h.1;show 1<=a;omega,by have:=h.2.1;show a<=m;omega,h.2.2.1⟩
theorem zdv (hn:1<=n){p:Array Nat}{k m:Nat}(g:Gd n p)(h1:1<=k)(hk:k + 1<=m)(hm:m<=n)(dn:Dn lt p (k + 1)):Asks n lt (kas_descPart k m p) fun r=>Gd n r.2/\1<=r.1/\r.1<=m/\Up lt r.2 r.1:=by
 unfold kas_descPart
 refine Asks.bind (fun r h=>?_) (zdw O hn (m - (k + 1)) p (k + 1) 0 g (by omega) (by omega) (by omega) dn fun i j a b c d=>by
  have:i=k:=by omega
  have:j=k:=by omega
  subst_vars
  exact O.le_refl _)
 obtain ⟨a,b,c,d,e,f⟩:=h
 by_cases h0:r.2.2 > 0
 ·rw [if_pos h0]
  exact zfk O hn (a.rev _ _) (by omega) (by omega) hm (zm0 O (by rw [a.size];omega) e f)
 ·rw [if_neg h0]
  exact zfk O hn a (by omega) (by omega) hm e
theorem zjn (hn:1<=n){p:Array Nat}(g:Gd n p):Asks n lt (kas_count n p) fun r=>Gd n r.2/\1<=r.1/\r.1<=n/\Up lt r.2 r.1:=by
 unfold kas_count
 refine Asks.bind (fun m h=>?_) (zf1 O g hn (n - 1) 1 (Nat.le_refl _) fun i j a b=>by
  have:i=0:=by omega
  have:j=0:=by omega
  subst_vars
  exact O.le_refl _)
 obtain ⟨h1,h2,up,dec⟩:=h
 by_cases e:m=n
 ·rw [if_pos (by simpa using e)]
  exact ⟨g,h1,by show m<=n;omega,up⟩
 ·rw [if_neg (by simpa using e)]
  have dc:=dec (by omega)
  by_cases h3:m > 1
  ·rw [if_pos h3]
   refine ⟨g.inn hn _,g.inn hn _,?_⟩
   cases c:lt (p.getD 0 0) (p.getD (m - 1) 0) with
   | true =>
    dsimp only
    rw [if_pos rfl]
    exact ⟨g,h1,by show m<=n;omega,up⟩
   | false =>
    dsimp only
    rw [if_neg (by decide)]
    have hz:m<=p.size:=by rw [g.size];omega
    have all:∀ i j,i < m->j < m->le lt (pa p i) (pa p j):=fun i j hi hj=>O.le_trans (O.le_trans (up i (m - 1) (by omega) (by omega)) c) (up 0 j (by omega) hj)
    refine zdv O hn (g.rev 0 m) h1 (by omega) (Nat.le_refl _) (Dn.snoc O (fun i j hij hj=>?_) h1 ?_)
    ·rw [zdl hz,zdl hz,if_pos (by omega),if_pos (by omega)]
     exact all _ _ (by omega) (by omega)
    ·rw [ze3 O hz (Nat.le_refl _),zdl hz,if_pos (by omega)]
     exact O.le_trans (O.le_of dc) (all _ _ (by omega) (by omega))
  ·rw [if_neg h3]
   have:m=1:=by omega
   subst this
   refine zdv O hn g (Nat.le_refl _) (by omega) (Nat.le_refl _) (Dn.snoc O (fun i j hij hj=>?_) (Nat.le_refl _) (O.le_of dc))
   have:i=0:=by omega
   have:j=0:=by omega
   subst_vars
   exact O.le_refl _
theorem zlm (hn:1<=n):Asks n lt (kas_sort n) fun q=>Gd n q/\Up lt q n:=by
 unfold kas_sort
 refine Asks.bind (fun r h=>?_) (zjn O hn (Array.Perm.refl _))
 obtain ⟨g,h1,h2,up⟩:=h
 by_cases h:r.1 < n
 ·rw [if_pos h,show max r.1 1=r.1 by omega]
  refine (ziG O hn (n - r.1) r.2 r.1 g (by omega) up).mono fun q hq=>⟨hq.1,?_⟩
  rw [← show r.1 + (n - r.1)=n by omega]
  exact hq.2
 ·rw [if_neg h]
  have:r.1=n:=by omega
  rw [this] at up
  exact ⟨g,up⟩
end
theorem zll {n:Nat}{lt:Nat->Nat->Bool}{α:Type}{cmp:Nat->Nat->(Bool->Shared->Prop)->Shared->Prop}(J:Shared->Prop)(hc:∀ i j C s,i < n->j < n->J s->(∀ s',J s'->C (lt i j) s')->cmp i j C s){Q:α->Prop}{R:α->Shared->Prop}(hR:∀ a s,J s->Q a->R a s) :
  ∀ {t:KasT α},Asks n lt t Q->∀ s,J s->t.kasWp cmp R s
 | .ret a,h,s,hs=>hR a s hs h
 | .ask i j k,h,s,hs=>hc i j _ s h.1 h.2.1 hs fun s' hs'=>zll J hc hR h.2.2 s' hs'
end L2
namespace L2
open PySem PySem.Spec PyProof.Rows PySem.SeqAt
open PySem.AutoSeq1 (wpAny_loadPart')
open PySem.MeetsSeq PySem.MeetsSeq2 PySem.MeetsSeq3
noncomputable def LtAt (A:Around)(s:Shared)(y x:Value)(b:Bool):Prop:=∀ (prog:Program) (w:World) (E:Value->Shared->Prop) (Q:Value->Shared->Prop),Q (.bool b) s->wpAny (model prog w) A (richCompare .Lt y x) Q E s
inductive Cmps (A:Around)(s:Shared):List Value->List Value->Bool->Prop
 | nn:Cmps A s [] [] false
 | nc {v:Value} {vs:List Value}:Cmps A s [] (v :: vs) true
 | cn {u:Value} {us:List Value}:Cmps A s (u :: us) [] false
 | eq {u v:Value} {us vs:List Value} {b:Bool}:EqAt A s u v true->Cmps A s us vs b->Cmps A s (u :: us) (v :: vs) b
 | ne {u v:Value} {us vs:List Value} {b:Bool}:EqAt A s u v false->LtAt A s u v b->Cmps A s (u :: us) (v :: vs) b
noncomputable def Lft (us:Array Value)(i:Nat)(xs:List Value):Prop:=i<=us.size/\us.toList.drop i=xs
theorem Lft.end_ {us:Array Value}{i:Nat}(h:Lft us i []):us.size=i/\us[i]?=none:=by
 have e:=congrArg List.length h.2
 rw [List.length_drop,Array.length_toList,List.length_nil] at e
 have:=h.1
 exact ⟨by omega,Array.getElem?_eq_none (by omega)⟩
theorem Lft.next {us:Array Value}{i:Nat}{x:Value}{xs:List Value}(h:Lft us i (x :: xs)):i < us.size/\us[i]?=some x/\Lft us (i + 1) xs:=by
 have e:=congrArg List.length h.2
 rw [List.length_drop,Array.length_toList,List.length_cons] at e
 have lt:i < us.toList.length:=by rw [Array.length_toList];omega
 have e2:=h.2
 rw [List.drop_eq_getElem_cons lt] at e2
 injection e2 with e3 e4
 rw [Array.length_toList] at lt
 refine ⟨lt,?_,lt,e4⟩
 rw [Array.getElem?_eq_getElem lt,← e3]
 rfl
noncomputable abbrev zhb (l b:Addr)(ol ob:Obj)(xs ys:List Value):PySem.Spec:=fun A R s=>s.heap.get? l=some ol/\s.heap.get? b=some ob/\∃ r,Cmps A.in1 s xs ys r/\R (.ok (.ret (.bool r))) s
theorem zeZ {l b:Addr}{ol ob:Obj}{xs ys:List Value}{i:Nat}{prog:Program}{w:World}{A:Around}{R:Result->Shared->Prop}{s:Shared}(m:Meets (Builtin.«list.__eq__.loop» (ltAsk l b i)) (zhb l b ol ob xs ys))(h:zhb l b ol ob xs ys A R s) :
  (Code.builtin "list.__eq__.loop" (ltAsk l b i)).quiet=true/\codeAny (model prog w) A (.builtin "list.__eq__.loop" (ltAsk l b i)) R s:=by
 refine ⟨plainId_quiet plain_eq_loop (ltAsk l b i),codeAny_builtin entry_eq_loop ?_⟩
 have u:=A.under_plainId plain_eq_loop (ltAsk l b i)
 rw [u]
 exact m prog w A R s h
theorem zge (l b:Addr)(us vs:Array Value)(n k:Nat)(du dv:Option Addr)(su sv:Array (Option Value)):∀ (xs ys:List Value) (i:Nat),Lft us i xs->Lft vs i ys ->
  Meets (Builtin.«list.__eq__.loop» (ltAsk l b i)) (zhb l b { cls:=.type "list",dict:=du,data:=.seq us n,slots:=su } { cls:=.type "list",dict:=dv,data:=.seq vs k,slots:=sv } xs ys)
 | [],ys,i,f,g=>by
  rintro prog w A R ⟨hp,ge,d,tk,os⟩ ⟨atL,atB,r,hc,h⟩
  obtain ⟨z,no⟩:=f.end_
  have says:r=decide (us.size < vs.size):=by
   cases hc with
   | nn=>exact (decide_eq_false (by rw [z,(g.end_).1];exact Nat.lt_irrefl _)).symm
   | nc=>exact (decide_eq_true (by rw [z];exact (g.next).1)).symm
  rw [says] at h
  wp_walk using wpAny_loadPart' atL,wpAny_loadPart' atB
  rw [show ((i:Nat):Int).toNat=i from rfl,no]
  cases vs[i]? <;> wp_walk using wpAny_loadPart' atL,wpAny_loadPart' atB <;> exact h
 | x :: xs,[],i,f,g=>by
  rintro prog w A R ⟨hp,ge,d,tk,os⟩ ⟨atL,atB,r,hc,h⟩
  obtain ⟨z,no⟩:=g.end_
  obtain ⟨lt,is,_⟩:=f.next
  cases hc
  have says:false=decide (us.size < vs.size):=(decide_eq_false (by omega)).symm
  rw [says] at h
  wp_walk using wpAny_loadPart' atL,wpAny_loadPart' atB
  rw [show ((i:Nat):Int).toNat=i from rfl,no,is]
  wp_walk using wpAny_loadPart' atL,wpAny_loadPart' atB
  exact h
 | x :: xs,y :: ys,i,f,g=>by
  have go:=zge l b us vs n k du dv su sv xs ys (i + 1) (f.next).2.2 (g.next).2.2
  rintro prog w A R ⟨hp,ge,d,tk,os⟩ ⟨atL,atB,r,hc,h⟩
  obtain ⟨_,isU,_⟩:=f.next
  obtain ⟨_,isV,_⟩:=g.next
  wp_walk using wpAny_loadPart' atL,wpAny_loadPart' atB
  rw [show ((i:Nat):Int).toNat=i from rfl,isU,isV]
  cases hc with
  | eq asked rest =>
   refine wpAny_bind (asked prog w _ _ ?_)
   wp_walk
   exact zeZ go ⟨atL,atB,r,rest,h⟩
  | ne asked less =>
   refine wpAny_bind (asked prog w _ _ ?_)
   have less:=less prog w
   wp_walk using wpAny_loadPart' atL,wpAny_loadPart' atB
   rw [isU,isV]
   wp_walk using less
   exact h
theorem zgD (l b:Addr)(us vs:Array Value)(n k:Nat)(du dv:Option Addr)(su sv:Array (Option Value)) :
  Meets (Builtin.«list.__lt__» ⟨[.ref l,.ref b],[]⟩) (zhb l b { cls:=.type "list",dict:=du,data:=.seq us n,slots:=su } { cls:=.type "list",dict:=dv,data:=.seq vs k,slots:=sv } us.toList vs.toList):=by
 have go:=zge l b us vs n k du dv su sv us.toList vs.toList 0 ⟨Nat.zero_le _,rfl⟩ ⟨Nat.zero_le _,rfl⟩
 rintro prog w A R ⟨hp,ge,d,tk,os⟩ ⟨atL,atB,h⟩
 have kind:=AutoSeq1.sub_list_list
 wp_walk using wpAny_loadPart' atL,wpAny_loadPart' atB
 exact zeZ go ⟨atL,atB,h⟩
theorem zft (l b:Addr)(us vs:Array Value)(n k:Nat)(du dv:Option Addr)(su sv:Array (Option Value)) :
  Meets (Builtin.«tuple.__lt__» ⟨[.ref l,.ref b],[]⟩) (zhb l b { cls:=.type "tuple",dict:=du,data:=.seq us n,slots:=su } { cls:=.type "tuple",dict:=dv,data:=.seq vs k,slots:=sv } us.toList vs.toList):=by
 refine .of_wp fun prog w A R s1 h=>?_
 obtain ⟨hp,g,d,tk,os⟩:=s1
 obtain ⟨hl,hb,r,hc,h⟩:=h
 have f2:=AutoSeq1.sub_tuple_tuple
 wp_walk using wpAny_loadPart' hl,wpAny_loadPart' hb,wpAny_forIn_list _ (fun rest b s'=>b.1=none/\s'=⟨hp,g,d,tk,os⟩/\∃ (xs ys:List Value),rest=xs.zip ys/\Cmps A.in1 ⟨hp,g,d,tk,os⟩ xs ys r/\xs.length + vs.size=ys.length + us.size) _
 case turn =>
  rintro ⟨y,x⟩ rest b s' ⟨hb',rfl,xs,ys,hz,hc',hlen⟩
  cases hc' with
  | nn=>cases hz
  | nc=>cases hz
  | cn=>cases hz
  | eq asked more =>
   rw [List.zip_cons_cons] at hz
   injection hz with hyx hrest
   injection hyx with hy hx
   subst hy hx
   simp only [List.length_cons] at hlen
   refine wpAny_bind (asked prog w _ _ ?_)
   wp_walk
   exact ⟨rfl,rfl,_,_,hrest,more,by omega⟩
  | ne asked less =>
   rw [List.zip_cons_cons] at hz
   injection hz with hyx hrest
   injection hyx with hy hx
   subst hy hx
   refine wpAny_bind (asked prog w _ _ ?_)
   have less:=less prog w
   wp_walk using less
   refine ⟨_,rfl,?_⟩
   simpa using h
 case fin =>
  rintro ⟨b1,b2⟩ s' ⟨hb',rfl,xs,ys,hz,hc',hlen⟩
  simp only at hb'
  subst hb'
  have hv:r=decide (us.size < vs.size):=by
   cases hc' with
   | nn =>
    simp only [List.length_nil] at hlen
    exact (decide_eq_false (by omega)).symm
   | nc =>
    simp only [List.length_nil,List.length_cons] at hlen
    exact (decide_eq_true (by omega)).symm
   | cn =>
    simp only [List.length_nil,List.length_cons] at hlen
    exact (decide_eq_false (by omega)).symm
   | eq _ _=>rw [List.zip_cons_cons] at hz;cases hz
   | ne _ _=>rw [List.zip_cons_cons] at hz;cases hz
  rw [hv] at h
  wp_walk
  exact ⟨_,rfl,by simpa [Builtin.Tuple.tupleCompareSizes] using h⟩
 case h =>
  exact ⟨rfl,rfl,us.toList,vs.toList,rfl,hc,by simp [Nat.add_comm]⟩
end L2
namespace Lw
open PySem PySem.Spec PyProof.Rows PySem.SeqAt L2
theorem zmo (m m':M):eqD (mD m) (mD m')=decide (m=m'):=by
 obtain ⟨a,x,c⟩:=m
 obtain ⟨a',x',c'⟩:=m'
 rw [Bool.eq_iff_iff]
 simp [mD,eqD,eqDs]
 exact ⟨fun ⟨h1,h2,h3⟩=>⟨by omega,h2,by omega⟩,fun ⟨h1,h2,h3⟩=>⟨by omega,h2,by omega⟩⟩
theorem zjF (A:Around)(s:Shared)(x y:Str)(t u:Tok):LtAt A s (.str x t) (.str y u) (sL x y):=fun prog w E Q h=>(lt_str h:wpAny (model prog w) A (compareOp .Lt (.str x t) (.str y u)) Q E s)
theorem zgL (A:Around)(s:Shared)(x y:Int)(t u:Tok):LtAt A s (.int x t) (.int y u) (decide (x < y)):=fun prog w E Q h=>HT.rcLt_int A s x t y u prog w E Q h
section
variable {P:Program}{w:World}{H:Hp}{s:Shared}
theorem vals3 {a b c:V}{us:List Value}(h:Vals [a,b,c] us):∃ u v x,us=[u,v,x]/\RelV a u/\RelV b v/\RelV c x:=by
 cases h with
 | cons r1 h =>
  obtain ⟨v,x,rfl,r2,r3⟩:=Vals.two h
  exact ⟨_,v,x,rfl,r1,r2,r3⟩
theorem zio (ok:HOk P w H s.heap){m:M}{v:V}{u:Value}(h:Rep H (mD m) v)(r:RelV v u):∃ p t1 t2 t3,u = .ref p/\s.heap.IsTuple p #[.int m.1 t1,.str m.2.1 t2,.int m.2.2 t3]:=by
 obtain ⟨p,vs,rfl,hp,x1,r1,rfl,e1,x2,r2,rfl,e2,x3,r3,rfl,e3,e4⟩:=h
 cases e1;cases e2;cases e3
 cases (show r3=[] from e4)
 cases r
 obtain ⟨its,rv,ht⟩:=zcI ok hp
 obtain ⟨u1,u2,u3,rfl,⟨t1,rfl⟩,⟨t2,rfl⟩,⟨t3,rfl⟩⟩:=vals3 rv
 exact ⟨p,t1,t2,t3,rfl,ht⟩
theorem znW (ok:HOk P w H s.heap)(A:Around)(hu:A.units + 8 < cLine){m m':M}{v v':V}{u u':Value}(h:Rep H (mD m) v)(h':Rep H (mD m') v')(r:RelV v u)(r':RelV v' u')(ne:m≠m'):LtAt A s u u' (ltM m m'):=by
 obtain ⟨p,t1,t2,t3,rfl,⟨⟨c,dd,dt,sl⟩,ho,hc,n,hd⟩⟩:=zio ok h r
 obtain ⟨p',t1',t2',t3',rfl,⟨⟨c',dd',dt',sl'⟩,ho',hc',n',hd'⟩⟩:=zio ok h' r'
 simp only at hc hd hc' hd'
 subst hc hd hc' hd'
 obtain ⟨a,x,b⟩:=m
 obtain ⟨a',x',b'⟩:=m'
 have q:Cmps A.in1 s [.int a t1,.str x t2,.int b t3] [.int a' t1',.str x' t2',.int b' t3'] (ltM (a,x,b) (a',x',b')):=by
  have hi:A.in1.units + 0 < cLine:=by rw [zbk];omega
  have e1:=eqAtD ok (.int a) (.int a') A.in1 (.int a) (.int a') (.int a t1) (.int a' t1') rfl rfl ⟨_,rfl⟩ ⟨_,rfl⟩ hi
  have e2:=eqAtD ok (.str x) (.str x') A.in1 (.str x) (.str x') (.str x t2) (.str x' t2') rfl rfl ⟨_,rfl⟩ ⟨_,rfl⟩ hi
  have e3:=eqAtD ok (.int b) (.int b') A.in1 (.int b) (.int b') (.int b t3) (.int b' t3') rfl rfl ⟨_,rfl⟩ ⟨_,rfl⟩ hi
  unfold ltM
  dsimp only
  by_cases h1:a=a'
  ·subst h1
   rw [if_pos rfl]
   refine .eq (by rw [zb5] at e1;exact e1) ?_
   by_cases h2:x=x'
   ·subst h2
    rw [if_pos rfl]
    refine .eq (by rw [zb5] at e2;exact e2) ?_
    have h3:b≠b':=fun z=>ne (by rw [z])
    have e:eqD (.int (b:Int)) (.int (b':Int))=false:=by
     show ((b:Int) == (b':Int))=false
     simp;omega
    rw [e] at e3
    have:decide (b < b')=decide ((b:Int) < (b':Int)):=by rw [Bool.eq_iff_iff];simp
    rw [this]
    exact .ne e3 (zgL _ _ _ _ _ _)
   ·rw [if_neg h2]
    have e:eqD (.str x) (.str x')=false:=by
     show (x == x')=false
     simpa using h2
    rw [e] at e2
    exact .ne e2 (zjF _ _ _ _ _ _)
  ·rw [if_neg h1]
   have e:eqD (.int (a:Int)) (.int (a':Int))=false:=by
    show ((a:Int) == (a':Int))=false
    simp;omega
   rw [e] at e1
   have:decide (a < a')=decide ((a:Int) < (a':Int)):=by rw [Bool.eq_iff_iff];simp
   rw [this]
   exact .ne e1 (zgL _ _ _ _ _ _)
 intro prog w' E Q hq
 exact richCompare_meets_room (op:=.Lt) ⟨_,ho,rfl⟩ ⟨_,ho',rfl⟩ PySem.F.slot_tuple_lt PySem.F.entry_tuple_lt (PySem.F.args_tuple_lt_2 _ _) (zft p p' _ _ n n' dd dd' sl sl')
  ⟨ho,ho',_,q,show Value.bool _≠Value.notImplemented/\Q _ s from ⟨(fun x=>nomatch x),hq⟩⟩ (by omega)
theorem zgH (ok:HOk P w H s.heap)(A:Around)(hu:A.units + 8 < cLine):∀ (ks ks':List M) (vs vs':List V) (us us':List Value),Reps H (ks.map mD) vs->Reps H (ks'.map mD) vs'->Vals vs us->Vals vs' us'->Cmps A s us us' (lexK ks ks')
 | [],[],vs,vs',us,us',h,h',r,r'=>by
  cases (show vs=[] from h);cases (show vs'=[] from h')
  cases r.zero;cases r'.zero
  exact .nn
 | [],m' :: ks',vs,vs',us,us',h,⟨x',q',e',_,_⟩,r,r'=>by
  cases (show vs=[] from h);subst e'
  cases r.zero
  cases r'
  exact .nc
 | m :: ks,[],vs,vs',us,us',⟨x,q,e,_,_⟩,h',r,r'=>by
  cases (show vs'=[] from h');subst e
  cases r'.zero
  cases r
  exact .cn
 | m :: ks,m' :: ks',vs,vs',us,us',⟨x,q,e,h1,h2⟩,⟨x',q',e',h1',h2'⟩,r,r'=>by
  subst e e'
  cases r with
  | cons r1 r2 =>
   cases r' with
   | cons r1' r2' =>
    have e:=eqAtD ok (mD m) (mD m') A _ _ _ _ h1 h1' r1 r1' (by
     have:depD (mD m)=1:=rfl
     omega)
    rw [zmo] at e
    rw [lexK]
    by_cases ne:m=m'
    ·rw [if_pos ne]
     rw [decide_eq_true ne] at e
     exact .eq e (zgH ok A hu ks ks' _ _ _ _ h2 h2' r2 r2')
    ·rw [if_neg ne]
     rw [decide_eq_false ne] at e
     exact .ne e (znW ok A hu h1 h1' r1 r1' ne)
theorem zfQ (ok:HOk P w H s.heap){ks:List M}{v:V}{u:Value}(h:Rep H (.lst (ks.map mD)) v)(r:RelV v u):∃ l vs us,u = .ref l/\Reps H (ks.map mD) vs/\Vals vs us/\s.heap.IsList l us.toArray:=by
 obtain ⟨l,vs,rfl,hl,hv⟩:=h
 cases r
 obtain ⟨us,rv,hl'⟩:=zb3 ok hl
 exact ⟨l,vs,us,rfl,hv,rv,hl'⟩
theorem zhJ (ok:HOk P w H s.heap)(A:Around)(hu:A.units + 16 < cLine){ks ks':List M}{v v':V}{u u':Value}(h:Rep H (.lst (ks.map mD)) v)(h':Rep H (.lst (ks'.map mD)) v')(r:RelV v u)(r':RelV v' u') :
  s.TypeIs u "list"/\s.TypeIs u' "list"/\∀ (prog:Program) (w:World) (E:Value->Shared->Prop) (Q:Value->Shared->Prop),Q (.bool (lexK ks ks')) s->wpAny (model prog w) A (call (.builtin "list.__lt__") [u,u']) Q E s:=by
 obtain ⟨l,vs,us,rfl,hv,rv,hl⟩:=zfQ ok h r
 obtain ⟨l',vs',us',rfl,hv',rv',hl'⟩:=zfQ ok h' r'
 obtain ⟨⟨c,dd,dt,sl⟩,ho,hc,n,hd⟩:=id hl
 obtain ⟨⟨c',dd',dt',sl'⟩,ho',hc',n',hd'⟩:=id hl'
 simp only at hc hd hc' hd'
 subst hc hd hc' hd'
 refine ⟨⟨_,ho,rfl⟩,⟨_,ho',rfl⟩,fun prog w E Q hq=>?_⟩
 exact call_meets PySem.F.slot_list_lt ⟨_,ho,rfl⟩ PySem.F.entry_list_lt (PySem.F.args_list_lt_2 _ _) (zgD l l' _ _ n n' dd dd' sl sl') ⟨ho,ho',_,zgH ok A.in1 (by rw [zbk];omega) ks ks' vs vs' us us' hv hv' rv rv',hq⟩
end
end Lw
namespace L2
open PySem PySem.Spec PyProof.Rows
theorem Inv.adopt {X:Cx}{pins:List (Addr×Obj)}{σ:St}{H:Hp}{s:Shared}{a:Addr}{o:HO}(I:Inv X pins σ H s)(f:FpOk X pins H a)(new:ObjOk X.prog X.w (upd H a o) s.heap a o):Inv X pins σ (upd H a o) s:=by
 obtain ⟨f0,f1,f2,f3,f4,f5⟩:=f
 have keep:∀ b u,H b=some u->upd H a o b=some u:=fun b u e=>by rw [zac (zab e f0)];exact e
 refine { ok:=I.ok,os:=I.os,bare:=I.bare,base:=?_,loc:=I.loc,cell:=I.cell,free:=?_,freeC:=?_,pin:=?_,hok:=?_,len:=I.len }
 ·have u:=I.base
  exact {
   keep:=u.keep,slot:=u.slot,there:=u.there,tups:=fun b xs e=>keep _ _ (u.tups b xs e),frzs:=fun b q r e=>keep _ _ (u.frzs b q r e),
   tbls:=fun b ps e=>by obtain ⟨more,h⟩:=u.tbls b ps e;exact ⟨more,keep _ _ h⟩,
   free:=fun b q e n hx=>by
    have ne:b≠a:=fun z=>by
     rcases f3 with h | h
     ·exact hx (z ▸ h)
     ·exact Nat.lt_irrefl _ (Nat.lt_of_lt_of_le (Heap.lt_size e) (z ▸ h))
    rw [zac ne]
    exact u.free b q e n hx }
 ·rw [zac (Ne.symm f1)]
  exact I.free
 ·intro x c e
  rw [zac (f4 x c e)]
  exact I.freeC x c e
 ·intro p hp
  obtain ⟨h1,h2,h3⟩:=I.pin p hp
  exact ⟨h1,by rw [zac (f5 p hp)];exact h2,h3⟩
 ·intro b u e
  by_cases hb:b=a
  ·subst hb
   rw [upd_same] at e
   cases e
   exact new
  ·rw [zac hb] at e
   exact (I.hok b u e).stay (fun _ _ _ q=>q) (fun c q=>keep _ _ q) (fun c xs q=>keep _ _ q)
theorem FpOk.at {X:Cx}{pins:List (Addr×Obj)}{H H':Hp}{b:Addr}(f:FpOk X pins H b)(h:H' b=none):FpOk X pins H' b:=⟨h,f.2⟩
end L2
namespace Lw
open PySem PySem.Spec PyProof.Rows PySem.SeqAt PySem.W L2
noncomputable def kyD (d:D):D:=.lst ((key d).map mD)
theorem zoh {P:Program}{w:World}{H:Hp}{s:Shared}(ok:HOk P w H s.heap)(A:Around)(hu:A.units + 32 < cLine){d e:D}{v v':V}{u u':Value}(h:Rep H (kyD d) v)(h':Rep H (kyD e) v')(r:RelV v u)(r':RelV v' u'){prog:Program}{w':World}{E:Value->Shared->Prop}{Q:Bool->Shared->Prop}
  (q:Q (lexK (key d) (key e)) s):wpAny (model prog w') A (keyLt' oneType' u u') Q E s:=by
 obtain ⟨t1,t2,t3⟩:=zhJ ok A (by omega) h h' r r'
 rw [keyLt'_oneType,oneLt'_eq,if_pos rfl]
 refine wpAny_bind (wpAny_cRoomFor (by omega) (wpAny_bind (wpAny_callSpecialIfBound?_slot t1 F.slot_list_lt (t3 prog w' _ _ ?_))))
 exact wpAny_truthy_bool q
theorem zja {M:Model}{h:Heap}{l:Addr}{us:Array Value}(hl:h.IsList l us):Looks M h (typeOf (.ref l)) (.type "list"):=fun A Q E s k q=>by
 obtain ⟨o,ho,hc,_⟩:=hl
 exact wpAny_typeOf ⟨o,k _ _ ho,hc⟩ q
noncomputable def ltI (ds:List D)(i j:Nat):Bool:=lexK (key (ds.getD i .non)) (key (ds.getD j .non))
theorem zlR (n:Nat)(ds:List D):Ord n (ltI ds):=⟨fun i=>zd3 _,fun i j h=>zeB h,fun i j k h1 h2=>ze8 h2 h1⟩
theorem zhM {ks is:List Value}{i:Nat}(h:ks.length=is.length)(hi:i < is.length):kas_item (ks.toArray.zip is.toArray) i=(ks.getD i .none,is.getD i .none):=by
 unfold kas_item
 have h1:i < (ks.toArray.zip is.toArray).size:=by simp;omega
 rw [Array.getD_eq_getD_getElem?,Array.getElem?_eq_getElem h1]
 have h2:i < ks.length:=by omega
 simp [hi,h2]
theorem zd5 {H:Hp}{ds:List D}{vs:List V}(h:Reps H ds vs){i:Nat}(hi:i < ds.length):Rep H (ds.getD i .non) (vs.getD i .non):=by
 obtain ⟨v,hv,r⟩:=Reps.get' h (List.getElem?_eq_getElem hi)
 have e1:ds.getD i .non=ds[i]:=by simp [hi]
 have e2:vs.getD i .non=v:=by rw [List.getD_eq_getElem?_getD,hv];rfl
 rw [e1,e2]
 exact r
theorem zd4 {vs:List V}{us:List Value}(h:Vals vs us){i:Nat}(hi:i < vs.length):RelV (vs.getD i .non) (us.getD i .none):=by
 obtain ⟨u,hu,r⟩:=h.get (List.getElem?_eq_getElem hi)
 have e1:vs.getD i .non=vs[i]:=by simp [hi]
 have e2:us.getD i .none=u:=by rw [List.getD_eq_getElem?_getD,hu];rfl
 rw [e1,e2]
 exact r
theorem zh9 {H:Hp}{ds:List D}{vs:List V}(h:Reps H ds vs):∀ (l:List Nat),(∀ i ∈ l,i < ds.length)->Reps H (l.map fun i=>ds.getD i .non) (l.map fun i=>vs.getD i .non)
 | [],_=>rfl
 | i :: l,hl=>⟨_,_,rfl,zd5 h (hl i List.mem_cons_self),zh9 h l fun j hj=>hl j (List.mem_cons_of_mem _ hj)⟩
theorem zh2 {vs:List V}{us:List Value}(h:Vals vs us):∀ (l:List Nat),(∀ i ∈ l,i < vs.length)->Vals (l.map fun i=>vs.getD i .non) (l.map fun i=>us.getD i .none)
 | [],_=>.nil
 | i :: l,hl=>.cons (zd4 h (hl i List.mem_cons_self)) (zh2 h l fun j hj=>hl j (List.mem_cons_of_mem _ hj))
theorem zmc (ds:List D):(List.range ds.length).map (fun i=>ds.getD i .non)=ds:=by
 apply List.ext_getElem
 ·simp
 ·intro i h1 h2
  simp [h2]
section
variable {X:Cx}{pins:List (Addr×Obj)}{σ:L2.St}{H Hj:Hp}{s:Shared}{a kS:Addr}{e1 e:Nat}{kvs xs:List V}{kus its:List Value}{ds:List D}{A:Around}{E:Value->Shared->Prop}
theorem zlB (hu:A.units + 64 < cLine)(I:Inv X pins σ Hj s)(sH:Same H Hj)(fa:FpOk X pins Hj a)(fk:FpOk X pins Hj kS)(ne:kS≠a)(ha:s.heap.get? a=some (seqObj "list" #[] e1))(hk:s.heap.get? kS=some (seqObj "list" kus.toArray e))
  (rk:Vals kvs kus) (rr:Reps Hj (ds.map kyD) kvs) (rx:Vals xs its) (rd:Reps H ds xs) (h2:2<=ds.length) (h64:ds.length < 64) {Pf:PySem.Fin->Shared->Prop}
  (h:∀ s' ys es,Inv X pins σ (upd Hj a (.lst ys)) s'->es.Perm ds->es.Pairwise leK->Reps H es ys->Pf (.done (.ret .none)) s') :
  wpAny (model X.prog X.w) A (ksk_end a false its.toArray e1 (.ref kS) kus.toArray) Pf E s:=by
 have l1:=Reps.len rr
 rw [List.length_map] at l1
 have l2:=rk.length
 have l3:=Reps.len rd
 have l4:=rx.length
 have lk:kus.length=its.length:=by omega
 have n2:¬ its.toArray.size < 2:=by rw [List.size_toArray];omega
 unfold ksk_end
 dsimp only
 rw [if_neg n2,if_neg n2,if_neg Bool.false_ne_true]
 have look:∀ v ∈ kus,Looks (model X.prog X.w) s.heap (typeOf v) (.type "list"):=fun v hv=>by
  obtain ⟨i,hi⟩:=List.getElem?_of_mem hv
  have hi':=(List.getElem?_eq_some_iff.mp hi).1
  have r1:=zd5 rr (i:=i) (by rw [List.length_map];omega)
  have r2:=zd4 rk (i:=i) (by omega)
  have ek:kus.getD i .none=v:=by rw [List.getD_eq_getElem?_getD,hi];rfl
  rw [ek] at r2
  have ed:(ds.map kyD).getD i .non=kyD (ds.getD i .non):=by
   have:i < ds.length:=by omega
   simp [this]
  rw [ed] at r1
  obtain ⟨l,_,us,rfl,_,_,hl⟩:=zfQ I.hok r1 r2
  exact zja hl
 refine wpAny_bind (kas_kind (vs:=kus) (by omega) look (by decide) (by decide) ?_)
 have est:SortSt.mk' oneType' (kus.toArray.zip its.toArray) #[] 7 none=kas_st oneType' (kus.toArray.zip its.toArray) (List.toArray (List.range ds.length)):=by
  have e:=kas_range (kus.toArray.zip its.toArray)
  have z:(kus.toArray.zip its.toArray).size=ds.length:=by simp;omega
  rw [z] at e
  unfold kas_st
  rw [e]
 have run:=kas_runs (prog:=X.prog) (w:=X.w) (A:=A) (E:=E) (κ:=oneType') (it:=kus.toArray.zip its.toArray) (n:=ds.length) (s:=s)
  (Q:=fun _ st' s'=>s'=s/\∃ p:Array Nat,Gd ds.length p/\Up (ltI ds) p ds.length/\arrOf st'=p.map (kas_item (kus.toArray.zip its.toArray))/\failedOf st'=none)
  (G:=fun p s'=>s'=s/\Gd ds.length p/\Up (ltI ds) p ds.length) h2 h64 (fun p' st' s' _ a2 a3 a4=>⟨a4.1,p',a4.2.1,a4.2.2,a2,a3⟩) ?ask
 case ask =>
  refine zll (n:=ds.length) (lt:=ltI ds) (fun s'=>s'=s) ?_ (fun p s' e1 e2=>⟨e1,e2⟩) (zlm (zlR ds.length ds) (by omega)) s rfl
  intro i j C s' hi hj es hC
  subst es
  unfold kas_cmp
  rw [zhM lk (by omega),zhM lk (by omega)]
  have g1:=zd5 rr (i:=i) (by rw [List.length_map];omega)
  have g2:=zd5 rr (i:=j) (by rw [List.length_map];omega)
  have ed:∀ i,i < ds.length->(ds.map kyD).getD i .non=kyD (ds.getD i .non):=fun i hi=>by simp [hi]
  rw [ed i hi] at g1
  rw [ed j hj] at g2
  exact zoh I.hok A (by omega) g1 g2 (zd4 rk (by omega)) (zd4 rk (by omega)) (hC _ rfl)
 rw [← est] at run
 refine wpAny_bind (wpAny_mono run ?_ fun _ _ z=>z)
 rintro ⟨⟨⟩,st'⟩ s' ⟨rfl,p,gp,up,har,hf⟩
 have ho:(arrOf st').map (·.2)=(p.toList.map fun i=>its.getD i .none).toArray:=by
  rw [har]
  apply Array.toList_inj.mp
  rw [Array.map_map,Array.toList_map]
  refine List.map_congr_left fun i hi=>?_
  have:i < ds.length:=by
   have:=(Array.perm_iff_toList_perm.mp gp).mem_iff.mp hi
   simpa using this
  show (kas_item (kus.toArray.zip its.toArray) i).2=_
  rw [zhM lk (by omega)]
 have inn:∀ i ∈ p.toList,i < ds.length:=fun i hi=>by
  have:=(Array.perm_iff_toList_perm.mp gp).mem_iff.mp hi
  simpa using this
 have pl:p.toList.length=ds.length:=by rw [Array.length_toList,gp.size]
 unfold ksk_tail
 dsimp only
 rw [ho]
 refine wpAny_bind (listUpdate_at hk rfl ?_ (Nat.le_trans (m:=64) (by rw [List.size_toArray];omega) (by decide)) (Nat.zero_le _))
 refine wpAny_bind (wpAny_letGo ?_)
 have sb1:=Heap.SameBut.update s'.heap kS (Obj.mapSeq fun _=>(#[]:Array Value))
 have ha1:=(sb1.2 a ne.symm).trans ha
 have I1:=I.turned (t':=s'.toks) (fun b o hb z=>(sb1.2 b hb).trans z) fk.1 fk.2.1 fk.2.2.2.1 fk.2.2.2.2.1 fk.2.2.2.2.2
 refine wpAny_bind (seqEpoch_at ha1 rfl ?_)
 refine wpAny_bind (listUpdate_at ha1 rfl ?_ (Nat.zero_le _) (Nat.le_trans (m:=64) (by simp only [Bool.false_eq_true,if_false];rw [List.size_toArray,List.length_map];omega) (by decide)))
 rw [hf]
 simp only [bne_self_eq_false,if_false,Bool.false_eq_true]
 have sb2:=Heap.SameBut.update (s'.heap.update kS (Obj.mapSeq fun _=>(#[]:Array Value))) a (Obj.mapSeq fun _=>(p.toList.map fun i=>its.getD i .none).toArray)
 have I2:=I1.turned (t':=s'.toks) (fun b o hb z=>(sb2.2 b hb).trans z) fa.1 fa.2.1 fa.2.2.2.1 fa.2.2.2.2.1 fa.2.2.2.2.2
 have ga:=get?_update_seq ha1 fun _=>(p.toList.map fun i=>its.getD i .none).toArray
 have I3:=I2.adopt (o:=.lst (p.toList.map fun i=>xs.getD i .non)) fa ⟨Nat.le_trans (m:=64) (by rw [List.length_map];omega) (by decide),_,_,zh2 rx p.toList (fun i hi=>by have:=inn i hi;omega),ga⟩
 refine wpAny_pure (h _ _ (p.toList.map fun i=>ds.getD i .non) I3 ?_ ?_ (zh9 rd p.toList inn))
 ·have:=(Array.perm_iff_toList_perm.mp gp).map (fun i=>ds.getD i .non)
  rw [List.toList_toArray,zmc] at this
  exact this
 ·rw [List.pairwise_map,List.pairwise_iff_getElem]
  intro i j hi hj hij
  have u:=up i j (by omega) (by omega)
  have ei:pa p i=p.toList[i]:=by
   have:i < p.size:=by rw [gp.size];omega
   simp [pa,Array.getD,this]
  have ej:pa p j=p.toList[j]:=by
   have:j < p.size:=by rw [gp.size];omega
   simp [pa,Array.getD,this]
  rw [ei,ej] at u
  exact u
theorem zmg {k:Nat}{f:Addr}{fd:FuncData}{ps:List Str}(F:FnOk X.prog X.w X.K X.mg X.base CX0 k f fd ps spKey)(hb:Binds X.K fd ps [])(hr:Room k A)(he:A.frames=some X.stack)(I:Inv X pins σ Hj s)(fa:FpOk X pins Hj a)(fk:FpOk X pins Hj kS){oa ok:Obj}(ha:s.heap.get? a=some oa)(hk:s.heap.get? kS=some ok){d:D}{v:V}{u:Value}(rp:Rep Hj d v)(fl:Fl d)(nd:nds d<=1000)(r:RelV v u)
  {Q:Value->Shared->Prop} {E:Value->Shared->Prop} (h:∀ kv ku H' s',Inv X pins σ H' s'->Same Hj H'->H' a=none->H' kS=none->s'.heap.get? a=some oa->s'.heap.get? kS=some ok->Rep H' (kyD d) kv->RelV kv ku->Q ku s') :
  wpAny (model X.prog X.w) A (call (.ref f) [u]) Q E s:=by
 have e0:=I.env0
 have sp:spKey [v] Hj (fun kv H'=>Same Hj H'/\Rep H' (kyD d) kv) E0:=⟨d,v,rfl,rp,fl,nd,fun l H' s' hl rep=>⟨s',Rep.same (fun b o z=>(zcz.mp z).2) rep⟩⟩
 have hl:[u].length=ps.length:=F.len _ _ _ _ sp
 have nf:∀ b,FpOk X pins Hj b->b ∉ frs X.stack:=fun b fb z=>(List.mem_cons.mp (I.stkSub b z)).elim fb.2.1 fb.2.2.1
 refine wpAny_call (codeAny_mono (F.run A X.stack s Hj ⟨[u],[]⟩ [u] [v] _ E0 hr ⟨he,e0.mod,e0.bs,e0.bsz,e0.funs,e0.frf,e0.hok,e0.bare⟩ (by have:=hb s [u] I.kIn (by simpa using hl);simpa using this) (.cons r .nil) sp) fun res s' hq=>?_)
 cases res with
 | error x=>exact hq.elim
 | ok fl' =>
  cases fl' with
  | ret ku =>
   obtain ⟨kv,H',os,bare,un,hok,rk,sm,rep⟩:=hq
   have I':=I.call' (ch:=[]) os un hok bare (fun b z=>absurd z (by simp))
   exact h kv ku H' s' I' sm (un.free a oa ha fa.1 (by simp)) (un.free kS ok hk fk.1 (by simp)) (un.keep a oa ha fa.1 (nf a fa) (by simp)) (un.keep kS ok hk fk.1 (nf kS fk) (by simp)) rep rk
  | next=>exact hq.elim
  | brk=>exact hq.elim
  | cont=>exact hq.elim
theorem zjT {k:Nat}{f:Addr}{fd:FuncData}{ps:List Str}(F:FnOk X.prog X.w X.K X.mg X.base CX0 k f fd ps spKey)(hb:Binds X.K fd ps [])(hr:Room k A)(he:A.frames=some X.stack)(I:Inv X pins σ H s)(fa:FpOk X pins H a)(fk:FpOk X pins H kS)(ne:kS≠a)
  (ha:s.heap.get? a=some (seqObj "list" #[] e1)) (hk:s.heap.get? kS=some (seqObj "list" #[] 0)) (rx:Vals xs its) (rd:Reps H ds xs) (fl:∀ d ∈ ds,Fl d/\nds d<=1000) (h2:2<=ds.length) (h64:ds.length < 64) {Pf:PySem.Fin->Shared->Prop}
  (h:∀ s' H' ys es,Inv X pins σ (upd H' a (.lst ys)) s'->Same H H'->H' a=none->es.Perm ds->es.Pairwise leK->Reps H es ys->Pf (.done (.ret .none)) s') :
  wpAny (model X.prog X.w) A (ksk_rest a (.ref f) false its.toArray e1 (.ref kS)) Pf E s:=by
 have hu:=hr.units
 have l3:=Reps.len rd
 have l4:=rx.length
 unfold ksk_rest
 refine wpAny_bind (wpAny_rule ?_)
 rw [List.forIn_toArray]
 refine wpAny_bind (ksk_fold (fun j s'=>∃ (Hj:Hp) (kvs:List V) (kus:List Value) (e:Nat),Inv X pins σ Hj s'/\Same H Hj/\Hj a=none/\Hj kS=none/\s'.heap.get? a=some (seqObj "list" #[] e1)/\s'.heap.get? kS=some (seqObj "list" kus.toArray e)/\Vals kvs kus/\Reps Hj ((ds.take j).map kyD) kvs) its 0 s
  ⟨H,[],[],0,I,Same.refl _,fa.1,fk.1,ha,hk,.nil,rfl⟩ ?step ?done)
 case step =>
  rintro j x s' hx ⟨Hj,kvs,kus,e,I',sm,na,nk,ha',hk',rk,rr⟩
  rw [Nat.zero_add] at rr ⊢
  have hj:j < its.length:=(List.getElem?_eq_some_iff.mp hx).1
  have hd:ds[j]?=some ds[j]:=List.getElem?_eq_getElem (by omega)
  obtain ⟨v,hv,rv⟩:=Reps.get' rd hd
  obtain ⟨u,hu',ru⟩:=rx.get hv
  rw [hx] at hu'
  cases hu'
  have lr:=Reps.len rr
  rw [List.length_map,List.length_take] at lr
  have lk:=rk.length
  have hf:=fl ds[j] (List.mem_of_getElem? hd)
  refine wpAny_bind (wpAny_attempt (zmg F hb hr he I' (fa.at na) (fk.at nk) ha' hk' (Rep.same sm rv) hf.1 hf.2 ru fun kv ku H' s2 I2 sm2 na2 nk2 ha2 hk2 rep rku=>?_))
  have sb:=Heap.SameBut.update s2.heap kS (Obj.mapSeq (·.push ku))
  have gk:=get?_update_seq hk2 (·.push ku)
  refine wpAny_bind (listUpdate_at hk2 rfl ?_ (Nat.le_trans (m:=64) (by rw [List.size_toArray];omega) (by decide)) (Nat.le_trans (m:=65) (by rw [Array.size_push,List.size_toArray];omega) (by decide)))
  have fk2:=fk.at nk2
  refine wpAny_pure ⟨rfl,H',kvs ++ [kv],kus ++ [ku],_,I2.turned (t':=s2.toks) (fun b o hb z=>(sb.2 b hb).trans z) fk2.1 fk2.2.1 fk2.2.2.2.1 fk2.2.2.2.2.1 fk2.2.2.2.2.2,sm.trans sm2,na2,nk2,(sb.2 a ne.symm).trans ha2,by rw [gk,List.push_toArray],rk.append (.cons rku .nil),?_⟩
  rw [zar hd,List.map_append]
  exact Reps.snoc rep (Reps.same sm2 rr)
 case done =>
  rintro s' ⟨Hj,kvs,kus,e,I',sm,na,nk,ha',hk',rk,rr⟩
  rw [Nat.zero_add,← l4,l3,List.take_length] at rr
  exact wpAny_bind (listItems_at hk' rfl (zlB (by omega) I' sm (fa.at na) (fk.at nk) ne ha' hk' rk rr rx rd h2 h64 fun s2 ys es I2 a1 a2 a3=>h s2 Hj ys es I2 sm na a1 a2 a3))
theorem zjl {k:Nat}{f l:Addr}{fd:FuncData}{ps:List Str}(F:FnOk X.prog X.w X.K X.mg X.base CX0 k f fd ps spKey)(hb:Binds X.K fd ps [])(hr:Room (k + 2) X.A)(I:Inv X pins σ H s)(hl:H l=some (.lst xs))(rd:Reps H ds xs)(fl:∀ d ∈ ds,Fl d/\nds d<=1000)(h2:2<=ds.length)(h64:ds.length < 64){Q:VK}
  (h:∀ l' ys es H',Same H H'->H l'=none->H' l'=some (.lst ys)->es.Perm ds->es.Pairwise leK->Reps H es ys->Q (.ref l') H') :
  wpAny (model X.prog X.w) X.A (call (.builtin "sorted") [.ref l] [(Str.ofString "key",.ref f)]) (EP X pins σ Q) E s:=by
 obtain ⟨its,rx,pl,hz⟩:=I.list (SqL.of hl)
 have l3:=Reps.len rd
 have l4:=rx.length
 refine call_function_entry_kw kind_sorted plain_sorted entry_sorted (ksk_s1 _ _) ?_
 unfold Builtin.«sorted»
 refine wpAny_bind (m:=checkCount "sorted" 1 1 _) (wpAny_pure (wpAny_bind (collect_list pl.isList ?_ (by omega))))
 refine wpAny_bind (wpAny_newList ?_ (by omega))
 have k1:∀ b o,s.heap.get? b=some o->((s.heap.push (seqObj "list" #[] 0)).update s.heap.objs.size (Obj.mapSeq fun x=>x ++ its.toArray)).get? b=some o:=fun b o e=>by
  have lt:=Heap.lt_size e
  rw [Heap.get?_update_ne _ _ _ _ (Nat.ne_of_lt lt)]
  exact Heap.get?_push_of_some _ e
 have z1:s.heap.objs.size<=((s.heap.push (seqObj "list" #[] 0)).update s.heap.objs.size (Obj.mapSeq fun x=>x ++ its.toArray)).objs.size:=by
  rw [Heap.size_update,Heap.size_push]
  omega
 dsimp only
 generalize (s.heap.push (seqObj "list" #[] 0)).update s.heap.objs.size (Obj.mapSeq fun x=>x ++ its.toArray)=h1 at k1 z1 ⊢
 have I2:Inv X pins σ H { s with heap:=h1.push (seqObj "list" its.toArray 0) }:=I.kept (t':=s.toks) fun b o e=>Heap.get?_push_of_some _ (k1 b o e)
 have nD:=I.hok.fresh z1
 have fD:=I.fpOk z1 nD
 have gD:(h1.push (seqObj "list" its.toArray 0)).get? h1.objs.size=some (seqObj "list" its.toArray 0):=Heap.get?_push_size _ rfl
 refine wpAny_bind (wpAny_holding (wpAny_call_entry_kw slot_list_sort ⟨_,gD,rfl⟩ entry_list_sort ?body (ksk_l1 _ _)))
 show wpAny (model X.prog X.w) X.A.in1.in1 (ksk_tree h1.objs.size (.ref f) false) _ _ _
 unfold ksk_tree
 refine wpAny_bind (listItems_at gD rfl ?_)
 refine wpAny_bind (listUpdate_at gD rfl ?_ (by rw [List.size_toArray];omega) (Nat.zero_le _))
 have sb:=Heap.SameBut.update (h1.push (seqObj "list" its.toArray 0)) h1.objs.size (Obj.mapSeq fun _=>(#[]:Array Value))
 have g3:=get?_update_seq gD fun _=>(#[]:Array Value)
 have I3:=I2.turned (t':=s.toks) (fun b o hb z=>(sb.2 b hb).trans z) fD.1 fD.2.1 fD.2.2.2.1 fD.2.2.2.2.1 fD.2.2.2.2.2
 refine wpAny_bind (seqEpoch_at g3 rfl ?_)
 refine wpAny_bind (wpAny_newTuple ?_ (by show its.length<=_;omega))
 refine wpAny_bind (wpAny_newList (wpAny_holding ?_) (Nat.zero_le _))
 have I4:=I3.kept (t':=s.toks) fun b o e=>Heap.get?_push_of_some { cls:=.type "tuple",data:=.seq its.toArray } e
 have I5:=I4.kept (t':=s.toks) fun b o e=>Heap.get?_push_of_some { cls:=.type "list",data:=.seq #[] } e
 have fk:=I4.fpOk (Nat.le_refl _) (I4.hok.fresh (Nat.le_refl _))
 have gk:=Heap.get?_push_of_some { cls:=.type "list",data:=.seq #[] } (Heap.get?_push_of_some { cls:=.type "tuple",data:=.seq its.toArray } g3)
 refine zjT F hb hr.in1.in1 (I.ok.frames) I5 fD fk (fun z=>?_) gk (Heap.get?_push_size _ rfl) rx rd fl h2 h64 fun s' H' ys es I' sm na a1 a2 a3=>⟨_,rfl,wpAny_pure ⟨_,rfl,.ref h1.objs.size,_,I',rfl,h _ ys es _ (sm.trans (Same.upd na)) nD upd_same a1 a2 a3⟩⟩
 have lt:=Heap.lt_size (Heap.get?_push_of_some { cls:=.type "tuple",data:=.seq its.toArray } g3)
 exact Nat.ne_of_gt lt z
end
noncomputable def zot (ta:TA):TE:=fun σ H Q=>ta σ H fun vs H1=>∃ l xs ds,vs=[.ref l]/\H1 l=some (.lst xs)/\Reps H1 ds xs/\(∀ d ∈ ds,Fl d/\nds d<=1000)/\2<=ds.length/\ds.length < 64 /\
 ∀ l' ys es H',Same H1 H'->H1 l'=none->H' l'=some (.lst ys)->es.Perm ds->es.Pairwise leK->Reps H1 es ys->Q (.ref l') H'
theorem ziY {X:Cx}{k:Nat}{e:Expr}{ta:TA}{p p3 kpos pos:Pos}(O:Own X.prog X.w X.K X.mg X.base CX0 k "order_key" spKey)(hr:Room (k + 2) X.A)(hg:Gl X "sorted")(hm:X.mg "sorted" = none)(hg2:Gl X "order_key")(ha:PA X [e] ta)
  (he:backTo pos (starEach [e] X.env)=(false,eval e X.env) :: backTo pos (starEach [] X.env):=by rfl) (hpl:(backTo pos (starEach [e] X.env)).any (·.1)=false:=by rfl):PE X (.Call (.Name "sorted" p) [e] [⟨some "key",.Name "order_key" p3,kpos⟩] pos) (zot ta):=by
 obtain ⟨f,fd,ps,F,hf,hk,hb⟩:=O
 intro pins s σ H Q I h
 refine wpAny_Call_Name_kw (zfa I hg hm (u:=.builtin "sorted") rfl ?_)
 refine callWith_kw (thn (ha pos pins s σ H _ I h) fun us s1 ⟨vs,H1,I1,r1,q1⟩=>?_) he hpl
 have pk:PK X [⟨some "key",.Name "order_key" p3,kpos⟩] (tCons (tC (.ref f)) tNil):=znq (zbL ⟨_,hf,rfl⟩ hg2) zoI
 refine thn (pk pos pins s1 σ H1 (fun vs H2=>vs=[.ref f]/\H2=H1) I1 ⟨rfl,rfl⟩) fun kus s2 ⟨kvs,H2,I2,r2,e1,e2⟩=>?_
 subst e1 e2
 obtain ⟨ku,rfl,rku⟩:=Vals.one r2
 cases rku
 obtain ⟨l,xs,ds,rfl,hl,rd,fl,h2,h64,q⟩:=q1
 obtain ⟨u,rfl,ru⟩:=Vals.one r1
 cases ru
 exact zjl F hb hr I2 hl rd fl h2 h64 q
end Lw
namespace Lw
open PySem L2
section
variable {P:Program}{w:World}{K:PySem.W.Frag}{mg:Str->Option Value}{base:Heap}
theorem zoN (n z:Str)(d:D)(fd:Fl d):opn1 n z d=if eqD d (.str z)=true then [] else opP n d:=by
 rcases ziB fd with ⟨x,rfl,_⟩ | ⟨m,es,rfl,_⟩
 ·rfl
 ·have e:eqD (.tup (.str m :: es)) (.str z)=false:=rfl
  rw [e,if_neg (by decide)]
  rfl
theorem zeF:∀ (ds l:List D),(∀ d ∈ ds,Fl d)->(∀ d ∈ l,Fl d)->l.Pairwise leK->(ds.foldl (fun l d=>insA d l) l).Pairwise leK
 | [],l,_,_,h=>h
 | d :: ds,l,hd,hl,h=>by
  refine zeF ds (insA d l) (fun e he=>hd e (List.mem_cons_of_mem _ he)) (fun e he=>?_) (zeG (hd d List.mem_cons_self) hl h)
  rcases List.mem_cons.mp ((zdr d l).mem_iff.mp he) with rfl | he
  ·exact hd _ List.mem_cons_self
  ·exact hl e he
theorem zfR {ds:List D}(h:∀ d ∈ ds,Fl d):(zcf ds).Pairwise leK:=zeF ds [] h (fun _ h=>by cases h) .nil
theorem zjS {ds es:List D}(h:∀ d ∈ ds,Fl d)(p:es.Perm ds)(s:es.Pairwise leK):es=zcf ds :=
 ze1 (fun d hd=>h d (p.mem_iff.mp hd)) (p.trans (za1 ds).symm) s (zfR h)
theorem zkp:∀ {ds:List D} {d:D},d ∈ ds->nds d<=ndss ds
 | e :: ds,d,h=>by
  rw [ndss]
  obtain rfl | h:=List.mem_cons.mp h
  ·omega
  ·have:=zkp h;omega
theorem zlS (n z:Str)(d:D):ndss (opn1 n z d)<=nds d:=by
 unfold opn1
 split
 ·split
  ·rw [nds];omega
  ·rw [ndss,ndss];omega
 ·split
  ·rw [ndss];omega
  ·rw [ndss,ndss];omega
theorem zhB (n z:Str):∀ ds:List D,ndss (opn n z ds)<=ndss ds
 | []=>Nat.le_refl _
 | d :: ds=>by rw [zd2,zbM,ndss];have:=zlS n z d;have:=zhB n z ds;omega
noncomputable def zej:Sp:=fun vs H Q _=>∃ (n z:Str) (a:Addr) (ds:List D) (ws:List V),vs=[.str n,.str z,.ref a]/\H a=some (.lst ws)/\Reps H ds ws/\Fls ds/\szs ds<=60/\ndss ds<=1000/\depDs ds<=50 /\
 ∀ (v':V) (H':Hp),Same H H'->Rep H' (one n z (zcf (opn n z ds))) v'->Q v' H'
noncomputable def FsI (a l:Addr)(n z:Str)(ds:List D)(H:Hp)(i:Nat)(σ:St)(H2:Hp):Prop:=∃ (us:List V) (o:Option V),σ=[some (.str n),some (.str z),some (.ref a),some (.ref l),o]/\H2 l=some (.lst us)/\Same H H2/\Reps H2 (opn n z (ds.take i)) us
theorem zi5 {f:Addr}{fd:FuncData}(F:Fun K "flat_sum" "flat_sum" zbv f fd)(T:Txt mg)(O_opened:Own P w K mg base CX0 1 "opened" zeh)(O_order_key:Own P w K mg base CX0 2 "order_key" spKey):FnOk P w K mg base CX0 5 f fd zdI zej:=by
 refine F.ok zc2 (fun vs H Q E h=>?_) (fun cdv A outer s H vs Q E hr h=>?_)
 ·obtain ⟨n,z,a,ds,ws,rfl,_⟩:=h
  rfl
 ·obtain ⟨n,z,a,ds,ws,rfl,ha,rd,fls,s60,n1000,d50,q⟩:=h
  have hu:=hr.units
  refine ⟨_,(zaf (zap (i:=3) zc2.nd rfl (Or.inl rfl) (zaX zae))
   (zaf (zb2 PassesOwn.never rfl (zbi K rfl (pv 2)) (zaC (i:=4) zc2.nd rfl (Or.inl rfl)) (zag (zaT (zas (zdL hu) (pv 4) (pv 1) (nomark _)) (zag (zaP (zcB PySem.F.plainAttrs_list PySem.F.slot_list_extend PySem.F.type_list_extend zez (pv 3) (zaa (zan O_opened (hr.mono (by decide)) pass0 rfl (zaa (pv 0) (zaa (pv 4) zae))) zae)))) zaq)))
   (zaf (zaT (za4 (zal K rfl (pv 3) (fun _=>rfl))) (zag (zao (pv 1))) zaq)
   (zaf (zaT (zas (zbr hu) (zaj zaM rfl T.n_len rfl (zaa (pv 3) zae)) zah (nomark _)) (zag (zao (zbg ix_F (pv 3) zah (fun _ _=>rfl)))) zaq)
   (zag (zao (zaU zbz rfl T.n_tuple rfl (zaa (zaQ zaG (zaX (zaa (pv 0) zae)) (ziY O_order_key (hr.mono (by decide)) rfl T.n_sorted rfl (zaa (pv 3) zae))) zae)))))))),?_⟩
  simp only [zfo]
  clear hr F T hu O_opened O_order_key
  have keep:=And.intro q (And.intro ha (And.intro rd (And.intro fls (And.intro s60 (And.intro n1000 d50)))))
  clear q ha rd fls s60 n1000 d50
  walk_at "rd"
  obtain ⟨q,ha,rd,fls,s60,n1000,d50⟩:=keep
  refine ⟨by decide,fun l hl=>⟨ws,.inl (by rw [zac (zab ha hl)];exact ha),fun J hJ=>?_⟩⟩
  have s1:Same H (upd H l (.lst [])):=Same.upd hl
  have h1:upd H l (.lst []) l=some (.lst []):=upd_same
  generalize upd H l (.lst [])=H1 at s1 h1 hJ ⊢
  have small:∀ i,(opn n z (ds.take i)).length<=60:=fun i=>by
   have h1:=zhh (opn n z (ds.take i))
   have h2:=zkb n z (ds.take i)
   have h3:=zlz i ds
   omega
  have lw:=Reps.len rd
  refine zdD hJ (FsI a l n z ds H) ⟨[],none,rfl,h1,s1,rfl⟩ (by rintro i σ H' _ ⟨_,_,_,_,s2,_⟩;rw [s2 _ _ ha,s1 _ _ ha]) ?_ ?_
  ·rintro i x σ H2 hx ⟨us,o,rfl,h2,s2,ru⟩
   obtain ⟨d,hd,rx⟩:=Reps.get rd hx
   have fd:=fls.get hd
   have dd:=zd8 hd
   have keep:=And.intro q (And.intro ha (And.intro rd (And.intro fls (And.intro s60 (And.intro n1000 (And.intro d50 (And.intro hl (And.intro h2 (And.intro s2 (And.intro ru (And.intro hd (And.intro rx (And.intro fd (And.intro dd small))))))))))))))
   clear q ha rd fls s60 n1000 d50 hl h2 s2 ru hd rx fd dd small s1 h1 hJ hx
   walk_at "rd"
   obtain ⟨q,ha,rd,fls,s60,n1000,d50,hl,h2,s2,ru,hd,rx,fd,dd,small⟩:=keep
   refine ⟨d,.str z,Rep.same s2 rx,rfl,by omega,_,rfl,?_⟩
   have lu:=Reps.len ru
   have e1:=zoN n z d fd
   cases he:eqD d (.str z) with
   | true =>
    rw [if_neg (by decide)]
    rw [he,if_pos rfl] at e1
    exact ⟨us,_,rfl,h2,s2,by rw [zar hd,zd1,e1,List.append_nil];exact ru⟩
   | false =>
    rw [if_pos (by decide)]
    rw [he,if_neg (by decide)] at e1
    refine ⟨tyL h2,n,d,x,rfl,Rep.same s2 rx,fd,fun l2 vs2 H3 s3 hl2 h3 r3=>?_⟩
    have l3:=s3 _ _ h2
    have lv:=Reps.len r3
    have sm:=small (i + 1)
    rw [zar hd,zd1,List.length_append,e1] at sm
    have f2:Fls (opn n z (ds.take i) ++ opP n d):=by
     rw [← e1,← zd1,← zar hd]
     exact zkc (zdM fun e he=>zb8 fls e (List.mem_of_mem_take he))
    refine ⟨l,l2,us,vs2,rfl,rfl,l3,.inl h3,Nat.le_trans (m:=100) (by omega) (by decide),us ++ vs2,_,rfl,upd_same,fun b o hb=>by rw [zac (zab hb hl)];exact s3 _ _ (s2 _ _ hb),?_⟩
    rw [zar hd,zd1,e1]
    exact Reps.tups (TupS.lst l3) f2 (Reps.append (Reps.same s3 ru) (Reps.same s3 r3))
  ·rintro σ H2 ⟨us,o,rfl,h2,s2,ru⟩
   rw [lw,List.take_length] at ru
   have keep:=And.intro q (And.intro ha (And.intro rd (And.intro fls (And.intro s60 (And.intro n1000 (And.intro d50 (And.intro hl (And.intro h2 (And.intro s2 (And.intro ru small))))))))))
   clear q ha rd fls s60 n1000 d50 hl h2 s2 ru small s1 h1 hJ
   walk_at "rd"
   obtain ⟨q,ha,rd,fls,s60,n1000,d50,hl,h2,s2,ru,small⟩:=keep
   have fo:=zkc (n:=n) (z:=z) fls
   have lu:=Reps.len ru
   have sm:=small ds.length
   rw [List.take_length] at sm
   have nn:=zhB n z ds
   refine ⟨!us.isEmpty,.inl ⟨us,SqL.of h2,rfl⟩,?_⟩
   generalize hos:opn n z ds=os at fo lu sm nn ru q
   clear hos
   match os,fo,lu,sm,nn,ru,q with
   | [],fo,lu,sm,nn,ru,q =>
    cases (show us=[] from ru)
    rw [if_pos (by decide)]
    exact q _ _ s2 rfl
   | [d],fo,lu,sm,nn,⟨u,_,e,h,e'⟩,q =>
    subst e
    cases (show _=[] from e')
    rw [if_neg (by simp),if_pos (by simp)]
    exact ⟨u,atI_zero,q _ _ s2 h⟩
   | d :: d2 :: os',fo,lu,sm,nn,ru,q =>
    have l2:us.length=os'.length + 2:=by rw [lu];rfl
    have ne:us≠[]:=fun z=>by rw [z] at l2;simp at l2
    rw [if_neg (by cases us with | nil=>exact absurd rfl ne | cons a b=>simp),if_neg (by omega)]
    refine ⟨by decide,fun p hp=>?_⟩
    have sp:Same H2 (upd H2 p (.lst [.str n])):=Same.upd hp
    have hpp:upd H2 p (.lst [.str n]) p=some (.lst [.str n]):=upd_same
    generalize upd H2 p (.lst [.str n])=H3 at sp hpp ⊢
    have all:∀ e ∈ d :: d2 :: os',Fl e:=zb8 fo
    refine ⟨_,rfl,l,us,d :: d2 :: os',rfl,sp _ _ h2,Reps.same sp ru,fun e he=>⟨all e he,by have:=zkp he;omega⟩,by simp,by simp only [List.length_cons] at sm ⊢;omega,fun l' ys es H4 s4 hl' h4 pm so re=>?_⟩
    have ees:=zjS all pm so
    have ly:=Reps.len re
    have le:=pm.length_eq
    refine ⟨.lst (.str n :: ys),zhT (s4 _ _ hpp) h4 (Nat.le_trans (m:=100) (by simp only [List.length_cons,List.length_nil] at sm le ⊢;omega) (by decide)),fun p5 hp5=>⟨.str n :: ys,.inl upd_same,fun l6 H6 hc=>?_⟩⟩
    rcases hc with ⟨hc,_⟩ | ⟨_,hl6,rfl⟩
    ·cases hc
    ·have s6:Same H4 (upd (upd H4 p5 (.lst (.str n :: ys))) l6 (.tup (.str n :: ys))):=(Same.upd hp5).trans (Same.upd hl6)
     refine q _ _ ((s2.trans (sp.trans s4)).trans s6) ?_
     rw [zlV (by rw [(za1 _).length_eq];simp),← ees]
     exact ⟨l6,_,rfl,upd_same,.str n,ys,rfl,rfl,Reps.same (s4.trans s6) re⟩
noncomputable def zbQ (K:PySem.W.Frag)(C:Addr):Sp:=fun vs H Q _=>∃ (g:Addr) (fx:List (Str×Int)) (sm:List (Str×Str)) (n:Str) (a:Addr) (ds:List D) (ws:List V),vs=[.ref g,.str n,.ref a]/\SgAt K C fx sm H g/\H a=some (.lst ws)/\Reps H ds ws/\Fls ds/\szs ds<=60/\ndss ds<=1000/\depDs ds<=50 /\
 ∀ (v':V) (H':Hp),Same H H'->Rep H' (knot sm n ds) v'->Q v' H'
theorem zi4 {f C:Addr}{fd:FuncData}(F:Fun K "flat_of_parts" "flat_of_parts" zaF f fd)(T:Txt mg)(M_nought:OwnM P w K mg base CX0 1 C "nought" (zdX K C))(O_flat_sum:Own P w K mg base CX0 5 "flat_sum" zej):FnOk P w K mg base CX0 6 f fd zbX (zbQ K C):=by
 refine F.ok zcx (fun vs H Q E h=>?_) (fun cdv A outer s H vs Q E hr h=>?_)
 ·obtain ⟨g,fx,sm,n,a,ds,ws,rfl,_⟩:=h
  rfl
 ·obtain ⟨g,fx,sm,n,a,ds,ws,rfl,sg,ha,rd,fls,s60,n1000,d50,q⟩:=h
  have hu:=hr.units
  refine ⟨_,(zaf (zap (i:=3) zcx.nd rfl (Or.inl rfl) (zii M_nought (hr.mono (by decide)) pass0 (pv 0) (zaa (pv 1) zae)))
   (zaf (zaT (zas zoQ (pv 3) zex (nomark _)) (zag (zao (zaU zbz rfl T.n_tuple rfl (zaa (zaQ zaG (zaX (zaa (pv 1) zae)) (pv 2)) zae)))) zaq)
   (zag (zao (zan O_flat_sum (hr.mono (by decide)) pass0 rfl (zaa (pv 1) (zaa (pv 3) (zaa (pv 2) zae)))))))),?_⟩
  simp only [zcS]
  clear hr F T hu M_nought O_flat_sum
  have keep:=And.intro q (And.intro ha (And.intro rd (And.intro fls (And.intro s60 (And.intro n1000 (And.intro d50 sg))))))
  clear q ha rd fls s60 n1000 d50 sg
  walk_at "rd"
  obtain ⟨q,ha,rd,fls,s60,n1000,d50,sg⟩:=keep
  obtain ⟨dx,fs,_,_,h1,_,h3,_⟩:=sg.ex
  refine ⟨_,rfl,g,dx,fs,rfl,h1,h3,_,rfl,g,n,fx,sm,rfl,sg,?_⟩
  unfold knot at q
  cases hz:zr sm n with
  | none =>
   have e0:nulV sm n = .non:=by unfold nulV;rw [hz];rfl
   rw [hz] at q
   rw [e0,if_pos rfl]
   have lw:=Reps.len rd
   have:=zhh ds
   refine ⟨by decide,fun p hp=>⟨.lst (.str n :: ws),zhT upd_same (by rw [zac (zab ha hp)];exact ha) (Nat.le_trans (m:=100) (by simp;omega) (by decide)),fun p5 hp5=>⟨.str n :: ws,.inl upd_same,fun l6 H6 hc=>?_⟩⟩⟩
   rcases hc with ⟨hc,_⟩ | ⟨_,hl6,rfl⟩
   ·cases hc
   ·have s6:Same H (upd (upd (upd H p (.lst [.str n])) p5 (.lst (.str n :: ws))) l6 (.tup (.str n :: ws))):=((Same.upd hp).trans (Same.upd hp5)).trans (Same.upd hl6)
    exact q _ _ s6 ⟨l6,_,rfl,upd_same,.str n,ws,rfl,rfl,Reps.same s6 rd⟩
  | some z =>
   have e0:nulV sm n = .str z:=by unfold nulV;rw [hz];rfl
   rw [hz] at q
   rw [e0,if_neg (by simp)]
   exact ⟨n,z,a,ds,ws,rfl,ha,rd,fls,s60,n1000,d50,q⟩
end
end Lw
namespace L2
open PySem PySem.Spec PyProof.Rows
theorem znw {X:Cx}(K:PySem.W.Frag)(hK:X.K=K){o:Expr}{to:TE}{name:Str}{apos cpos:Pos}{T id:String}{r:V->List V->Hp->VK->Prop}(pa:PlainAttrs T)(slot:Slot T name id)(hty:typeOf (.builtin id)=pure (.type "method_descriptor"))(hm:MtR X id r)(ho:PE X o to)
  (hbase:attributeBase o name X.env (eval o X.env)=eval o X.env:=by rfl) (hline:(apos.endLine == cpos.line)=true:=by rfl):PE X (.Call (.Attribute o name apos) [] [] cpos) (tBM0 K T r to):=by
 subst hK
 exact zgq pa slot hty hm ho hbase hline
noncomputable abbrev pinO (a:Addr)(o:Obj):HO:=.ext fun h=>h.get? a=some o
theorem zig {P:Program}{w:World}{H:Hp}{h:Heap}{a:Addr}{o:Obj}(e:h.get? a=some o):ObjOk P w H h a (pinO a o):=⟨e,⟨o,e⟩,fun h1 h2 q k=>k o q⟩
theorem zev {P:Program}{w:World}{H:Hp}{h:Heap}{a:Addr}{o:Obj}(ok:HOk P w H h)(e:H a=some (pinO a o)):h.get? a=some o:=(ok a _ e).1
noncomputable def del1 (H:Hp)(p:Addr):Hp:=fun b=>if b=p then none else H b
theorem zmu {H:Hp}{p b:Addr}{o:HO}(h:del1 H p b=some o):H b=some o/\b≠p:=by
 unfold del1 at h
 by_cases e:b=p
 ·rw [if_pos e] at h;cases h
 ·rw [if_neg e] at h;exact ⟨h,e⟩
theorem zcg {H:Hp}{p b:Addr}(h:H b=none):del1 H p b=none:=by
 unfold del1
 split
 ·rfl
 ·exact h
theorem zbh {H:Hp}{p b:Addr}(h:b≠p):del1 H p b=H b:=by unfold del1;rw [if_neg h]
theorem zdu {H:Hp}{p:Addr}:del1 H p p=none:=by unfold del1;rw [if_pos rfl]
theorem HOk.del {P:Program}{w:World}{H:Hp}{h:Heap}{c:Addr}{φ:Heap->Prop}(ok:HOk P w H h)(e:H c=some (.ext φ)):HOk P w (del1 H c) h:=fun a o q=>by
 obtain ⟨q1,q2⟩:=zmu q
 exact (ok a o q1).stay (fun _ _ _ z=>z) (fun b z=>by rw [zbh (fun w=>by rw [w,e] at z;cases z)];exact z) (fun b xs z=>by rw [zbh (fun w=>by rw [w,e] at z;cases z)];exact z)
theorem HOk.back {P:Program}{w:World}{H:Hp}{h:Heap}{c:Addr}{o:Obj}(ok:HOk P w H h)(n:H c=none)(e:h.get? c=some o):HOk P w (upd H c (pinO c o)) h:=fun a u q=>by
 by_cases z:a=c
 ·subst z
  rw [upd_same] at q
  cases q
  exact zig e
 ·rw [zac z] at q
  exact (ok a u q).stay (fun _ _ _ z=>z) (fun b z=>by rw [zac (zab z n)];exact z) (fun b xs z=>by rw [zac (zab z n)];exact z)
end L2
namespace Lw
open PySem PySem.Spec PyProof.Rows L2
noncomputable def lamOf (s:Stmt):Expr:=match zak s with
 | [.Return (some (.Call _ [_,_,e] _ _)) _]=>e
 | _=>.Name "" ⟨0,0,0,0⟩
noncomputable def zo6 (e:Expr):Arguments:=match e with
 | .Lambda a _ _ _=>a
 | _=>default
noncomputable def zo7 (e:Expr):Expr:=match e with
 | .Lambda _ b _ _=>b
 | e=>e
noncomputable def lamSc (e:Expr):Scope:=match e with
 | .Lambda _ _ s _=>s
 | _=>default
noncomputable abbrev pL:Arguments:=zo6 (lamOf zaS)
noncomputable abbrev bL:Expr:=zo7 (lamOf zaS)
noncomputable abbrev scL:Scope:=lamSc (lamOf zaS)
noncomputable def qL:Str:="put_in.<locals>.<lambda>"
noncomputable abbrev oL (c0 c':Addr)(pm ctv:Value):Obj:=PySem.W.kla_obj "<lambda>" qL pL bL scL [("signs",c0)] pm c' ctv
noncomputable abbrev envL (L fl c0 c':Addr):Env:=newEnv scL L mainGlobals [("signs",c0)] (qL ++ ".<locals>.") (some fl) (.ref c') none builtinsNs
noncomputable def cxL (P:Program)(w:World)(K:PySem.W.Frag)(mg:Str->Option Value)(base:Heap)(A:Around)(outer:List Env)(s:Shared)(H:Hp)(fl c0 c':Addr):Cx where
 prog:=P
 w:=w
 K:=K
 mg:=mg
 base:=base
 A:=A.deeper (envL s.heap.objs.size fl c0 c')
 N:=["name","parts","signs"]
 s₀:=s
 H₀:=H
 env:=envL s.heap.objs.size fl c0 c'
 outer:=outer
 stack:=envL s.heap.objs.size fl c0 c' :: outer
 ex:=[]
 fn:=fun _=>false
 calm:=true
 pn:=[]
 xe:=fun _ _=>False
theorem zjf {x:Str}(h:scL.names.lookup x=some .cell∨scL.names.lookup x=some .free):x="signs":=by
 have all:∀ y ∈ scL.names,(y.2 = .cell∨y.2 = .free)->y.1=("signs" : Str):=by decide +kernel
 rcases h with h | h
 ·exact all _ (PySem.mem_of_lookup h) (.inl rfl)
 ·exact all _ (PySem.mem_of_lookup h) (.inr rfl)
section
variable {P:Program}{w:World}{K:PySem.W.Frag}{mg:Str->Option Value}{base:Heap}
theorem znZ {A:Around}{outer:List Env}{s:Shared}{H:Hp}{g fl c0 c' a C:Addr}{pm ctv u1 u2:Value}{oc0 oc':Obj}{vsc:Array Value}{tq:Tok}{n:Str}{k:Nat}{Q:VK}(hr:Room (k + 1) A)(e0:Env0 P w K mg base A outer s H)
  (hfl:H fl=some (pinO fl (oL c0 c' pm ctv))) (hc0:H c0=some (pinO c0 oc0)) (hd0:oc0.data = .cell (some (.ref g))) (hc':H c'=some (pinO c' oc')) (hcd:oc'.data = .fields vsc) (hq:vsc[1]?=some (.str qL tq))
  (O:Own P w K mg base CX0 k "flat_of_parts" (zbQ K C)) (r1:RelV (.str n) u1) (r2:RelV (.ref a) u2) (sp:zbQ K C [.ref g,.str n,.ref a] (del1 H c0) (fun v H'=>H' c0=none->Q v (upd H' c0 (pinO c0 oc0))) E0) :
  codeAny (model P w) A (.call (.ref fl) ⟨[u1,u2],[]⟩) (CR CX0 outer P w H s Q E0) s:=by
 have gfl:=zev e0.hok hfl
 have g0:=zev e0.hok hc0
 have g':=zev e0.hok hc'
 have lim:s.heap.NoLimit:=e0.mod.nolimit.keeps fun b o e=>(e0.bs b o e).1
 refine PySem.W.kla_callFunE hr.depth gfl rfl rfl rfl rfl ⟨c',oc',vsc,tq,rfl,g',hcd,hq⟩ ?_
 rw [show bindArgs (PySem.W.kla_fn "<lambda>" qL pL bL scL [("signs",c0)] pm (.ref c') ctv) ⟨[u1,u2],[]⟩=pure [(("name" : Str),u1),(("parts" : Str),u2)] from rfl]
 have nc:∀ x ∈ scL.names,x.2≠.cell:=by decide +kernel
 have nl:∀ x ∈ [(("name" : Str),u1),(("parts" : Str),u2)],scL.names.lookup x.1=some .local:=by
  intro x hx
  obtain rfl | hx:=List.mem_cons.mp hx
  ·rfl
  ·rw [List.mem_singleton.mp hx];rfl
 refine wpAny_pure (wpAny_newFunctionEnv nc nl (fun h' hns hsb=>⟨lim.fresh _ hsb,?_⟩) rfl)
 have hk:∀ b o,s.heap.get? b=some o->h'.get? b=some o:=fun b o e=>hsb.extBut b o (Nat.ne_of_lt (Heap.lt_size e)) (Heap.get?_push_of_some _ e)
 have ok1:=e0.hok.del hc0
 have nfr:c0 ∉ frs outer:=fun z=>by have:=e0.frf c0 z;rw [hc0] at this;cases this
 have I:Inv (cxL P w K mg base A outer s (del1 H c0) fl c0 c') [] [some (.str n),some (.ref a),some (.ref g)] (del1 H c0) { s with heap:=h',toks:=s.toks + 2 }:=by
  have noA:∀ b:Addr,b ∉ (cxL P w K mg base A outer s (del1 H c0) fl c0 c').ex:=fun b z=>absurd (show b ∈ ([]:List Addr) from z) (by simp)
  have one:∀ x c,(cxL P w K mg base A outer s (del1 H c0) fl c0 c').env.cells.lookup x=some c->x=("signs" : Str)/\c=c0:=fun x c e=>by
   have e':[(("signs" : Str),c0)].lookup x=some c:=e
   have:=PySem.mem_of_lookup e'
   rw [List.mem_singleton] at this
   cases this
   exact ⟨rfl,rfl⟩
  refine ⟨⟨e0.mod,rfl,rfl,rfl,Nat.le_refl _,fun x y c h1 h2=>?_,fun x hx=>?_,fun x c h=>absurd h (by simp [cxL]),fun _=>hr.hd,Around.frames_deeper e0.frames,.inr ⟨rfl,rfl⟩,fun b z=>absurd z (noA b),fun b o e=>⟨(e0.bs b o e).1,zcg (e0.bs b o e).2⟩,e0.bsz,fun b _ _=>noA b,fun b z=>absurd z (noA b),e0.funs,fun b z=>zcg (e0.frf b z)⟩,
   rfl,e0.bare,Un.kept hk,⟨_,hns,fun i x v h1 h2 h3=>?_⟩,fun x c h=>?_,ok1.fresh (Nat.le_refl _),fun x c h=>?_,fun p hp=>absurd (show p ∈ ([]:List (Addr×Obj)) from hp) (by simp),ok1.kept hk,rfl⟩
  ·rw [(one x c h1).1,(one y c h2).1]
  ·rw [zjf hx]
   exact ⟨c0,rfl⟩
  ·match i,h1,h2 with
   | 0,h1,h2=>cases h1;cases h2;exact ⟨u1,r1,.inl ⟨rfl,rfl⟩⟩
   | 1,h1,h2=>cases h1;cases h2;exact ⟨u2,r2,.inl ⟨rfl,rfl⟩⟩
   | 2,h1,h2=>cases h1;cases h2;exact ⟨.ref g,rfl,.inr ⟨.inr rfl,c0,rfl,oc0,hk _ _ g0,hd0⟩⟩
   | i + 3,h1,h2=>cases h1
  ·rw [(one x c h).2]
   exact ⟨_,oc0,hk _ _ g0,hd0⟩
  ·rw [(one x c h).2]
   exact zdu
 have pb:PE (cxL P w K mg base A outer s (del1 H c0) fl c0 c') bL (tCall (zbQ K C) [] E0 (tCons (tVar 2) (tCons (tVar 0) (tCons (tVar 1) tNil)))):=zan O (hr.deeper _) pass0 rfl (zaa (pv 2) (zaa (pv 0) (zaa (pv 1) zae)))
 refine PySem.W.kla_codeExpr (wpAny_mono (pb [] _ _ _ (fun v H'=>H' c0=none->Q v (upd H' c0 (pinO c0 oc0))) I ⟨_,rfl,_,rfl,_,rfl,sp⟩) (fun u s' ⟨v,H',J,rv,q⟩=>?_) fun _ _ z=>z.elim)
 have un:Un (frs outer) [] (del1 H c0) H' s.heap s'.heap:=J.base
 have gs:=un.keep c0 oc0 g0 zdu nfr (by simp)
 have nn:=un.free c0 oc0 g0 zdu (by simp)
 refine ⟨v,upd H' c0 (pinO c0 oc0),J.os,J.bare,?_,J.hok.back nn gs,rv,q nn⟩
 have ne:∀ b u,H b=some u->(∀ φ,u≠.ext φ)->b≠c0:=fun b u e z w=>by rw [w,hc0] at e;cases e;exact z _ rfl
 refine ⟨fun b o e z hb hx=>un.keep b o e (zcg z) hb hx,fun b o e z hb hx=>un.slot b o e (zcg z) hb hx,fun b o e z hx=>?_,fun b o e hx=>un.there b o e hx,fun b xs e=>?_,fun b o u' e=>?_,fun b ps e=>?_⟩
 ·rw [zac (fun w=>by rw [w,hc0] at z;cases z)]
  exact un.free b o e (zcg z) hx
 ·have nb:=ne b _ e (fun φ=>by simp)
  rw [zac nb]
  exact un.tups b xs (by rw [zbh nb];exact e)
 ·have nb:=ne b _ e (fun φ=>by simp)
  rw [zac nb]
  exact un.frzs b o u' (by rw [zbh nb];exact e)
 ·have nb:=ne b _ e (fun φ=>by simp)
  rw [zac nb]
  exact un.tbls b ps (by rw [zbh nb];exact e)
end
noncomputable def LamAt (H:Hp)(fl c0 g:Addr):Prop:=∃ (c':Addr) (pm ctv:Value) (oc0 oc':Obj) (vsc:Array Value) (tq:Tok),H fl=some (pinO fl (oL c0 c' pm ctv))/\H c0=some (pinO c0 oc0)/\oc0.data = .cell (some (.ref g))/\H c'=some (pinO c' oc')/\oc'.data = .fields vsc/\vsc[1]?=some (.str qL tq)
theorem LamAt.same {H H':Hp}{fl c0 g:Addr}(h:LamAt H fl c0 g)(s:Same H H'):LamAt H' fl c0 g:=by
 obtain ⟨c',pm,ctv,oc0,oc',vsc,tq,h1,h2,h3,h4,h5⟩:=h
 exact ⟨c',pm,ctv,oc0,oc',vsc,tq,s _ _ h1,s _ _ h2,h3,s _ _ h4,h5⟩
mutual
theorem Rep.del1 {H:Hp}{c:Addr}{φ:Heap->Prop}(e:H c=some (.ext φ)):∀ {d:D} {v:V},Rep H d v->Rep (L2.del1 H c) d v
 | .non,v,h | .bl _,v,h | .int _,v,h | .str _,v,h=>h
 | .tup ds,v,⟨a,vs,h1,h2,h3⟩=>⟨a,vs,h1,by rw [zbh (fun z=>by rw [z,e] at h2;cases h2)];exact h2,Reps.del1 e h3⟩
 | .lst ds,v,⟨a,vs,h1,h2,h3⟩=>⟨a,vs,h1,by rw [zbh (fun z=>by rw [z,e] at h2;cases h2)];exact h2,Reps.del1 e h3⟩
theorem Reps.del1 {H:Hp}{c:Addr}{φ:Heap->Prop}(e:H c=some (.ext φ)):∀ {ds:List D} {vs:List V},Reps H ds vs->Reps (L2.del1 H c) ds vs
 | [],vs,h=>h
 | d :: ds,vs,⟨v,r,h1,h2,h3⟩=>⟨v,r,h1,Rep.del1 e h2,Reps.del1 e h3⟩
end
theorem SgAt.del1 {K:PySem.W.Frag}{C:Addr}{fx:List (Str×Int)}{sm:List (Str×Str)}{H:Hp}{g c:Addr}{φ:Heap->Prop}(e:H c=some (.ext φ))(h:SgAt K C fx sm H g):SgAt K C fx sm (L2.del1 H c) g:=by
 obtain ⟨a,b,n,dx,fs,dm,dn,h1,h2,h3,h4,h5,h6,h7⟩:=h
 exact ⟨a,b,n,dx,fs,dm,dn,by rw [zbh (fun z=>by rw [z,e] at h1;cases h1)];exact h1,h2,h3,h4,h5,by rw [zbh (fun z=>by rw [z,e] at h6;cases h6)];exact h6,by rw [zbh (fun z=>by rw [z,e] at h7;cases h7)];exact h7⟩
noncomputable def tLam (K:PySem.W.Frag)(C:Addr)(i:Nat)(t:TA):TE:=fun σ H Q=>∃ fl,σ[i]?=some (some (.ref fl))/\t σ H fun vs H1=>∃ (c0 g:Addr) (fx:List (Str×Int)) (sm:List (Str×Str)) (n:Str) (a:Addr) (ds:List D) (ws:List V),vs=[.str n,.ref a]/\LamAt H1 fl c0 g /\
 SgAt K C fx sm H1 g/\H1 a=some (.lst ws)/\Reps H1 ds ws/\Fls ds/\szs ds<=60/\ndss ds<=1000/\depDs ds<=50/\∀ (v':V) (H':Hp),Same H1 H'->Rep H' (knot sm n ds) v'->Q v' H'
theorem ziZ {X:Cx}{C:Addr}{k i:Nat}{e1 e2:Expr}{t:TA}{p pos:Pos}(hN:X.N[i]?=some ("whole" : Str))(hv:Vis X.env.scope "whole")(O:Own X.prog X.w X.K X.mg X.base CX0 k "flat_of_parts" (zbQ X.K C))(hr:Room (k + 1) X.A)(ha:PA X [e1,e2] t)
  (he:starEach [e1,e2] X.env=(false,eval e1 X.env) :: starEach [e2] X.env:=by rfl) (hpl:(backTo pos (starEach [e2] X.env)).any (·.1)=false:=by rfl):PE X (.Call (.Name "whole" p) [e1,e2] [] pos) (tLam X.K C i t):=by
 intro pins s σ H Q I h
 obtain ⟨fl,hfl,h⟩:=h
 have pw:PE X (.Name "whole" p) (tVar i):=zmL hN hv
 refine wpAny_Call_Name_kw (thn (pw pins s σ H (fun x H'=>x = .ref fl/\H'=H) I ⟨_,hfl,rfl,rfl⟩) fun f s0 ⟨x,H0,I0,rx,e3,e4⟩=>?_)
 subst e3 e4
 cases rx
 have hargs:=ha pos pins s0 σ H0 _ I0 h
 rw [he] at hargs ⊢
 refine PySem.W.callWith_of (P:=fun h=>∃ o fd,h.get? fl=some o/\o.data = .func fd) (by show ((false || (backTo pos (starEach [e2] X.env)).any (·.1)) || false)=false;rw [hpl];rfl) (fun h ⟨o,fd,z1,z2⟩=>⟨.frame,.inl rfl,?_⟩) (Calls.evalArgs_plain (thn hargs fun us s1 ⟨vs,H1,I1,rv,q⟩=>?_))
 ·intro A' Q' E' s' kp q
  unfold keeperOf
  refine wpAny_bind (wpAny_load (kp _ _ z1) ?_)
  rw [z2]
  exact wpAny_pure q
 ·obtain ⟨c0,g,fx,sm,n,a,ds,ws,rfl,la,sg,h1,rd,fls,s60,n1000,d50,q⟩:=q
  obtain ⟨c',pm,ctv,oc0,oc',vsc,tq,l1,l2,l3,l4,l5,l6⟩:=la
  obtain ⟨u1,u2,rfl,r1,r2⟩:=Vals.two rv
  refine ⟨⟨_,_,zev I1.hok l1,rfl⟩,?_⟩
  refine wpAny_call (codeAny_mono (znZ (Q:=Q) hr I1.env0 l1 l2 l3 l4 l5 l6 O r1 r2 ⟨g,fx,sm,n,a,ds,ws,rfl,sg.del1 l2,by rw [zbh (fun z=>by rw [z,l2] at h1;cases h1)];exact h1,Reps.del1 l2 rd,fls,s60,n1000,d50,fun v' H' sm' rp nn=>q v' _ (fun b o e=>?_) (Rep.same (Same.upd nn) rp)⟩) fun r s' hq=>?_)
  ·by_cases z:b=c0
   ·subst z
    rw [l2] at e
    cases e
    exact upd_same
   ·rw [zac z]
    exact sm' b o (by rw [zbh z];exact e)
  ·cases r with
   | error e=>exact hq.elim
   | ok fl' =>
    cases fl' with
    | ret u=>exact I1.after hq
    | next=>exact hq.elim
    | brk=>exact hq.elim
    | cont=>exact hq.elim
end Lw
namespace Lw
open PySem L2
section
variable {P:Program}{w:World}{K:PySem.W.Frag}{mg:Str->Option Value}{base:Heap}
noncomputable def pts:D->List D
 | .tup (.str _ :: ds)=>ds
 | .lst (.str _ :: ds)=>ds
 | _=>[]
noncomputable def stk:List D->List D
 | []=>[]
 | x :: S=>x :: (stk S).drop (pts x).length
mutual
theorem zjG:∀ {d:D},Wk d->∀ S:List D,stk (wlk d ++ S)=d :: stk S
 | .str x,_,S=>by unfold wlk;show stk (.str x :: S)=_;rw [stk];rfl
 | .tup (.str n :: ds),h,S=>by
  unfold Wk at h
  rw [wlk,List.cons_append,stk,zdV h S]
  show _ :: (ds ++ stk S).drop ds.length=_
  rw [List.drop_left]
 | .lst (.str n :: ds),h,S=>by
  unfold Wk at h
  rw [wlk,List.cons_append,stk,zdV h S]
  show _ :: (ds ++ stk S).drop ds.length=_
  rw [List.drop_left]
 | .non,h,_ | .bl _,h,_ | .int _,h,_ | .tup [],h,_ | .lst [],h,_ | .tup (.non :: _),h,_ | .tup (.bl _ :: _),h,_ | .tup (.int _ :: _),h,_ | .tup (.tup _ :: _),h,_ | .tup (.lst _ :: _),h,_ | .lst (.non :: _),h,_ | .lst (.bl _ :: _),h,_ | .lst (.int _ :: _),h,_ | .lst (.tup _ :: _),h,_ | .lst (.lst _ :: _),h,_=>by unfold Wk at h;exact absurd h id
theorem zdV:∀ {ds:List D},Wks ds->∀ S:List D,stk (wlks ds ++ S)=ds ++ stk S
 | [],_,S=>rfl
 | d :: ds,⟨a,b⟩,S=>by rw [wlks,List.append_assoc,zjG a,zdV b];rfl
end
mutual
theorem zga:∀ {d:D},Wk d->∀ {pre S:List D} {x:D},wlk d=pre ++ x :: S->∃ rest,S=wlks (pts x) ++ rest
 | .str y,_,pre,S,x,e=>by
  unfold wlk at e
  cases pre with
  | nil=>cases e;exact ⟨[],rfl⟩
  | cons p pre=>have:=congrArg List.length e;simp at this
 | .tup (.str n :: ds),h,pre,S,x,e=>by
  unfold Wk at h
  rw [wlk] at e
  cases pre with
  | nil=>cases e;exact ⟨[],by simp [pts]⟩
  | cons p pre=>injection e with _ e;exact zcU h e
 | .lst (.str n :: ds),h,pre,S,x,e=>by
  unfold Wk at h
  rw [wlk] at e
  cases pre with
  | nil=>cases e;exact ⟨[],by simp [pts]⟩
  | cons p pre=>injection e with _ e;exact zcU h e
 | .non,h,_,_,_,_ | .bl _,h,_,_,_,_ | .int _,h,_,_,_,_ | .tup [],h,_,_,_,_ | .lst [],h,_,_,_,_ | .tup (.non :: _),h,_,_,_,_ | .tup (.bl _ :: _),h,_,_,_,_ | .tup (.int _ :: _),h,_,_,_,_ | .tup (.tup _ :: _),h,_,_,_,_ | .tup (.lst _ :: _),h,_,_,_,_ | .lst (.non :: _),h,_,_,_,_ | .lst (.bl _ :: _),h,_,_,_,_ | .lst (.int _ :: _),h,_,_,_,_ | .lst (.tup _ :: _),h,_,_,_,_ | .lst (.lst _ :: _),h,_,_,_,_=>by unfold Wk at h;exact absurd h id
theorem zcU:∀ {ds:List D},Wks ds->∀ {pre S:List D} {x:D},wlks ds=pre ++ x :: S->∃ rest,S=wlks (pts x) ++ rest
 | [],_,pre,S,x,e=>by have:=congrArg List.length e;simp [wlks] at this
 | d :: ds,⟨a,b⟩,pre,S,x,e=>by
  rw [wlks] at e
  rcases List.append_eq_append_iff.mp e with ⟨m,h1,h2⟩ | ⟨m,h1,h2⟩
  ·exact zcU b h2
  ·cases m with
   | nil=>exact zcU b (pre:=[]) (by simpa using h2.symm)
   | cons y m =>
    injection h2 with h3 h4
    subst h3
    obtain ⟨rest,hr⟩:=zga a h1
    exact ⟨rest ++ wlks ds,by rw [h4,hr];show (wlks (pts x) ++ rest) ++ wlks ds=_;rw [List.append_assoc]⟩
end
theorem zjH:∀ {S:List D} {y:D},y ∈ stk S->y ∈ S
 | x :: S,y,h=>by
  rw [stk] at h
  obtain rfl | h:=List.mem_cons.mp h
  ·exact List.mem_cons_self
  ·exact List.mem_cons_of_mem _ (zjH (List.mem_of_mem_drop h))
theorem zjI:∀ S:List D,(stk S).length<=S.length
 | []=>Nat.le_refl _
 | x :: S=>by rw [stk,List.length_cons,List.length_cons,List.length_drop];have:=zjI S;omega
theorem zhQ {l:List D}(h:Fls l):Fls l.reverse:=zdM fun d hd=>zb8 h d (List.mem_reverse.mp hd)
theorem ziA {l:List D}(h:Fls l)(k:Nat):Fls (l.drop k):=zdM fun d hd=>zb8 h d (List.mem_of_mem_drop hd)
theorem zmn {l:List D}(h:Fls l)(k:Nat):Fls (l.take k):=zdM fun d hd=>zb8 h d (List.mem_of_mem_take hd)
theorem zkZ (sm:List (Str×Str))(l:List D)(k:Nat):flts sm (l.drop k)=(flts sm l).drop k:=by rw [zbd,zbd,List.map_drop]
structure Sub (d x:D):Prop where
 tm:Tm x
 sz:sz x<=sz d
 nd:nds x<=nds d
 dp:depD x<=depD d
mutual
theorem zhj:∀ {d:D},Tm d->∀ x ∈ wlk d,Sub d x
 | .str y,h,x,hx=>by unfold wlk at hx;rw [List.mem_singleton.mp hx];exact ⟨h,Nat.le_refl _,Nat.le_refl _,Nat.le_refl _⟩
 | .tup (.str n :: ds),h,x,hx=>by
  rw [wlk] at hx
  obtain rfl | hx:=List.mem_cons.mp hx
  ·exact ⟨h,Nat.le_refl _,Nat.le_refl _,Nat.le_refl _⟩
  ·unfold Tm at h
   obtain ⟨a,b,c,e⟩:=zfw h.2 x hx
   exact ⟨a,by rw [sz];omega,by rw [nds];omega,by rw [depD,depDs];omega⟩
 | .lst (.str n :: ds),h,x,hx=>by
  rw [wlk] at hx
  obtain rfl | hx:=List.mem_cons.mp hx
  ·exact ⟨h,Nat.le_refl _,Nat.le_refl _,Nat.le_refl _⟩
  ·unfold Tm at h
   obtain ⟨a,b,c,e⟩:=zfw h.2 x hx
   exact ⟨a,by rw [sz];omega,by rw [nds];omega,by rw [depD,depDs];omega⟩
 | .non,h,_,_ | .bl _,h,_,_ | .int _,h,_,_ | .tup [],h,_,_ | .lst [],h,_,_ | .tup (.non :: _),h,_,_ | .tup (.bl _ :: _),h,_,_ | .tup (.int _ :: _),h,_,_ | .tup (.tup _ :: _),h,_,_ | .tup (.lst _ :: _),h,_,_ | .lst (.non :: _),h,_,_ | .lst (.bl _ :: _),h,_,_ | .lst (.int _ :: _),h,_,_ | .lst (.tup _ :: _),h,_,_ | .lst (.lst _ :: _),h,_,_=>by unfold Tm at h;exact absurd h id
theorem zfw:∀ {ds:List D},Tms ds->∀ x ∈ wlks ds,Tm x/\sz x<=szs ds/\nds x<=ndss ds/\depD x<=depDs ds
 | d :: ds,⟨a,b⟩,x,hx=>by
  rw [wlks] at hx
  obtain hx | hx:=List.mem_append.mp hx
  ·obtain ⟨h1,h2,h3,h4⟩:=zhj a x hx
   exact ⟨h1,by rw [szs];omega,by rw [ndss];omega,by rw [depDs];omega⟩
  ·obtain ⟨h1,h2,h3,h4⟩:=zfw b x hx
   exact ⟨h1,by rw [szs];omega,by rw [ndss];omega,by rw [depDs];omega⟩
end
mutual
theorem zh5:∀ {d:D},Tm d->Wk d
 | .str x,h=>trivial
 | .tup (.str n :: ds),h=>by unfold Wk;unfold Tm at h;exact zdU h.2
 | .lst (.str n :: ds),h=>by unfold Wk;unfold Tm at h;exact zdU h.2
 | .non,h | .bl _,h | .int _,h | .tup [],h | .lst [],h | .tup (.non :: _),h | .tup (.bl _ :: _),h | .tup (.int _ :: _),h | .tup (.tup _ :: _),h | .tup (.lst _ :: _),h | .lst (.non :: _),h | .lst (.bl _ :: _),h | .lst (.int _ :: _),h | .lst (.tup _ :: _),h | .lst (.lst _ :: _),h=>by unfold Tm at h;exact absurd h id
theorem zdU:∀ {ds:List D},Tms ds->Wks ds
 | [],_=>trivial
 | _ :: _,⟨a,b⟩=>⟨zh5 a,zdU b⟩
end
theorem znG (n z:Str)(l:List D):nds (one n z l)<=1 + ndss l:=by
 unfold one
 split
 ·show nds (.str z)<=_
  unfold nds;omega
 ·rw [ndss,ndss];omega
 ·rw [nds];omega
theorem zko {l m:List D}(p:l.Perm m):ndss l=ndss m:=by
 induction p with
 | nil=>rfl
 | cons x _ ih=>rw [ndss,ndss,ih]
 | swap x y l=>rw [ndss,ndss,ndss,ndss];omega
 | trans _ _ a b=>exact a.trans b
theorem zis (sm:List (Str×Str))(n:Str)(ps:List D):nds (knot sm n ps)<=1 + ndss ps:=by
 unfold knot
 split
 ·rw [nds];omega
 ·rename_i z _
  have h1:=znG n z (zcf (opn n z ps))
  rw [zko (za1 _)] at h1
  have h2:=zhB n z ps
  omega
mutual
theorem zn9 (sm:List (Str×Str)):∀ d:D,nds (flt sm d)<=nds d
 | .tup (.str n :: ds)=>by rw [flt,nds];have:=zis sm n (flts sm ds);have:=zd6 sm ds;omega
 | .lst (.str n :: ds)=>by rw [flt,nds];have:=zis sm n (flts sm ds);have:=zd6 sm ds;omega
 | .non | .bl _ | .int _ | .str _ | .tup [] | .lst [] | .tup (.non :: _) | .tup (.bl _ :: _) | .tup (.int _ :: _) | .tup (.tup _ :: _) | .tup (.lst _ :: _) | .lst (.non :: _) | .lst (.bl _ :: _) | .lst (.int _ :: _) | .lst (.tup _ :: _) | .lst (.lst _ :: _)=>by unfold flt;exact Nat.le_refl _
theorem zd6 (sm:List (Str×Str)):∀ ds:List D,ndss (flts sm ds)<=ndss ds
 | []=>Nat.le_refl _
 | d :: ds=>by rw [flts,ndss,ndss];have:=zn9 sm d;have:=zd6 sm ds;omega
end
theorem zn8 (sm:List (Str×Str)){n:Str}{ds:List D}{x:D}(h:x = .tup (.str n :: ds)∨x = .lst (.str n :: ds)):flt sm x=knot sm n (flts sm ds)/\pts x=ds:=by rcases h with rfl | rfl <;> exact ⟨by rw [flt],rfl⟩
noncomputable def spFW (K:PySem.W.Frag)(C:Addr):Sp:=fun vs H Q _=>∃ (fi fl c0 g:Addr) (fx:List (Str×Int)) (sm:List (Str×Str)) (d:D) (v:V),vs=[v,.ref fi,.ref fl]/\H fi=some (.dK [])/\LamAt H fl c0 g/\SgAt K C fx sm H g/\Rep H d v/\Tm d/\(∀ r ∈ sm,r.2=("" : Str)∨Fl (.str r.2))/\sz d<=60/\nds d<=1000/\depD d<=50 /\
 ∀ (v':V) (H':Hp),Same H H'->Rep H' (flt sm d) v'->Q v' H'
noncomputable def FwI (v:V)(fi fl m l:Addr)(sm:List (Str×Str))(W:List D)(ws:List V)(H:Hp)(i:Nat)(σ:St)(H3:Hp):Prop:=∃ (us:List V) (o4 o5:Option V),σ=[some v,some (.ref fi),some (.ref fl),some (.ref m),o4,o5]/\H3 m=some (.lst us)/\Same H H3/\H3 l=some (.lst ws)/\Reps H3 (flts sm (stk (W.drop (W.length - i)))).reverse us
noncomputable def FwC (m l p:Addr)(ws:List V)(o:HO)(fs:List D)(H:Hp)(j:Nat)(acc:List V)(σ:St)(H5:Hp):Prop:=∃ (us:List V) (o0:Option V),σ=[o0,some (.ref m)]/\H5 m=some (.lst us)/\Same H H5/\H5 l=some (.lst ws)/\H5 p=some o/\Reps H5 (fs.drop j).reverse us/\Reps H5 (fs.take j) acc
theorem zpE {f C:Addr}{fd:FuncData}(F:Fun K "from_within" "from_within" zaI f fd)(T:Txt mg)(O_walked:Own P w K mg base CX0 1 "walked" zdW)(O_flat_of_parts:Own P w K mg base CX0 6 "flat_of_parts" (zbQ K C)):FnOk P w K mg base CX0 8 f fd zcq (spFW K C):=by
 refine F.ok zbC (fun vs H Q E h=>?_) (fun cdv A outer s H vs Q E hr h=>?_)
 ·obtain ⟨fi,fl,c0,g,fx,sm,d,v,rfl,_⟩:=h
  rfl
 ·obtain ⟨fi,fl,c0,g,fx,sm,d,v,rfl,hfi,la,sg,rep,tm,hz,s60,n1000,d50,q⟩:=h
  have hu:=hr.units
  refine ⟨_,(zaf (zap (i:=3) zbC.nd rfl (Or.inr rfl) (zaX zae))
   (zaf (zb2 PassesOwn.never rfl (zgp K rfl rfl T.n_reversed (zaa (zan O_walked (hr.mono (by decide)) pass0 rfl (zaa (pv 0) zae)) zae)) (zaC (i:=4) zbC.nd rfl (Or.inl rfl)) (zag (zaT (zal K rfl (zaj zai rfl T.n_isinstance rfl (zaa (pv 4) (zaa (zaD (v:=V.ty "str") rfl T.n_str rfl rfl) zae))) (fun _=>rfl)) (zag (zaP (zcB PySem.F.plainAttrs_list PySem.F.slot_list_append PySem.F.type_list_append zbj (pv 3) (zaa (zlP (Nat.lt_of_le_of_lt (Nat.add_le_add_left (by decide) _) hu) (pv 1) (pv 4) (pv 4) ⟨rfl,rfl,rfl,rfl⟩) zae)))) (zaf (zc5 (i:=5) zbC.nd rfl rfl rfl rfl (CompSc.by (N:=zct) (names:=(zad zaI).names) (N':=["part","made"]) (src:=[none,some 3]) (by decide +kernel) rfl rfl) (zbi K rfl (zcn ze2 (pv 4) (zbH zah) zbT)) (fun _ _ _ _=>(zaC (i:=0) (show List.Nodup (["part","made"]:List Str) by decide +kernel) rfl (Or.inl rfl))) (fun _ _ _ _=>zbx) (fun _ _ _ _=>(znw K rfl PySem.F.plainAttrs_list PySem.F.slot_list_pop PySem.F.type_list_pop zgz (pv 1))))
   (zag (zaP (zcB PySem.F.plainAttrs_list PySem.F.slot_list_append PySem.F.type_list_append zbj (pv 3) (zaa (ziZ (i:=2) rfl (Or.inl rfl) O_flat_of_parts (hr.mono (by decide)) (zaa (zbg ix_F (pv 4) zah (fun _ _=>rfl)) (zaa (pv 5) zae))) zae))))))))
   (zag (zao (zbg ix_F (pv 3) zah (fun _ _=>rfl)))))),?_⟩
  simp only [zct]
  clear hr F T hu O_walked O_flat_of_parts
  have keep:=And.intro q (And.intro hfi (And.intro la (And.intro sg (And.intro rep (And.intro tm (And.intro hz (And.intro s60 (And.intro n1000 d50))))))))
  clear q hfi la sg rep tm hz s60 n1000 d50
  walk_at "rd"
  obtain ⟨q,hfi,la,sg,rep,tm,hz,s60,n1000,d50⟩:=keep
  refine ⟨Nat.zero_le _,fun m hm=>?_⟩
  have s1:Same H (upd H m (.lst [])):=Same.upd hm
  have hm1:upd H m (.lst []) m=some (.lst []):=upd_same
  generalize upd H m (.lst [])=H1 at s1 hm1 ⊢
  refine ⟨_,rfl,d,v,H,rfl,s1,rep,zh5 tm,n1000,fun l ws H2 s2 hl h2 rws=>⟨l,ws,rfl,h2,?_⟩⟩
  have lw:=Reps.len rws
  have lk:=zfr d
  have hml:m≠l:=fun z=>by rw [z,hl] at hm1;cases hm1
  refine zmm ws (FwI v fi fl m l sm (wlk d) ws H) ⟨[],none,none,rfl,s2 _ _ hm1,s1.trans s2,h2,by rw [Nat.sub_zero,List.drop_length];rfl⟩ (fun i σ H3 _ ⟨_,_,_,_,_,_,h,_⟩=>h) ?_ ?_
  ·rintro i x σ H3 hi hx ⟨us,o4,o5,rfl,h3,s3,hl3,ru⟩
   obtain ⟨e,he,rx⟩:=Reps.get rws hx
   rw [lw] at hi he
   have hlt:(wlk d).length - 1 - i < (wlk d).length:=by omega
   have hdrop:(wlk d).drop ((wlk d).length - (i + 1))=e :: (wlk d).drop ((wlk d).length - i):=by
    have e1:(wlk d)[(wlk d).length - 1 - i]=e:=(List.getElem?_eq_some_iff.mp he).2
    rw [show (wlk d).length - (i + 1)=(wlk d).length - 1 - i by omega,List.drop_eq_getElem_cons hlt,e1,show (wlk d).length - 1 - i + 1=(wlk d).length - i by omega]
   have hsplit:wlk d=(wlk d).take ((wlk d).length - (i + 1)) ++ e :: (wlk d).drop ((wlk d).length - i):=by rw [← hdrop,List.take_append_drop]
   obtain ⟨rest,hrest⟩:=zga (zh5 tm) hsplit
   have sub:=zhj tm e (List.mem_of_getElem? he)
   have inS:∀ y ∈ (wlk d).drop ((wlk d).length - i),y ∈ wlk d:=fun y hy=>List.mem_of_mem_drop hy
   have lS:((wlk d).drop ((wlk d).length - i)).length<=1000:=by rw [List.length_drop];omega
   generalize (wlk d).drop ((wlk d).length - i)=S at hdrop hsplit hrest inS lS ru
   have flS:Fls (flts sm (stk S)):=zdM fun y hy=>by
    rw [zbd] at hy
    obtain ⟨z,hz1,rfl⟩:=List.mem_map.mp hy
    exact (ziz hz (zhj tm z (inS z (zjH hz1))).tm).1
   have lu:=Reps.len ru
   rw [List.length_reverse,zbd,List.length_map] at lu
   have ls:(stk S).length<=1000:=Nat.le_trans (zjI S) lS
   have keep:=And.intro q (And.intro hfi (And.intro la (And.intro sg (And.intro tm (And.intro hz (And.intro s60 (And.intro n1000 (And.intro d50 (And.intro hm (And.intro hl3 (And.intro h3 (And.intro s3 (And.intro ru (And.intro rx (And.intro sub (And.intro hdrop (And.intro hrest (And.intro flS (And.intro lu (And.intro ls (And.intro hml he)))))))))))))))))))))
   clear q hfi la sg rep tm hz s60 n1000 d50 hm hl3 h3 s3 ru rx sub hdrop hrest flS lu ls hml he s1 hm1 s2 hl h2 rws lw lk hx hi hlt hsplit inS lS
   walk_at "rd"
   obtain ⟨q,hfi,la,sg,tm,hz,s60,n1000,d50,hm,hl3,h3,s3,ru,rx,sub,hdrop,hrest,flS,lu,ls,hml,he⟩:=keep
   rcases znb sub.tm with ⟨y,rfl,_⟩ | ⟨n,ds,hd,dne,tms⟩
   ·cases (show x = .str y from rx)
    refine ⟨true,rfl,?_⟩
    rw [if_pos rfl]
    refine ⟨tyL h3,_,rfl,fi,rfl,.inl ⟨_,.inl (s3 _ _ hfi)⟩,_,rfl,_,rfl,_,DGet.k (k:=.inr y) (s3 _ _ hfi),us,h3,Nat.lt_of_le_of_lt (m:=1000) (by omega) (by decide),us ++ [.str y],_,_,rfl,upd_same,fun b o hb=>by rw [zac (zab hb hm)];exact s3 _ _ hb,by rw [zac hml.symm];exact hl3,?_⟩
    rw [hdrop,stk]
    show Reps _ (flts sm (.str y :: (stk S).drop 0)).reverse _
    rw [List.drop_zero,flts,List.reverse_cons]
    exact Reps.snoc (by unfold flt;rfl) (Reps.tups (TupS.lst h3) (zhQ flS) ru)
   ·obtain ⟨va,vs',rfl,hbb,hseq,lv⟩:∃ va vs',x = .ref va/\isV H3 (.ref va) (.ty "str")=some false/\SeqV H va (.str n :: vs')/\vs'.length=ds.length:=by
     rcases hd with rfl | rfl
     ·obtain ⟨a,vs,rfl,ha,_,vs',rfl,e1,r⟩:=rx
      cases e1
      exact ⟨a,vs',rfl,zdq (s3 _ _ ha),.inr ha,Reps.len r⟩
     ·obtain ⟨a,vs,rfl,ha,_,vs',rfl,e1,r⟩:=rx
      cases e1
      exact ⟨a,vs',rfl,zeD (s3 _ _ ha),.inl ha,Reps.len r⟩
    obtain ⟨hfe,hpe⟩:=zn8 sm hd
    rw [hpe] at hrest
    have wds:Wks ds:=zdU tms
    have hst:stk S=ds ++ stk rest:=by rw [hrest,zdV wds]
    have hfs:flts sm (stk S)=flts sm ds ++ flts sm (stk rest):=by rw [hst,zbd,List.map_append,← zbd,← zbd]
    have lds:(flts sm ds).length=ds.length:=by rw [zbd,List.length_map]
    have lfs:(flts sm (stk S)).length<=1000:=by rw [zbd,List.length_map];exact ls
    refine ⟨false,hbb,?_⟩
    rw [if_neg (by decide)]
    refine ⟨va,rfl,_,hseq.same s3,fun _ h=>by have:=h.1;simp [HT.sIx] at this,fun p o hp ho=>?_⟩
    rw [zeI] at ho
    refine ⟨vs',by rcases ho with ⟨rfl,_⟩ | ⟨rfl,_⟩;exact .inl upd_same;exact .inr upd_same,fun J hJ=>?_⟩
    have sp:Same H3 (upd H3 p o):=Same.upd hp
    have hpo:upd H3 p o p=some o:=upd_same
    have hmp:m≠p:=zab h3 hp
    have hlp:l≠p:=zab hl3 hp
    generalize upd H3 p o=H4 at sp hpo hJ ⊢
    refine za2 hJ (FwC m l p ws o (flts sm (stk S)) H) ⟨us,none,rfl,sp _ _ h3,s3.trans sp,sp _ _ hl3,hpo,by rw [List.drop_zero];exact Reps.same sp ru,rfl⟩ (fun j acc σ H' _ ⟨_,_,_,_,_,_,h,_⟩=>by rw [h,hpo]) ?_ ?_
    ·rintro j y acc σ H5 hy ⟨us5,o0,rfl,h5,s5,hl5,hp5,r5,racc⟩
     have hj:j < ds.length:=by have:=(List.getElem?_eq_some_iff.mp hy).1;omega
     have hj2:j < (flts sm (stk S)).length:=by rw [hfs,List.length_append];omega
     rw [List.drop_eq_getElem_cons hj2,List.reverse_cons] at r5
     obtain ⟨us6,u,rfl,r6,ru6⟩:=zbS r5
     have la':=Reps.len racc
     rw [List.length_take] at la'
     have fu:Fl (flts sm (stk S))[j]:=zb8 flS _ (List.getElem_mem hj2)
     refine ⟨_,rfl,tyL h5,m,_,u,rfl,rfl,h5,by simp,Nat.lt_of_le_of_lt (m:=1000) (by omega) (by decide),?_⟩
     rw [List.dropLast_concat]
     have tt:TupS H5 (upd H5 m (.lst us6)):=TupS.lst h5
     refine ⟨us6,_,rfl,upd_same,fun b o hb=>by rw [zac (zab hb hm)];exact s5 _ _ hb,by rw [zac hml.symm];exact hl5,by rw [zac hmp.symm];exact hp5,Reps.tups tt (zhQ (ziA flS (j + 1))) r6,?_⟩
     rw [zar (List.getElem?_eq_getElem hj2)]
     exact Reps.snoc (Rep.tups tt fu ru6) (Reps.tups tt (zmn flS j) racc)
    ·rintro acc σ H5 ⟨us5,o0,rfl,h5,s5,hl5,hp5,r5,racc⟩ p6 hp6
     have e1:(flts sm (stk S)).take vs'.length=flts sm ds:=by rw [hfs,lv,← lds,List.take_left]
     rw [e1] at racc
     have s6:Same H5 (upd H5 p6 (.lst acc)):=Same.upd hp6
     have h66:upd H5 p6 (.lst acc) p6=some (.lst acc):=upd_same
     have hmp6:m≠p6:=zab h5 hp6
     generalize upd H5 p6 (.lst acc)=H6 at s6 h66 ⊢
     have sH6:=s5.trans s6
     have ix0:ixV H6 (.ref va) (.int 0)=some (.str n):=by
      rcases hseq.same sH6 with e | e
      ·rw [ixV_l e,atI_zero]
      ·rw [ixV_t e,atI_zero]
     have hsz:sz e=max 1 (szs ds):=by rcases hd with rfl | rfl <;> rw [sz]
     have hnd:nds e=1 + ndss ds:=by rcases hd with rfl | rfl <;> rw [nds]
     have hdp:depD e=depDs ds + 1:=by
      rcases hd with rfl | rfl
      ·rw [depD,depDs,show depD (.str n)=0 from rfl];omega
      ·rw [depD,depDs,show depD (.str n)=0 from rfl];omega
     have b1:=zfU sm ds
     have b2:=zd6 sm ds
     have b3:=zd7 sm ds
     have c1:=sub.sz
     have c2:=sub.nd
     have c3:=sub.dp
     refine ⟨tyL (s6 _ _ h5),fl,rfl,_,rfl,.str n,ix0,_,rfl,c0,g,fx,sm,n,p6,flts sm ds,acc,rfl,la.same sH6,sg.same sH6,h66,Reps.same s6 racc,zn7 hz tms,by omega,by omega,by omega,fun v' H7 s7 r7=>?_⟩
     have h7:=s7 _ _ (s6 _ _ h5)
     have l5:=Reps.len r5
     rw [List.length_reverse,List.length_drop] at l5
     refine ⟨us5,h7,Nat.lt_of_le_of_lt (m:=1000) (by omega) (by decide),us5 ++ [v'],_,_,rfl,upd_same,fun b o hb=>by rw [zac (zab hb hm)];exact s7 _ _ (sH6 _ _ hb),by rw [zac hml.symm];exact s7 _ _ (s6 _ _ hl5),?_⟩
     have tt:TupS H7 (upd H7 m (.lst (us5 ++ [v']))):=TupS.lst h7
     rw [hdrop,stk,flts,List.reverse_cons,hpe,zkZ,hfe]
     rw [lv] at r5
     have fe:=(ziz hz sub.tm).1
     rw [hfe] at fe
     exact Reps.snoc (Rep.tups tt fe r7) (Reps.tups tt (zhQ (ziA flS ds.length)) (Reps.same (s6.trans s7) r5))
  ·rintro σ H3 ⟨us,o4,o5,rfl,h3,s3,hl3,ru⟩
   rw [lw,Nat.sub_self,List.drop_zero] at ru
   have e:=zjG (zh5 tm) []
   rw [List.append_nil] at e
   rw [e] at ru
   obtain ⟨u,r,rfl,r1,r2⟩:=ru
   cases (show r=[] from r2)
   exact ⟨_,rfl,u,by rw [ixV_l h3,atI_zero],q u H3 s3 r1⟩
end
end Lw
namespace L2
open PySem PySem.Spec PyProof.Rows PySem.W
theorem Inv.grow {X:Cx}{pins:List (Addr×Obj)}{σ:L2.St}{H:Hp}{s:Shared}{P:Addr}{ps more:Array Value}{h':Heap}{t':Nat}(I:Inv X pins σ H s)(hP:H P=some (.tbl ps))(hx:Heap.ExtBut P s.heap h')(ht:h'.get? P=some (tabObj (ps ++ more))):Inv X pins σ (upd H P (.tbl (ps ++ more))) { s with heap:=h',toks:=t' }:=by
 have nP:∀ b,H b=none->b≠P:=fun b e z=>by rw [z,hP] at e;cases e
 have nK:∀ b u,H b=some u->(∀ qs,u≠.tbl qs)->b≠P:=fun b u e z w=>by rw [w,hP] at e;cases e;exact z _ rfl
 refine I.un ⟨fun b o e n _ _=>hx b o (nP b n) e,fun b o e n _ _=>⟨o.slots,hx b o (nP b n) e⟩,fun b o e n _=>by rw [zac (nP b n)];exact n,fun b o e _=>?_,fun b xs e=>?_,fun b o u e=>?_,fun b qs e=>?_⟩ (fun b u e=>?_)
 ·by_cases z:b=P
  ·subst z;exact ⟨_,ht⟩
  ·exact ⟨o,hx b o z e⟩
 ·rw [zac (nK b _ e fun _=>by simp)];exact e
 ·rw [zac (nK b _ e fun _=>by simp)];exact e
 ·by_cases z:b=P
  ·subst z
   rw [hP] at e
   cases e
   exact ⟨more,upd_same⟩
  ·exact ⟨#[],by rw [zac z,e];simp⟩
 ·by_cases z:b=P
  ·subst z
   rw [upd_same] at e
   cases e
   exact ht
  ·rw [zac z] at e
   refine (I.hok b u e).stay (fun c o hc q=>hx c o ?_ q) (fun c q=>by rw [zac (nK c _ q fun _=>by simp)];exact q) (fun c xs q=>by rw [zac (nK c _ q fun _=>by simp)];exact q)
   rcases hc with rfl | hc
   ·exact z
   ·exact nK c _ hc fun _=>by simp
end L2
namespace Lw
open PySem PySem.Spec PyProof.Rows PySem.W L2
noncomputable def zo5 (e:Expr):Pos:=match e with
 | .Lambda _ _ _ p=>p
 | _=>⟨0,0,0,0⟩
noncomputable abbrev xL:Pos:=zo5 (lamOf zaS)
noncomputable def LT (P:Addr)(H:Hp):Prop:=H P=some (.tbl #[])∨∃ (c':Addr) (oc':Obj) (vsc:Array Value) (tq:Tok),H P=some (.tbl #[rawInt xL.line,rawInt xL.col,.ref c'])/\H c'=some (pinO c' oc')/\oc'.data = .fields vsc/\vsc[1]?=some (.str qL tq)
theorem LT.same {P:Addr}{H H':Hp}(h:LT P H)(s:Same H H'):LT P H':=by
 rcases h with h | ⟨c',oc',vsc,tq,h1,h2,h3⟩
 ·exact .inl (s _ _ h)
 ·exact .inr ⟨c',oc',vsc,tq,s _ _ h1,s _ _ h2,h3⟩
noncomputable def Bm (mg:Str->Option Value)(base:Heap):Prop:=∃ bm o,mg "__builtins__" = some (.ref bm)/\bm≠builtinsNs/\bm≠mainGlobals/\base.get? bm=some o/\o.cls = .type "module"/\o.dict=some builtinsNs/\o.data = .plain
noncomputable def zou (P c0:Addr):TE:=fun σ H Q=>LT P H/\∀ (fl c':Addr) (pm ctv:Value) (oc':Obj) (vsc:Array Value) (tq:Tok) (H':Hp),But P H H'->LT P H'->H' fl=some (pinO fl (oL c0 c' pm ctv))->H' c'=some (pinO c' oc')->oc'.data = .fields vsc->vsc[1]?=some (.str qL tq)->H c0=none->H' c0=none->Q (.ref fl) H'
theorem zlN {X:Cx}{c P c0:Addr}(hcl:closureFor scL X.env=pure [(("signs" : Str),c0)])(hcell:X.env.cells.lookup ("signs" : Str)=some c0)(hcode:X.env.code = .ref c)(hq:X.env.qual ++ "<lambda>" = qL)(hC:∀ h,X.K.In h->CodeHd h c P)(hB:Bm X.mg X.base):PE X (.Lambda pL bL scL xL) (zou P c0):=by
 intro pins s σ H Q I h
 obtain ⟨lt,q⟩:=h
 have hg:s.heap.Ns mainGlobals X.mg:=I.mod.glob.keeps I.bk
 have hPs:∃ ps,H P=some (.tbl ps):=by
  rcases lt with h | ⟨_,_,_,_,h,_⟩
  ·exact ⟨_,h⟩
  ·exact ⟨_,h⟩
 obtain ⟨ps,hP⟩:=hPs
 have gP:s.heap.get? P=some (tabObj ps):=I.hok P _ hP
 have nb:∀ b o,X.base.get? b=some o->b≠P:=fun b o e z=>by have:=(I.bs b o e).2;rw [z,hP] at this;cases this
 have hgP:mainGlobals≠P:=by
  obtain ⟨o,es,ep,e,_⟩:=I.mod.glob
  exact nb _ _ e
 have hb:s.heap.BuiltinsAt X.mg P:=by
  obtain ⟨bm,o,b1,b2,b3,b4,b5,b6,b7⟩:=hB
  exact ⟨bm,o,b1,b2,b3,nb _ _ b4,I.bk _ _ b4,b5,b6,b7⟩
 have n0:=I.freeC _ _ hcell
 refine kla_eval rfl ?_
 rw [hq]
 rcases lt with lt | ⟨c',oc',vsc,tq,lt,l2,l3,l4⟩
 ·rw [hP] at lt
  cases lt
  refine kla_makeFunction hcl I.ok.glob hg hcode (hC _ I.kIn) gP trivial rfl hgP hb fun c' ctv h' tk hx hge hlt hrec htb=>?_
  obtain ⟨c2,oc',vsc,tq,e2,hoc,hd,hv⟩:=hrec
  cases e2
  have I1:Inv X pins σ (upd H P (.tbl (#[] ++ #[rawInt xL.line,rawInt xL.col,.ref c']))) { s with heap:=h',toks:=tk }:=I.grow hP hx htb
  have nP:P≠c':=fun z=>by
   have:=Heap.lt_size gP
   rw [z] at this
   exact Nat.lt_irrefl _ (Nat.lt_of_lt_of_le this hge)
  have nc':H c'=none:=I.hok.fresh hge
  have fc:=I.fpOk (H':=upd H P (.tbl (#[] ++ #[rawInt xL.line,rawInt xL.col,.ref c']))) hge (by rw [zac nP.symm];exact nc')
  have I2:=I1.adopt (o:=pinO c' oc') fc (zig hoc)
  have zf:s.heap.objs.size<=h'.objs.size:=Nat.le_trans hge (Nat.le_of_lt hlt)
  have I3:=I2.kept (t':=tk) fun b o e=>Heap.get?_push_of_some (oL c0 c' ((X.mg "__name__").getD .none) ctv) e
  have ff:=I2.fpOk (Nat.le_refl h'.objs.size) (I2.hok.fresh (Nat.le_refl _))
  have gf:(h'.push (oL c0 c' ((X.mg "__name__").getD .none) ctv)).get? h'.objs.size=some (oL c0 c' ((X.mg "__name__").getD .none) ctv):=Heap.get?_push_size _ rfl
  have I4:=I3.adopt (o:=pinO h'.objs.size (oL c0 c' ((X.mg "__name__").getD .none) ctv)) ff (zig gf)
  have nfc:c'≠h'.objs.size:=Nat.ne_of_lt hlt
  have nPf:P≠h'.objs.size:=fun z=>by
   have:=Heap.lt_size gP
   rw [z] at this
   exact Nat.lt_irrefl _ (Nat.lt_of_lt_of_le this zf)
  have hc'4:upd (upd (upd H P (.tbl (#[] ++ #[rawInt xL.line,rawInt xL.col,.ref c']))) c' (pinO c' oc')) h'.objs.size (pinO h'.objs.size (oL c0 c' ((X.mg "__name__").getD .none) ctv)) c'=some (pinO c' oc'):=by rw [zac nfc];exact upd_same
  have hP4:upd (upd (upd H P (.tbl (#[] ++ #[rawInt xL.line,rawInt xL.col,.ref c']))) c' (pinO c' oc')) h'.objs.size (pinO h'.objs.size (oL c0 c' ((X.mg "__name__").getD .none) ctv)) P=some (.tbl #[rawInt xL.line,rawInt xL.col,.ref c']):=by rw [zac nPf,zac nP,upd_same];rfl
  refine ⟨.ref h'.objs.size,_,I4,rfl,q _ c' _ ctv oc' vsc tq _ (fun b o nb e=>?_) (.inr ⟨c',oc',vsc,tq,hP4,hc'4,hd,hv⟩) upd_same hc'4 hd hv n0 (I4.freeC _ _ hcell)⟩
  have lb:=I.hok.lt e
  rw [zac (fun z=>by rw [z] at lb;exact Nat.lt_irrefl _ (Nat.lt_of_lt_of_le lb zf)),zac (zab e nc'),zac nb]
  exact e
 ·rw [hP] at lt
  cases lt
  have am:codeAmong xL [rawInt xL.line,rawInt xL.col,.ref c']=some (.ref c'):=by simp [codeAmong,rawInt]
  refine kla_makeFunctionHit (cv:=.ref c') hcl I.ok.glob hg hcode (hC _ I.kIn) gP trivial am hb fun ctv h' tk hk hsz=>?_
  have I3:Inv X pins σ H { s with heap:=h'.push (oL c0 c' ((X.mg "__name__").getD .none) ctv),toks:=tk }:=I.kept fun b o e=>Heap.get?_push_of_some _ (hk b o e)
  have nf:=I.hok.fresh hsz
  have ff:=I.fpOk hsz nf
  have gf:(h'.push (oL c0 c' ((X.mg "__name__").getD .none) ctv)).get? h'.objs.size=some (oL c0 c' ((X.mg "__name__").getD .none) ctv):=Heap.get?_push_size _ rfl
  have I4:=I3.adopt (o:=pinO h'.objs.size (oL c0 c' ((X.mg "__name__").getD .none) ctv)) ff (zig gf)
  have sm:Same H (upd H h'.objs.size (pinO h'.objs.size (oL c0 c' ((X.mg "__name__").getD .none) ctv))):=Same.upd nf
  exact ⟨.ref h'.objs.size,_,I4,rfl,q _ c' _ ctv oc' vsc tq _ (fun b o _ e=>sm b o e) (.inr ⟨c',oc',vsc,tq,sm _ _ hP,sm _ _ l2,l3,l4⟩) upd_same (sm _ _ l2) l3 l4 n0 (I4.freeC _ _ hcell)⟩
noncomputable def tFWc (K:PySem.W.Frag)(C c0:Addr)(t:TA):TE:=fun σ H Q=>t σ H fun vs H1=>∃ g,σ[0]?=some (some (.ref g))/\∀ oc0:Obj,oc0.data = .cell (some (.ref g))->H1 c0=none->spFW K C vs (upd H1 c0 (pinO c0 oc0)) (fun v H'=>H' c0=some (pinO c0 oc0)/\Q v (del1 H' c0)) E0
theorem zpC {X:Cx}{C c0:Addr}{k:Nat}{e:Expr}{es:List Expr}{t:TA}{p pos:Pos}(O:Own X.prog X.w X.K X.mg X.base CX0 k "from_within" (spFW X.K C))(hr:Room k X.A)(hg:Gl X "from_within")(hN:X.N[0]?=some ("signs" : Str))(hkind:X.env.scope.names.lookup ("signs" : Str)=some .cell)(hcell:X.env.cells.lookup ("signs" : Str)=some c0)(hfn:X.fn "signs" = true)(ha:PA X (e :: es) t)
  (he:starEach (e :: es) X.env=(false,eval e X.env) :: starEach es X.env:=by rfl) (hpl:(backTo pos (starEach es X.env)).any (·.1)=false:=by rfl):PE X (.Call (.Name "from_within" p) (e :: es) [] pos) (tFWc X.K C c0 t):=by
 obtain ⟨f,fd,ps,F,hm,hk,hb⟩:=O
 intro pins s σ H Q I h
 refine wpAny_Call_Name_kw (zc8 I hg hm ?_ (by decide))
 refine PySem.W.callWith_K (h₀:=X.base) I.ok.mod.kin hk (thn (ha pos pins s σ H _ I h) fun us s1 ⟨vs,H1,I1,r,q⟩=>⟨I1.kIn,?_⟩) he hpl
 obtain ⟨g,hσ,q⟩:=q
 have n0:=I1.freeC _ _ hcell
 have young:=I1.ok.cab _ _ hfn hcell
 obtain ⟨oc0,ho,hd⟩:∃ oc0,s1.heap.get? c0=some oc0/\oc0.data = .cell (some (.ref g)):=by
  obtain ⟨m,hns,hl⟩:=I1.loc
  obtain ⟨u,ru,look⟩:=hl 0 _ _ hN hσ (.inr (.inl hkind))
  cases ru
  rcases look with ⟨z,_⟩ | ⟨_,c,hc,oc0,ho,hd⟩
  ·have z':X.env.scope.names.lookup ("signs" : Str)=some .local:=z
   rw [hkind] at z'
   cases z'
  ·rw [hcell] at hc
   cases hc
   exact ⟨oc0,ho,hd⟩
 have sp:=q oc0 hd n0
 have e0:=I1.env0
 have nl:c0≠X.env.locals:=fun z=>by
  obtain ⟨m,⟨o,es',ep,e1,e2,_⟩,_⟩:=I1.loc
  rw [← z,ho] at e1
  cases e1
  rw [hd] at e2
  cases e2
 have nfs:∀ b ∈ frs X.stack,b≠c0:=fun b hb z=>by
  rcases List.mem_cons.mp (I1.stkSub b hb) with w | w
  ·exact nl (z ▸ w)
  ·obtain ⟨_,o,e1,_⟩:=I1.ok.funs.mem w
   exact Nat.lt_irrefl _ (Nat.lt_of_lt_of_le (Heap.lt_size e1) (z ▸ young))
 have hl:(us ++ []).length=ps.length:=by
  have:=F.len _ _ _ _ sp
  rw [List.append_nil,← r.length];exact this
 have ne:∀ b o,X.base.get? b=some o->b≠c0:=fun b o e z=>Nat.lt_irrefl _ (Nat.lt_of_lt_of_le (Heap.lt_size (I1.ok.bs b o e).1) (z ▸ young))
 have env:Env0 X.prog X.w X.K X.mg X.base X.A X.stack s1 (upd H1 c0 (pinO c0 oc0)):=⟨e0.frames,e0.mod,fun b o e=>⟨(e0.bs b o e).1,by rw [zac (ne b o e)];exact (e0.bs b o e).2⟩,e0.bsz,e0.funs,fun b z=>by rw [zac (nfs b z)];exact e0.frf b z,e0.hok.back n0 ho,e0.bare⟩
 refine wpAny_call (codeAny_mono (F.run X.A X.stack s1 _ ⟨us,[]⟩ us vs _ E0 hr env (by have:=hb s1 us I1.kIn hl;rw [List.append_nil] at this;exact this) r sp) fun res s' hq=>?_)
 cases res with
 | error x=>exact hq.elim
 | ok fl' =>
  cases fl' with
  | ret u =>
   obtain ⟨v,H',os,bare,un,hok,rv,hc0,qq⟩:=hq
   have g0:=zev hok hc0
   have nb:∀ b u,H1 b=some u->b≠c0:=fun b u e=>zab e n0
   have un2:Un (frs X.stack) [] H1 (del1 H' c0) s1.heap s'.heap:=by
    refine ⟨fun b o e n hf hx=>?_,fun b o e n hf hx=>?_,fun b o e n hx=>?_,fun b o e hx=>un.there b o e hx,fun b xs e=>?_,fun b o u' e=>?_,fun b qs e=>?_⟩
    ·by_cases z:b=c0
     ·subst z
      rw [ho] at e
      cases e
      exact g0
     ·exact un.keep b o e (by rw [zac z];exact n) hf hx
    ·exact un.slot b o e (by rw [zac (nfs b hf)];exact n) hf hx
    ·by_cases z:b=c0
     ·subst z;exact zdu
     ·exact zcg (un.free b o e (by rw [zac z];exact n) hx)
    ·rw [zbh (nb b _ e)]
     exact un.tups b xs (by rw [zac (nb b _ e)];exact e)
    ·rw [zbh (nb b _ e)]
     exact un.frzs b o u' (by rw [zac (nb b _ e)];exact e)
    ·rw [zbh (nb b _ e)]
     exact un.tbls b qs (by rw [zac (nb b _ e)];exact e)
   exact ⟨v,_,I1.call' (ch:=[]) os un2 (hok.del hc0) bare (fun b z=>absurd z (by simp)),rv,qq⟩
  | next=>exact hq.elim
  | brk=>exact hq.elim
  | cont=>exact hq.elim
end Lw
namespace Lw
open PySem L2
section
variable {P:Program}{w:World}{K:PySem.W.Frag}{mg:Str->Option Value}{base:Heap}
theorem zn4 {x qual:Str}{st:Stmt}{f:Addr}{oc:Value}{od an:Option Addr}{osl:Array (Option Value)}{kV doc pm cdv ct:Value}{N ps:List Str}{k:Nat}{sp:Sp}(lk:K.lookup f=some ⟨oc,od,.func (PySem.W.fnOf x qual (zam st) (zak st) (zad st) .none kV doc pm an cdv ct),osl⟩)(hcd:PySem.W.codeIn K cdv qual=true)(S:FnScope N ps (zad st))(len:∀ vs H Q E,sp vs H Q E->vs.length=ps.length)
  (hbody:∀ (A:Around) (outer:List Env) (s:Shared) (H:Hp) (vs:List V) (Q:VK) (E:XK),Room k (A.deeper (PyProof.Rows.envOfC qual (zad st) s.heap.objs.size f cdv))->sp vs H Q E ->
   ∃ t,PSs (cxOf CX0 P w K mg base N qual (zad st) f cdv A outer s H E).nox (zak st) t/\t { nx:=fun _ H'=>Q .non H',rt:=Q } (start N vs) H):FnOk P w K mg base CX0 (k + 1) f (PySem.W.fnOf x qual (zam st) (zak st) (zad st) .none kV doc pm an cdv ct) ps sp:=by
 refine zpj lk hcd S len fun A outer s H vs Q E hr hsp=>?_
 obtain ⟨t,h,q⟩:=hbody A outer s H vs Q E hr hsp
 exact ⟨t,h.nox,q⟩
mutual
theorem Rep.but {H H':Hp}{p:Addr}(b:But p H H')(n1:∀ xs,H p≠some (.tup xs))(n2:∀ xs,H p≠some (.lst xs)):∀ {d:D} {v:V},Rep H d v->Rep H' d v
 | .non,v,h | .bl _,v,h | .int _,v,h | .str _,v,h=>h
 | .tup ds,v,⟨a,vs,h1,h2,h3⟩=>⟨a,vs,h1,b a _ (fun z=>n1 vs (z ▸ h2)) h2,Reps.but b n1 n2 h3⟩
 | .lst ds,v,⟨a,vs,h1,h2,h3⟩=>⟨a,vs,h1,b a _ (fun z=>n2 vs (z ▸ h2)) h2,Reps.but b n1 n2 h3⟩
theorem Reps.but {H H':Hp}{p:Addr}(b:But p H H')(n1:∀ xs,H p≠some (.tup xs))(n2:∀ xs,H p≠some (.lst xs)):∀ {ds:List D} {vs:List V},Reps H ds vs->Reps H' ds vs
 | [],vs,h=>h
 | d :: ds,vs,⟨v,r,h1,h2,h3⟩=>⟨v,r,h1,Rep.but b n1 n2 h2,Reps.but b n1 n2 h3⟩
end
theorem LT.tbl {Pt:Addr}{H:Hp}(h:LT Pt H):∃ ps,H Pt=some (.tbl ps):=by
 rcases h with h | ⟨_,_,_,_,h,_⟩
 ·exact ⟨_,h⟩
 ·exact ⟨_,h⟩
theorem LT.rep {Pt:Addr}{H H':Hp}(h:LT Pt H)(b:But Pt H H'){d:D}{v:V}(r:Rep H d v):Rep H' d v:=by
 obtain ⟨ps,e⟩:=h.tbl
 exact Rep.but b (fun xs z=>by rw [e] at z;cases z) (fun xs z=>by rw [e] at z;cases z) r
theorem LT.ne {Pt:Addr}{H:Hp}(h:LT Pt H){a:Addr}{o:HO}(e:H a=some o)(n:∀ ps,o≠.tbl ps):a≠Pt:=fun z=>by
 obtain ⟨ps,e2⟩:=h.tbl
 rw [z,e2] at e
 cases e
 exact n _ rfl
theorem LT.sg {Pt C g:Addr}{fx:List (Str×Int)}{sm:List (Str×Str)}{H H':Hp}(h:LT Pt H)(b:But Pt H H')(s:SgAt K C fx sm H g):SgAt K C fx sm H' g:=by
 obtain ⟨a1,a2,a3,dx,fs,dm,dn,h1,h2,h3,h4,h5,h6,h7⟩:=s
 exact ⟨a1,a2,a3,dx,fs,dm,dn,b _ _ (h.ne h1 fun _=>by simp) h1,h2,h3,h4,h5,b _ _ (h.ne h6 fun _=>by simp) h6,b _ _ (h.ne h7 fun _=>by simp) h7⟩
noncomputable def zho (K:PySem.W.Frag)(C Pt:Addr):Sp:=fun vs H Q _=>∃ (fi g:Addr) (fx:List (Str×Int)) (sm:List (Str×Str)) (d:D) (v:V),vs=[.ref g,.ref fi,v]/\H fi=some (.dK [])/\SgAt K C fx sm H g/\Rep H d v/\Tm d/\(∀ r ∈ sm,r.2=("" : Str)∨Fl (.str r.2))/\sz d<=60/\nds d<=1000/\depD d<=50/\LT Pt H /\
 ∀ (v':V) (H':Hp),But Pt H H'->LT Pt H'->Rep H' (flt sm d) v'->Q v' H'
theorem zl0 {f C c Pt:Addr}{oc:Value}{od an:Option Addr}{osl:Array (Option Value)}{kV doc pm ct:Value}(lk:K.lookup f=some ⟨oc,od,.func (PySem.W.fnOf "put_in" "put_in" (zam zaS) (zak zaS) (zad zaS) .none kV doc pm an (.ref c) ct),osl⟩)(hcd:PySem.W.codeIn K (.ref c) "put_in" = true)
  (hC:∀ h,K.In h->PySem.W.CodeHd h c Pt) (hB:Bm mg base) (O_from_within:Own P w K mg base CX0 8 "from_within" (spFW K C)):FnOk P w K mg base CX0 9 f (PySem.W.fnOf "put_in" "put_in" (zam zaS) (zak zaS) (zad zaS) .none kV doc pm an (.ref c) ct) zf4 (zho K C Pt):=by
 refine zn4 lk hcd zjX (fun vs H Q E h=>?_) (fun A outer s H vs Q E hr h=>?_)
 ·obtain ⟨fi,g,fx,sm,d,v,rfl,_⟩:=h
  rfl
 ·obtain ⟨fi,g,fx,sm,d,v,rfl,hfi,sg,rep,tm,hz,s60,n1000,d50,lt,q⟩:=h
  refine ⟨_,(zag (zao (zpC O_from_within (hr.mono (by decide)) rfl rfl rfl rfl rfl (zaa (pv 2) (zaa (pv 1) (zaa (zlN rfl rfl rfl rfl hC hB) zae)))))),?_⟩
  refine ⟨_,rfl,_,rfl,lt,fun fl c' pm ctv oc' vsc tq H' bt lt' hfl hc' hcd hv n0 n0'=>⟨g,rfl,fun oc0 hd0 _=>?_⟩⟩
  have su:Same H' (upd H' (s.heap.objs.size + 1) (pinO (s.heap.objs.size + 1) oc0)):=Same.upd n0'
  refine ⟨fi,fl,s.heap.objs.size + 1,g,fx,sm,d,v,rfl,su _ _ (bt _ _ (lt.ne hfi fun _=>by simp) hfi),⟨c',pm,ctv,oc0,oc',vsc,tq,su _ _ hfl,upd_same,hd0,su _ _ hc',hcd,hv⟩,(lt.sg bt sg).same su,Rep.same su (lt.rep bt rep),tm,hz,s60,n1000,d50,fun v' H2 s2 r2=>⟨s2 _ _ upd_same,?_⟩⟩
  have sd:Same H' (del1 H2 (s.heap.objs.size + 1)):=fun b o e=>by
   rw [zbh (zab e n0')]
   exact s2 _ _ (su _ _ e)
  exact q v' _ (fun b o nb e=>sd _ _ (bt b o nb e)) (lt'.same sd) (Rep.del1 (s2 _ _ upd_same) r2)
end
end Lw
namespace Lw
open PySem L2
section
variable {P:Program}{w:World}{K:PySem.W.Frag}{mg:Str->Option Value}{base:Heap}
structure Trm (fx:List (Str×Int))(sm:List (Str×Str))(os:List Str)(d:D):Prop where
 so:SignsOk fx sm
 ho:∀ x ∈ os,zaR x
 tm:IsTm fx sm os d
 lv:lvs d<=50
 nd:nds d<=1000
 dp:depD d<=50
noncomputable def zhs (K:PySem.W.Frag)(C Pt:Addr):Sp:=fun vs H Q _=>∃ (g:Addr) (fx:List (Str×Int)) (sm:List (Str×Str)) (os:List Str) (d:D) (v:V),vs=[.ref g,v]/\SgAt K C fx sm H g/\Rep H d v/\Trm fx sm os d/\LT Pt H /\
 ∀ (v':V) (H':Hp),But Pt H H'->LT Pt H'->Rep H' (flt sm d) v'->Q v' H'
theorem zl5 {f C Pt:Addr}{fd:FuncData}(F:Fun K "flat" "flat" zer f fd)(T:Txt mg)(O_check_term:Own P w K mg base CX0 3 "check_term" (zek K C))(O_put_in:Own P w K mg base CX0 9 "put_in" (zho K C Pt)):FnOk P w K mg base CX0 10 f fd zlp (zhs K C Pt):=by
 refine F.ok znh (fun vs H Q E h=>?_) (fun cdv A outer s H vs Q E hr h=>?_)
 ·obtain ⟨g,fx,sm,os,d,v,rfl,_⟩:=h
  rfl
 ·obtain ⟨g,fx,sm,os,d,v,rfl,sg,rep,tr,lt,q⟩:=h
  have hu:=hr.units
  refine ⟨_,(zaf (zaP (zan O_check_term (hr.mono (by decide)) pass0 rfl (zaa (pv 0) (zaa (pv 1) zae))))
   (zag (zao (zan O_put_in (hr.mono (by decide)) pass0 rfl (zaa (pv 0) (@zny _ _ _ _ (zaa (pv 1) zae))))))),?_⟩
  simp only [zm2]
  clear hr F T hu O_check_term O_put_in
  have keep:=And.intro q (And.intro sg (And.intro rep (And.intro tr lt)))
  clear q sg rep tr lt
  walk_at "rd"
  obtain ⟨q,sg,rep,tr,lt⟩:=keep
  obtain ⟨tm0,esz⟩:=zlx tr.so tr.ho tr.tm
  have l1:=tr.lv
  have d1:=tr.dp
  refine ⟨g,fx,sm,os,d,v,rfl,sg,tr.so,tr.ho,rep,tr.tm,by omega,by omega,tr.nd,fun H1 s1 fi hfi=>?_⟩
  have s2:=s1.trans (Same.upd (o:=.dK []) hfi)
  exact ⟨fi,g,fx,sm,d,v,rfl,upd_same,sg.same s2,Rep.same s2 rep,tm0,zdA tr.so,by omega,tr.nd,d1,lt.same s2,fun v' H' b l r=>q v' H' (fun a o na e=>b a o na (s2 _ _ e)) l r⟩
end
end Lw
namespace L2
open PySem PySem.Spec PyProof.Rows
noncomputable def zh0 (vs:List Value)(ks:List Key):Prop:=ks.length=vs.length/\∀ (i:Nat) (k:Key) (v:Value),ks[i]?=some k->vs[i]?=some v->keyIs k v=true/\v.scannable=true
noncomputable def Has (P:Program)(w:World)(h:Heap)(S:Addr)(ks:List Key)(i:Nat):Prop:=h.SetOf (zaV P w) S (fun k=>(ks.take i).any fun x=>decide (x=k)) i
theorem Has.at {P:Program}{w:World}{h h':Heap}{S:Addr}{ks:List Key}{i:Nat}(x:Has P w h S ks i)(k:∀ o,h.get? S=some o->h'.get? S=some o):Has P w h' S ks i:=by
 obtain ⟨o,es,ep,t,e,r⟩:=x
 exact ⟨o,es,ep,t,k _ e,r⟩
local macro_rules | `(tactic| walk_at "sd_on")=>`(tactic| (repeat (any_goals (first | assumption | wp_step))))
section
variable {P:Program}{w:World}{A:Around}
theorem zkz {I S:Addr}{R:Result->Shared->Prop}{s:Shared}(h:wpAny (model P w) A.in1 (Builtin.«set.update.loop» ⟨[.ref S,.ref I],[]⟩) (fun y s'=>match y with | .done f=>R (.ok f) s' | .again c=>c.quiet=true/\codeAny (model P w) A c R s') (fun e s'=>R (.error e) s') s):codeAny (model P w) A (.builtin "set.update.loop" ⟨[.ref S,.ref I],[]⟩) R s :=
 codeAny_builtin F.entry_set_update_loop (by rw [Around.under_plainId F.plain_set_update_loop _];exact h)
theorem zlE {l I S:Addr}{items:List Value}{ks:List Key}(hh:A.handled=none)(kk:zh0 items ks)(nd:ks.Nodup)(hb:items.length + 1 < scanBound)(n1:S≠I)(n2:l≠I)(n3:l≠S){R:Result->Shared->Prop} :
  ∀ (j i:Nat) (s:Shared),i + j=items.length->s.heap.IsListIter I l i->s.heap.IsList l items.toArray->Has P w s.heap S ks i ->
   (∀ h' tk,Has P w h' S ks items.length->(∀ b o,b≠S->b≠I->s.heap.get? b=some o->h'.get? b=some o)->R (.ok (.ret .none)) { s with heap:=h',toks:=tk }) ->
   codeAny (model P w) A (.builtin "set.update.loop" ⟨[.ref S,.ref I],[]⟩) R s:=by
 intro j
 induction j with
 | zero =>
  intro i s e it hl hS hR
  rw [Nat.add_zero] at e
  subst e
  refine zkz ?_
  refine wpAny_bind (wpAny_pyNext_list_end (A:=A.in1) hh it hl (by simp) fun h' eb=>?_)
  exact wpAny_pure (hR h' s.toks (hS.at fun o z=>eb _ _ n1 z) fun b o _ hI z=>eb b o hI z)
 | succ j ih =>
  intro i s e it hl hS hR
  have hi:i < items.length:=by omega
  have hk:i < ks.length:=by rw [kk.1];exact hi
  obtain ⟨is,sc⟩:=kk.2 i ks[i] items[i] (List.getElem?_eq_getElem hk) (List.getElem?_eq_getElem hi)
  refine zkz ?_
  refine wpAny_bind (wpAny_pyNext_list_item (A:=A.in1) (x:=items[i]) it hl (by simp [hi]) fun h1 it1 sb1=>?_)
  have hS1:Has P w h1 S ks i:=hS.at fun o z=>(sb1.2 S n1).trans z
  show wpAny _ A.in1 (holding [items[i]] (setAdd S items[i]) >>= _) _ _ { s with heap:=h1 }
  refine wpAny_bind (wpAny_holding (show wpAny _ _ (setAdd S items[i]) _ _ _ from ?_))
  unfold setAdd
  refine wpAny_holding (wpAny_bind ((zaV P w).pyHash (k:=ks[i]) is ?_))
  refine wpAny_setAddHashed_of (knd:=zaV P w) (s:={ s with heap:=h1,toks:=s.toks + 1 }) is sc hS1 (by omega) fun h2 sb2 hS2=>?_
  have new:((ks.take i).any fun x=>decide (x=ks[i]))=false:=by
   rw [List.any_eq_false]
   intro x hx z
   have z:=of_decide_eq_true z
   obtain ⟨m,hm,em⟩:=List.mem_iff_getElem.mp hx
   rw [z] at em
   rw [List.length_take] at hm
   rw [List.getElem_take] at em
   have:=(List.getElem_inj nd).mp em
   omega
  rw [new] at hS2
  have fe:(fun k'=>((ks.take i).any fun x=>decide (x=k')) || decide (k'=ks[i]))=fun k=>(ks.take (i + 1)).any fun x=>decide (x=k):=by
   funext k
   rw [List.take_succ_eq_append_getElem hk,List.any_append,List.any_cons,List.any_nil,Bool.or_false]
   congr 1
   exact decide_eq_decide.mpr eq_comm
  rw [fe] at hS2
  have hS3:Has P w h2 S ks (i + 1):=hS2
  refine wpAny_pure ⟨plainId_quiet F.plain_set_update_loop _,ih (i + 1) { s with heap:=h2,toks:=s.toks + 1 } (by omega) ?_ ?_ hS3 fun h' tk hS' kp=>?_⟩
  ·obtain ⟨o,z1,z2⟩:=it1
   exact ⟨o,(sb2.2 I n1.symm).trans z1,z2⟩
  ·obtain ⟨o,z1,z2⟩:=hl
   exact ⟨o,(sb2.2 l n3).trans ((sb1.2 l n2).trans z1),z2⟩
  ·exact hR h' tk hS' fun b o bS bI z=>kp b o bS bI ((sb2.2 b bS).trans ((sb1.2 b bI).trans z))
theorem zlc {E:Value->Shared->Prop}{s:Shared}{l:Addr}{items:List Value}{ks:List Key}{Q:Value->Shared->Prop}(hh:A.handled=none)(hl:s.heap.IsList l items.toArray)(kk:zh0 items ks)(nd:ks.Nodup)(hb:items.length + 1 < scanBound)
  (h:∀ (h':Heap) (tk:Nat),Has P w h' s.heap.objs.size ks items.length->(∀ b o,s.heap.get? b=some o->h'.get? b=some o)->Q (.ref s.heap.objs.size) { s with heap:=h',toks:=tk }) :
  wpAny (model P w) A (call (.type "set") [.ref l]) Q E s:=by
 obtain ⟨c,tl,m0⟩:=F.called_set.mro
 have m1:=F.called_set.made
 have m2:=F.called_set.sub
 refine wpAny_call (codeAny_of_tree (wpAny_pure ⟨Code.quiet_builtin _ (by decide +kernel),codeAny_builtin F.entry_type_call ?_⟩))
 have wt:=weight_type_call_type "set" [.ref l] []
 rw [Around.under_plain wt rfl]
 have m3:=F.called_set.notType
 have m4:=F.called_set.canCreate
 have m5:=F.typeCall_set_1 (.ref l)
 walk_at "sd_on"
 refine codeAny_mono (code_set_new_1 (.ref l) (E:=E) (Q₁:=fun obj s1=>∃ led:Bool,obj = .ref s.heap.objs.size/\s1={ s with heap:=s.heap.push { cls:=.type "set",dict:=none,data:=.set #[] 0 (.fresh 0 0 led) } }) fun led=>⟨led,rfl,rfl⟩) fun r s1 hr=>?_
 cases r with
 | error e=>exact hr
 | ok fl =>
  cases fl with
  | next=>exact hr.elim
  | brk=>exact hr.elim
  | cont=>exact hr.elim
  | ret obj =>
   obtain ⟨led,rfl,rfl⟩:=hr
   have gS:(s.heap.push { cls:=.type "set",dict:=none,data:=.set #[] 0 (.fresh 0 0 led) }).get? s.heap.objs.size=some { cls:=.type "set",dict:=none,data:=.set #[] 0 (.fresh 0 0 led) }:=Heap.get?_push_size _ rfl
   have tS:Shared.TypeIs { s with heap:=s.heap.push { cls:=.type "set",dict:=none,data:=.set #[] 0 (.fresh 0 0 led) } } (.ref s.heap.objs.size) "set":=⟨_,gS,rfl⟩
   have i1:=F.called_set.init.lookup
   have i2:=F.called_set.init.bind (.ref s.heap.objs.size)
   walk_at "sd_on"
   refine codeAny_mono (codeAny_call_builtin (R:=wants (fun r s2=>r = .none/\∃ h' tk,s2={ s with heap:=h',toks:=tk }/\Has P w h' s.heap.objs.size ks items.length/\∀ b o,s.heap.get? b=some o->h'.get? b=some o) E) F.called_set.init.plain F.entry_set_init (check_set_init_1 tS ?_)) fun r2 s2 hr2=>?_
   ·obtain ⟨⟨c1,d1,t1,sl1⟩,ho,hc1,n1,hd1⟩:=id hl
    simp only at hc1 hd1
    subst hc1 hd1
    have ho':=Heap.get?_push_of_some { cls:=.type "set",dict:=none,data:=.set #[] 0 (.fresh 0 0 led) } ho
    have j1:=F.sub_list_set
    have j2:=F.sub_list_frozenset
    have j3:(Value.type "list" == Value.type "dict")=false:=by decide
    have hl':(s.heap.push { cls:=.type "set",dict:=none,data:=.set #[] 0 (.fresh 0 0 led) }).IsList l items.toArray:=⟨_,ho',rfl,n1,rfl⟩
    unfold Builtin.«set.__init__» Builtin.Frozenset.updateFrom noKeywords;generalize hPI:pyIter=PI
    wp_walk
    subst hPI
    refine wpAny_pyIter_list hl' (wpAny_bind (wpAny_runValue ?_))
    have lt:=Heap.lt_size ho
    have z1:(s.heap.push { cls:=.type "set",dict:=none,data:=.set #[] 0 (.fresh 0 0 led) }).objs.size=s.heap.objs.size + 1:=Heap.size_push _ _
    refine zlE (P:=P) (w:=w) (items:=items) (ks:=ks) (l:=l) (by simp [hh]) kk nd hb (by rw [z1];exact Nat.ne_of_lt (Nat.lt_succ_self _)) (by rw [z1];exact Nat.ne_of_lt (Nat.lt_succ_of_lt lt)) (Nat.ne_of_lt lt) items.length 0 _ (Nat.zero_add _) ⟨_,Heap.get?_push_size _ rfl,rfl,rfl⟩ (hl'.push _) ?_ fun h' tk hS' kp=>?_
    ·have g2:=Heap.get?_push_of_some { cls:=.type "list_iterator",data:=.fields #[.ref l,.int 0 0] } gS
     refine ⟨_,#[],0,.fresh 0 0 led,g2,⟨rfl,rfl,rfl⟩,rfl,(fun e he=>absurd he (by simp)),fun k=>?_,(by show 0 < scanBound;omega),(by cases led <;> decide),rfl⟩
     simp
    ·refine wpAny_pure (wpAny_pure ⟨rfl,h',tk,rfl,hS',fun b o e=>kp b o (Nat.ne_of_lt (Heap.lt_size e)) (by rw [z1];exact Nat.ne_of_lt (Nat.lt_succ_of_lt (Heap.lt_size e))) (Heap.get?_push_of_some _ (Heap.get?_push_of_some _ e))⟩)
   ·cases r2 with
    | error e=>exact hr2
    | ok f2 =>
     cases f2 with
     | next=>exact hr2.elim
     | brk=>exact hr2.elim
     | cont=>exact hr2.elim
     | ret r =>
      obtain ⟨rfl,h',tk,rfl,hS',hk'⟩:=hr2
      walk_at "sd_on"
      exact h _ _ hS' hk'
end
end L2
namespace L2
open PySem PySem.Spec PyProof.Rows
noncomputable abbrev SetT (P:Program)(w:World)(a:Addr)(n:Nat):HO:=.ext fun h=>∃ ks,Has P w h a ks n
theorem zng {P:Program}{w:World}{H:Hp}{h:Heap}{a:Addr}{n:Nat}{ks:List Key}(x:Has P w h a ks n):ObjOk P w H h a (SetT P w a n):=by
 refine ⟨⟨ks,x⟩,?_,fun h1 h2 ⟨ks',y⟩ k=>⟨ks',y.at fun o e=>k o e⟩⟩
 obtain ⟨o,_,_,_,e,_⟩:=x
 exact ⟨o,e⟩
theorem zjb:∀ {ss:List Str} {us:List Value},Vals (ss.map V.str) us->zh0 us (ss.map Sum.inr):=by
 intro ss us h
 refine ⟨by rw [List.length_map,← h.length,List.length_map],fun i k v hk hv=>?_⟩
 rw [List.getElem?_map] at hk
 cases hs:ss[i]? with
 | none=>rw [hs] at hk;cases hk
 | some x =>
  rw [hs] at hk
  cases hk
  obtain ⟨u,hu,ru⟩:=h.get (i:=i) (x:=.str x) (by rw [List.getElem?_map,hs];rfl)
  rw [hv] at hu
  cases hu
  obtain ⟨t,rfl⟩:=ru
  exact ⟨zgI x t,rfl⟩
section
variable {X:Cx}
noncomputable def rSetT (P:Program)(w:World):List V->Hp->VK->Prop:=fun xs H Q=>∃ (l:Addr) (ss:List Str),xs=[.ref l]/\H l=some (.lst (ss.map V.str))/\ss.Nodup/\ss.length<=100/\∀ p,H p=none->Q (.ref p) (upd H p (SetT P w p ss.length))
theorem zgY (hc:X.calm=true):CallR X (.type "set") (rSetT X.prog X.w):=by
 intro pins s σ H xs us Q I rv h
 obtain ⟨l,ss,rfl,hl,nd,le,q⟩:=h
 obtain ⟨u,rfl,ru⟩:=Vals.one rv
 cases ru
 obtain ⟨its,r,pl,hz⟩:=I.list (SqL.of hl)
 have len:its.length=ss.length:=by rw [← r.length,List.length_map]
 refine zlc (P:=X.prog) (w:=X.w) (I.ok.hd hc) pl.isList (zjb r) ((List.pairwise_map.mpr (nd.imp fun h e=>h (Sum.inr.inj e)))) (by rw [len];exact Nat.lt_of_le_of_lt (Nat.succ_le_succ le) (by decide)) fun h' tk hS kp=>?_
 have n0:H s.heap.objs.size=none:=I.hok.fresh (Nat.le_refl _)
 rw [len] at hS
 exact ⟨.ref s.heap.objs.size,_,I.laid (t':=tk) (o:=SetT X.prog X.w s.heap.objs.size ss.length) kp (Nat.le_refl _) (zng hS),rfl,q _ n0⟩
noncomputable def rLenS (P:Program)(w:World):List V->Hp->VK->Prop:=fun xs H Q=>∃ (a:Addr) (n:Nat),xs=[.ref a]/\H a=some (SetT P w a n)/\Q (.int n) H
theorem zg2:CallR X (.builtin "len") (rLenS X.prog X.w):=by
 intro pins s σ H xs us Q I rv h
 obtain ⟨a,n,rfl,ha,q⟩:=h
 obtain ⟨u,rfl,ru⟩:=Vals.one rv
 cases ru
 obtain ⟨⟨ks,o,es,ep,t,ho,hex,hd,_,_,hb,hf,hn⟩,_⟩:=I.hok a _ ha
 have b1:es.size < 4096:=hb
 refine call_len_set ho hex hd hf (by omega) ?_
 rw [hn]
 exact ⟨.int n,H,I.tok _,⟨_,rfl⟩,q⟩
end
end L2
namespace Lw
open PySem L2
section
variable {P:Program}{w:World}{K:PySem.W.Frag}{mg:Str->Option Value}{base:Heap}
theorem zkB {c:Nat}(h:97<=c/\c<=122):inTx "abcdefghijklmnopqrstuvwxyz" c=true:=by
 have a:∀ j:Fin 26,inTx "abcdefghijklmnopqrstuvwxyz" (97 + j.1)=true:=by decide +kernel
 have:=a ⟨c - 97,by omega⟩
 rw [show 97 + (c - 97)=c by omega] at this
 exact this
noncomputable def zjN:Sp:=fun vs H Q _=>∃ x:Str,vs=[.str x]/\zcR x/\∀ H',Same H H'->Q (.bl true) H'
theorem znN {f:Addr}{fd:FuncData}(F:Fun K "is_name" "is_name" zbF f fd)(T:Txt mg):FnOk P w K mg base CX0 1 f fd zeQ zjN:=by
 refine F.ok ziW (fun vs H Q E h=>?_) (fun cdv A outer s H vs Q E hr h=>?_)
 ·obtain ⟨x,rfl,_⟩:=h
  rfl
 ·obtain ⟨x,rfl,hx,q⟩:=h
  have hu:=hr.units
  refine ⟨_,(zaf (zaT (PW.pt (zdz (za4 (zal K rfl (zaj zai rfl T.n_isinstance rfl (zaa (pv 0) (zaa (zaD (v:=V.ty "str") rfl T.n_str rfl rfl) zae))) (fun _=>rfl))) (zcG (za4 (zdi zfH zfH zah (zaj zaM rfl T.n_len rfl (zaa (pv 0) zae)) (zbL T.c_LONGEST_NAME rfl)))))) (zag (zao zgr)) zaq)
   (zag (zao (zaj (zeL rfl) rfl T.n_all rfl (zaa (zbV rfl (CompSc.by (N:=zeS) (names:=(zad zbF).names) (N':=["sign"]) (src:=[none]) (by decide +kernel) rfl rfl) (zj4 (pv 0)) (fun _ _ _ _=>(zaC (i:=0) (show List.Nodup (["sign"]:List Str) by decide +kernel) rfl (Or.inl rfl))) (fun _ _ _ _=>zbx) (fun _ _ _ _=>(zbW zdm (pv 0) (zbL T.c_LETTERS rfl) (by with_unfolding_all rfl)))) zae))))),?_⟩
  simp only [zeS]
  clear hr F T hu
  have keep:=And.intro q hx
  clear q hx
  walk_at "rd"
  obtain ⟨q,h1,h2,h3⟩:=keep
  have hz:x.length<=sizeLine:=Nat.le_trans (m:=6) (by rw [Array.length_toList] at h2;exact h2) (by decide)
  have el:x.cps.toList.length=x.length:=by rw [Array.length_toList];rfl
  refine ⟨true,rfl,?_⟩
  rw [if_neg (by decide)]
  refine ⟨.int x.length,by rw [zir hz];rfl,_,rfl,?_⟩
  rw [if_pos (by omega)]
  refine ⟨_,rfl,?_⟩
  rw [if_neg (by omega)]
  refine ⟨_,rfl,x,rfl,?_,?_⟩
  ·rw [Array.all_eq_true_iff_forall_mem]
   intro c hc
   have:=h3 c (by simpa using hc)
   simp only [decide_eq_true_eq]
   omega
  ·refine zgV (fun i acc σ H'=>H'=H/\acc=(List.replicate i true).map V.bl/\i<=6/\∃ o:Option V,σ=[o]) ⟨rfl,rfl,by decide,none,rfl⟩ ?_ ?_
   ·rintro i c acc σ H' hc ⟨rfl,rfl,hi,o,rfl⟩
    have hm:c ∈ x.cps.toList:=by
     have:x.cps.toList[i]?=some c:=by rw [Array.getElem?_toList];exact hc
     exact List.mem_of_getElem? this
    have hi':i < x.cps.size:=(Array.getElem?_eq_some_iff.mp hc).1
    refine ⟨_,rfl,_,rfl,_,rfl,?_⟩
    have e:=zkB (h3 c hm)
    unfold inTx at e
    dsimp only
    refine ⟨Nat.lt_of_le_of_lt (m:=100) (by simp;omega) (by decide),rfl,?_,by rw [Array.length_toList] at h2;omega,_,rfl⟩
    rw [e,List.replicate_succ',List.map_append]
    rfl
   ·rintro acc σ H' ⟨rfl,rfl,hi,o,rfl⟩ p hp
    refine ⟨p,rfl,List.replicate _ true,upd_same,?_⟩
    have:(List.replicate x.cps.size true).all id=true:=by simp
    rw [this]
    exact q _ (Same.upd hp)
noncomputable def zhl:Sp:=fun vs H Q _=>∃ i:Int,vs=[.int i]/\Q (.bl true) H
theorem zlX {f:Addr}{fd:FuncData}(F:Fun K "is_whole" "is_whole" zbt f fd)(T:Txt mg):FnOk P w K mg base CX0 1 f fd zdG zhl:=by
 refine F.ok zhv (fun vs H Q E h=>?_) (fun cdv A outer s H vs Q E hr h=>?_)
 ·obtain ⟨x,rfl,_⟩:=h
  rfl
 ·obtain ⟨i,rfl,q⟩:=h
  refine ⟨_,(zag (zao (zj9 (zaj zai rfl T.n_isinstance rfl (zaa (pv 0) (zaa (zaD (v:=V.ty "int") rfl T.n_int rfl rfl) zae))) (zih (zoK (zaj zai rfl T.n_isinstance rfl (zaa (pv 0) (zaa (zaD (v:=V.ty "bool") rfl T.n_bool rfl rfl) zae)))))))),?_⟩
  simp only [zfm]
  clear hr F T
  walk_at "rd"
noncomputable def zdF (H:Hp)(ws:List V):Prop:=∀ v ∈ ws,∃ t x y,v = .ref t/\H t=some (.tup [x,y])
theorem zdF.same {H H':Hp}{ws:List V}(h:zdF H ws)(s:Same H H'):zdF H' ws:=fun v hv=>by
 obtain ⟨t,x,y,e,h⟩:=h v hv
 exact ⟨t,x,y,e,s _ _ h⟩
noncomputable def zhq:Sp:=fun vs H Q _=>∃ (a:Addr) (lo hi:Int) (ws:List V),vs=[.ref a,.int lo,.int hi]/\H a=some (.lst ws)/\zdF H ws/\lo<=ws.length/\(ws.length:Int)<=hi/\ws.length<=100/\∀ l H',Same H H'->H l=none->H' l=some (.lst ws)->Q (.ref l) H'
noncomputable def CpI (a:Addr)(lo hi:Int)(H:Hp)(i:Nat)(σ:St)(H2:Hp):Prop:=∃ o:Option V,σ=[some (.ref a),some (.int lo),some (.int hi),o]/\Same H H2
noncomputable def CpC (ws:List V)(H:Hp)(i:Nat)(acc:List V)(σ:St)(H2:Hp):Prop:=∃ o:Option V,σ=[o]/\Same H H2/\acc=ws.take i
theorem zl2 {f:Addr}{fd:FuncData}(F:Fun K "checked_pairs" "checked_pairs" zaA f fd)(T:Txt mg):FnOk P w K mg base CX0 1 f fd zbY zhq:=by
 refine F.ok zcy (fun vs H Q E h=>?_) (fun cdv A outer s H vs Q E hr h=>?_)
 ·obtain ⟨a,lo,hi,ws,rfl,_⟩:=h
  rfl
 ·obtain ⟨a,lo,hi,ws,rfl,ha,pr,h1,h2,h3,q⟩:=h
  have hu:=hr.units
  refine ⟨_,(zaf (zaT (PW.pt (zdz (za4 (zal K rfl (zaj zai rfl T.n_isinstance rfl (zaa (pv 0) (zaa (zce (zaa (zaD (v:=V.ty "list") rfl T.n_list rfl rfl) (zaa (zaD (v:=V.ty "tuple") rfl T.n_tuple rfl rfl) zae))) zae))) (fun _=>rfl))) (zcG (za4 (zdi zfH zfH (pv 1) (zaj zaM rfl T.n_len rfl (zaa (pv 0) zae)) (pv 2)))))) (zag zbp) zaq)
   (zaf (zb2 PassesOwn.never rfl (zbi K rfl (pv 0)) (zaC (i:=3) zcy.nd rfl (Or.inl rfl)) (zag (zaT (PW.pt (zdz (za4 (zal K rfl (zaj zai rfl T.n_isinstance rfl (zaa (pv 3) (zaa (zce (zaa (zaD (v:=V.ty "list") rfl T.n_list rfl rfl) (zaa (zaD (v:=V.ty "tuple") rfl T.n_tuple rfl rfl) zae))) zae))) (fun _=>rfl))) (zcG (zas (zdL hu) (zaj zaM rfl T.n_len rfl (zaa (pv 3) zae)) zah (nomark _))))) (zag zbp) zaq)))
   (zag (zao (zbV rfl (CompSc.by (N:=zb0) (names:=(zad zaA).names) (N':=["pair"]) (src:=[none]) (by decide +kernel) rfl rfl) (zbi K rfl (pv 0)) (fun _ _ _ _=>(zaC (i:=0) (show List.Nodup (["pair"]:List Str) by decide +kernel) rfl (Or.inl rfl))) (fun _ _ _ _=>zbx) (fun _ _ _ _=>(zaU zbz rfl T.n_tuple rfl (zaa (pv 0) zae)))))))),?_⟩
  simp only [zb0]
  clear hr F T hu
  have keep:=And.intro q (And.intro ha (And.intro pr (And.intro h1 (And.intro h2 h3))))
  clear q ha pr h1 h2 h3
  walk_at "rd"
  obtain ⟨q,ha,pr,h1,h2,h3⟩:=keep
  refine ⟨by decide,fun p hp=>?_⟩
  have s1:Same H (upd H p (.tup [.ty "list",.ty "tuple"])):=Same.upd hp
  have hp1:upd H p (.tup [.ty "list",.ty "tuple"]) p=some (.tup [.ty "list",.ty "tuple"]):=upd_same
  generalize upd H p (.tup [.ty "list",.ty "tuple"])=H1 at s1 hp1 ⊢
  have ha1:=s1 _ _ ha
  refine ⟨true,zmU ha1 hp1,?_⟩
  rw [if_neg (by decide)]
  refine ⟨.int ws.length,by rw [lenV_l ha1];rfl,_,rfl,?_⟩
  rw [if_pos h1]
  refine ⟨_,rfl,?_⟩
  rw [if_neg (by omega)]
  refine ⟨ws,.inl ha1,fun J hJ=>?_⟩
  refine zdD hJ (CpI a lo hi H1) ⟨none,rfl,Same.refl _⟩ (by rintro i σ H' _ ⟨_,_,s2⟩;rw [ha1,s2 _ _ ha1]) ?_ ?_
  ·rintro i x σ H2 hx ⟨o,rfl,s2⟩
   obtain ⟨t,y,z,rfl,ht⟩:=pr x (List.mem_of_getElem? hx)
   have ht2:=s2 _ _ (s1 _ _ ht)
   have keep:=And.intro q (And.intro ha (And.intro pr (And.intro s2 (And.intro ht2 s1))))
   clear q ha pr s2 ht2 ht ha1 hp1 h1 h2 h3 hJ hx s1 hp
   walk_at "rd"
   obtain ⟨q,ha,pr,s2,ht2,s1⟩:=keep
   refine ⟨by decide,fun p3 hp3=>?_⟩
   have s3:Same H2 (upd H2 p3 (.tup [.ty "list",.ty "tuple"])):=Same.upd hp3
   have hp33:upd H2 p3 (.tup [.ty "list",.ty "tuple"]) p3=some (.tup [.ty "list",.ty "tuple"]):=upd_same
   generalize upd H2 p3 (.tup [.ty "list",.ty "tuple"])=H3 at s3 hp33 ⊢
   have ht3:=s3 _ _ ht2
   refine ⟨true,zmT ht3 hp33,?_⟩
   rw [if_neg (by decide)]
   refine ⟨.int 2,by rw [lenV_t ht3];rfl,?_⟩
   rw [rNeD_ii]
   refine ⟨_,rfl,?_⟩
   rw [if_neg (by decide)]
   exact ⟨_,rfl,s2.trans s3⟩
  ·rintro σ H2 ⟨o,rfl,s2⟩
   have ha2:=s2 _ _ ha1
   refine ⟨_,rfl,a,ws,rfl,.inl ha2,fun J2 hJ2=>?_⟩
   refine za2 hJ2 (CpC ws H2) ⟨none,rfl,Same.refl _,rfl⟩ (by rintro i acc σ H' _ ⟨_,_,s3,_⟩;rw [ha2,s3 _ _ ha2]) ?_ ?_
   ·rintro i x acc σ H3 hx ⟨o',rfl,s3,rfl⟩
    obtain ⟨t,y,z,rfl,ht⟩:=pr x (List.mem_of_getElem? hx)
    have ht3:=s3 _ _ (s2 _ _ (s1 _ _ ht))
    have hi':=(List.getElem?_eq_some_iff.mp hx).1
    refine ⟨_,rfl,t,[y,z],rfl,.inr ht3,fun l H4 hc=>?_⟩
    rcases hc with ⟨hc,rfl,rfl⟩ | ⟨hc,_⟩
    ·exact ⟨Nat.lt_of_le_of_lt (m:=100) (by rw [List.length_take];omega) (by decide),_,rfl,s3,by rw [zar hx]⟩
    ·rw [ht3] at hc;cases hc
   ·rintro acc σ H3 ⟨o',rfl,s3,rfl⟩ l hl
    rw [List.take_length]
    have s4:=(s1.trans s2).trans s3
    exact q l _ (s4.trans (Same.upd hl)) (s4.free hl) upd_same
noncomputable def RowN (H:Hp):List Str->List V->Prop
 | [],vs=>vs=[]
 | n :: ns,vs=>∃ t y us,vs = .ref t :: us/\H t=some (.tup [.str n,y])/\RowN H ns us
theorem RowN.same {H H':Hp}(s:Same H H'):∀ {ns:List Str} {vs:List V},RowN H ns vs->RowN H' ns vs
 | [],_,h=>h
 | _ :: _,_,⟨t,y,us,e,h,q⟩=>⟨t,y,us,e,s _ _ h,RowN.same s q⟩
theorem RowN.len {H:Hp}:∀ {ns:List Str} {vs:List V},RowN H ns vs->vs.length=ns.length
 | [],_,h=>by cases h;rfl
 | _ :: _,_,⟨t,y,us,e,h,q⟩=>by subst e;simp [RowN.len q]
theorem RowN.get {H:Hp}:∀ {ns:List Str} {vs:List V} {i:Nat} {v:V},RowN H ns vs->vs[i]?=some v->∃ n t y,ns[i]?=some n/\v = .ref t/\H t=some (.tup [.str n,y])
 | [],_,_,_,h,k=>by cases h;simp at k
 | _ :: _,_,0,_,⟨t,y,us,e,h,q⟩,k=>by subst e;simp at k;exact ⟨_,t,y,rfl,k.symm,h⟩
 | _ :: _,_,i + 1,_,⟨t,y,us,e,h,q⟩,k=>by subst e;simp at k;obtain ⟨r,t,y,h1,h2,h3⟩:=RowN.get q k;exact ⟨r,t,y,by simpa using h1,h2,h3⟩
theorem RowN.app {H:Hp}:∀ {ns ms:List Str} {vs us:List V},RowN H ns vs->RowN H ms us->RowN H (ns ++ ms) (vs ++ us)
 | [],_,_,_,h,k=>by cases h;exact k
 | _ :: _,_,_,_,⟨t,y,us,e,h,q⟩,k=>by subst e;exact ⟨t,y,_,rfl,h,RowN.app q k⟩
theorem RowI.n {H:Hp}:∀ {l:List (Str×Int)} {vs:List V},RowI H l vs->RowN H (l.map (·.1)) vs
 | [],_,h=>h
 | _ :: _,_,⟨t,us,e,h,q⟩=>⟨t,_,us,e,h,RowI.n q⟩
theorem RowS.n {H:Hp}:∀ {l:List (Str×Str)} {vs:List V},RowS H l vs->RowN H (l.map (·.1)) vs
 | [],_,h=>h
 | _ :: _,_,⟨t,us,e,h,q⟩=>⟨t,_,us,e,h,RowS.n q⟩
noncomputable def zfz:Sp:=fun vs H Q _=>∃ (a:Addr) (ns:List Str) (ws:List V),vs=[.ref a]/\H a=some (.lst ws)/\RowN H ns ws/\(∀ x ∈ ns,zcR x)/\ns.Nodup/\ns.length<=50/\∀ H',Same H H'->Q .non H'
noncomputable def CnA (ns:List Str)(H:Hp)(i:Nat)(acc:List V)(σ:St)(H2:Hp):Prop:=∃ o o':Option V,σ=[o,o']/\Same H H2/\acc=(ns.take i).map V.str
noncomputable def CnB (H:Hp)(i:Nat)(acc:List V)(σ:St)(H2:Hp):Prop:=∃ o:Option V,σ=[o]/\Same H H2/\acc=(List.replicate i true).map V.bl
theorem zkk {f:Addr}{fd:FuncData}(F:Fun K "check_names" "check_names" zaE f fd)(T:Txt mg)(O_is_name:Own P w K mg base CX0 1 "is_name" zjN):FnOk P w K mg base CX0 2 f fd zcs zfz:=by
 refine F.ok zcY (fun vs H Q E h=>?_) (fun cdv A outer s H vs Q E hr h=>?_)
 ·obtain ⟨a,ns,ws,rfl,_⟩:=h
  rfl
 ·obtain ⟨a,ns,ws,rfl,ha,rn,ok,nd,l50,q⟩:=h
  have hu:=hr.units
  refine ⟨_,(zaf (zc5 (i:=1) zcY.nd rfl rfl rfl rfl (CompSc.by (N:=zbN) (names:=(zad zaE).names) (N':=["name","told"]) (src:=[none,none]) (by decide +kernel) rfl rfl) (zbi K rfl (pv 0)) (fun _ _ _ _=>(zbq K rfl (i:=0) (j:=1) rfl (show List.Nodup (["name","told"]:List Str) by decide +kernel) rfl rfl rfl rfl)) (fun _ _ _ _=>zbx) (fun _ _ _ _=>(pv 0)))
   (zaf (zaT (za4 (zal K rfl (zaj (zeL rfl) rfl T.n_all rfl (zaa (zbV rfl (CompSc.by (N:=zbN) (names:=(zad zaE).names) (N':=["name"]) (src:=[none]) (by decide +kernel) rfl rfl) (zbi K rfl (pv 1)) (fun _ _ _ _=>(zaC (i:=0) (show List.Nodup (["name"]:List Str) by decide +kernel) rfl (Or.inl rfl))) (fun _ _ _ _=>zbx) (fun _ _ _ _=>(zan O_is_name (hr.mono (by decide)) pass0 rfl (zaa (pv 0) zae)))) zae)) (fun _=>rfl))) (zag zbp) zaq)
   (zag (zaT (zas (zgu hu) (zaj zg2 rfl T.n_len rfl (zaa (zaU (zgY rfl) rfl T.n_set rfl (zaa (pv 1) zae)) zae)) (zaj zaM rfl T.n_len rfl (zaa (pv 1) zae)) (nomark _)) (zag zbp) zaq)))),?_⟩
  simp only [zbN]
  clear hr F T hu O_is_name
  have keep:=And.intro q (And.intro ha (And.intro rn (And.intro ok (And.intro nd l50))))
  clear q ha rn ok nd l50
  walk_at "rd"
  obtain ⟨q,ha,rn,ok,nd,l50⟩:=keep
  have lw:=rn.len
  refine ⟨ws,.inl ha,fun J hJ=>?_⟩
  refine za2 hJ (CnA ns H) ⟨none,none,rfl,Same.refl _,rfl⟩ (by rintro i acc σ H' _ ⟨_,_,_,s2,_⟩;rw [ha,s2 _ _ ha]) ?_ ?_
  ·rintro i x acc σ H2 hx ⟨o,o',rfl,s2,rfl⟩
   obtain ⟨n,t,y,hn,rfl,ht⟩:=rn.get hx
   have hi:=(List.getElem?_eq_some_iff.mp hn).1
   refine ⟨t,_,rfl,SqT.of (s2 _ _ ht),rfl,_,_,rfl,_,_,rfl,rfl,_,rfl,Nat.lt_of_le_of_lt (m:=100) (by simp;omega) (by decide),_,_,rfl,s2,?_⟩
   rw [zar hn,List.map_append]
   rfl
  ·rintro acc σ H2 ⟨o,o',rfl,s2,rfl⟩ l hl
   rw [lw,List.take_length]
   have hl2:upd H2 l (.lst (ns.map V.str)) l=some (.lst (ns.map V.str)):=upd_same
   have s3:=s2.trans (Same.upd (o:=.lst (ns.map V.str)) hl)
   generalize upd H2 l (.lst (ns.map V.str))=H3 at hl2 s3 ⊢
   refine ⟨l,rfl,_,.inl hl2,fun J2 hJ2=>?_⟩
   refine za2 hJ2 (CnB H3) ⟨none,rfl,Same.refl _,rfl⟩ (by rintro i acc σ H' _ ⟨_,_,s4,_⟩;rw [hl2,s4 _ _ hl2]) ?_ ?_
   ·rintro i x acc σ H4 hx ⟨o,rfl,s4,rfl⟩
    rw [List.getElem?_map] at hx
    obtain ⟨n,hn,rfl⟩:=Option.map_eq_some_iff.mp hx
    have hi:=(List.getElem?_eq_some_iff.mp hn).1
    refine ⟨_,rfl,n,rfl,ok n (List.mem_of_getElem? hn),fun H5 s5=>⟨Nat.lt_of_le_of_lt (m:=100) (by simp;omega) (by decide),_,rfl,s4.trans s5,?_⟩⟩
    rw [List.replicate_succ',List.map_append]
    rfl
   ·rintro acc σ H4 ⟨o,rfl,s4,rfl⟩ l2 hl5
    refine ⟨l2,rfl,_,upd_same,?_⟩
    rw [if_neg (by simp)]
    have s5:=s4.trans (Same.upd (o:=.lst ((List.replicate (ns.map V.str).length true).map V.bl)) hl5)
    generalize upd H4 l2 (.lst ((List.replicate (ns.map V.str).length true).map V.bl))=H5 at s5 ⊢
    refine ⟨l,ns,rfl,s5 _ _ hl2,nd,by omega,fun p hp=>⟨p,ns.length,rfl,upd_same,.int ns.length,?_,.inl (.inl ⟨_,rfl,_,rfl,?_⟩)⟩⟩
    ·have:=(Same.upd (o:=SetT P w p ns.length) hp) _ _ (s5 _ _ hl2)
     show Option.map _ ((lenV (upd H5 p (SetT P w p ns.length)) (.ref l)).bind _)=_
     rw [lenV_l this,List.length_map]
     rfl
    ·rw [if_neg (by omega)]
     exact q _ ((s3.trans s5).trans (Same.upd hp))
noncomputable def zhp:Sp:=fun vs H Q _=>∃ (a:Addr) (fx:List (Str×Int)) (fv:List V),vs=[.ref a]/\H a=some (.lst fv)/\RowI H fx fv/\(∀ r ∈ fx,0<=r.2/\r.2<=3)/\(∃ r ∈ fx,r.2=0)/\fx.length<=50/\∀ H',Same H H'->Q .non H'
noncomputable def PaI (a:Addr)(H:Hp)(i:Nat)(σ:St)(H2:Hp):Prop:=∃ o o':Option V,σ=[some (.ref a),o,o']/\H2=H
noncomputable def PaC (fx:List (Str×Int))(H:Hp)(i:Nat)(acc:List V)(σ:St)(H2:Hp):Prop:=∃ o o':Option V,σ=[o,o']/\H2=H/\acc=((fx.take i).map fun r=>decide (r.2=0)).map V.bl
theorem zl1 {f:Addr}{fd:FuncData}(F:Fun K "check_parts" "check_parts" zaJ f fd)(T:Txt mg)(O_is_whole:Own P w K mg base CX0 1 "is_whole" zhl):FnOk P w K mg base CX0 2 f fd zcr zhp:=by
 refine F.ok zcX (fun vs H Q E h=>?_) (fun cdv A outer s H vs Q E hr h=>?_)
 ·obtain ⟨a,fx,fv,rfl,_⟩:=h
  rfl
 ·obtain ⟨a,fx,fv,rfl,ha,rn,ok,bare,l50,q⟩:=h
  have hu:=hr.units
  refine ⟨_,(zaf (zb2 PassesOwn.never rfl (zbi K rfl (pv 0)) (zbq K rfl (i:=1) (j:=2) rfl zcX.nd rfl rfl rfl rfl) (zag (zaT (PW.pt (zdz (za4 (zal K rfl (zan O_is_whole (hr.mono (by decide)) pass0 rfl (zaa (pv 2) zae)) (fun _=>rfl))) (zcG (za4 (zdi zfH zfH zah (pv 2) (zbL T.c_MOST_PARTS rfl)))))) (zag zbp) zaq)))
   (zag (zaT (za4 (zal K rfl (zaj (zli rfl) rfl T.n_any rfl (zaa (zbV rfl (CompSc.by (N:=zcu) (names:=(zad zaJ).names) (N':=["name","many"]) (src:=[none,none]) (by decide +kernel) rfl rfl) (zbi K rfl (pv 0)) (fun _ _ _ _=>(zbq K rfl (i:=0) (j:=1) rfl (show List.Nodup (["name","many"]:List Str) by decide +kernel) rfl rfl rfl rfl)) (fun _ _ _ _=>zbx) (fun _ _ _ _=>(zbW (zbr hu) (pv 1) zah (nomark _)))) zae)) (fun _=>rfl))) (zag zbp) zaq))),?_⟩
  simp only [zcu]
  clear hr F T hu O_is_whole
  have keep:=And.intro q (And.intro ha (And.intro rn (And.intro ok (And.intro bare l50))))
  clear q ha rn ok bare l50
  walk_at "rd"
  obtain ⟨q,ha,rn,ok,bare,l50⟩:=keep
  have lw:=rn.len
  refine ⟨fv,.inl ha,fun J hJ=>?_⟩
  refine zdD hJ (PaI a H) ⟨none,none,rfl,rfl⟩ (by rintro i σ H' _ ⟨_,_,_,rfl⟩;rfl) ?_ ?_
  ·rintro i x σ H2 hx ⟨o,o',rfl,rfl⟩
   obtain ⟨r,t,hn,rfl,ht⟩:=rn.get hx
   obtain ⟨k0,k3⟩:=ok r (List.mem_of_getElem? hn)
   refine ⟨t,_,rfl,SqT.of ht,rfl,_,_,rfl,_,_,rfl,rfl,?_⟩
   have keep:=And.intro q (And.intro k0 k3)
   clear q ha rn ok bare l50 lw hJ hx hn ht
   walk_at "rd"
   obtain ⟨q,k0,k3⟩:=keep
   refine ⟨r.2,rfl,true,rfl,?_⟩
   rw [if_neg (by decide)]
   exact ⟨_,_,rfl,rfl⟩
  ·rintro σ H2 ⟨o,o',rfl,rfl⟩
   have keep:=And.intro q (And.intro ha (And.intro rn (And.intro ok (And.intro bare (And.intro l50 lw)))))
   clear q ha rn ok bare l50 lw hJ
   walk_at "rd"
   obtain ⟨q,ha,rn,ok,bare,l50,lw⟩:=keep
   refine ⟨fv,.inl ha,fun J2 hJ2=>?_⟩
   refine za2 hJ2 (PaC fx H2) ⟨none,none,rfl,rfl,rfl⟩ (by rintro i acc σ H' _ ⟨_,_,_,rfl,_⟩;rfl) ?_ ?_
   ·rintro i x acc σ H3 hx ⟨o,o',rfl,rfl,rfl⟩
    obtain ⟨r,t,hn,rfl,ht⟩:=rn.get hx
    have hi:=(List.getElem?_eq_some_iff.mp hn).1
    refine ⟨t,_,rfl,SqT.of ht,rfl,_,_,rfl,_,_,rfl,rfl,_,rfl,?_⟩
    dsimp only [tC]
    rw [rEqD_ii]
    refine ⟨Nat.lt_of_le_of_lt (m:=100) (by simp;omega) (by decide),_,_,rfl,rfl,?_⟩
    rw [zar hn,List.map_append,List.map_append]
    rfl
   ·rintro acc σ H3 ⟨o,o',rfl,rfl,rfl⟩ l2 hl5
    rw [lw,List.take_length]
    refine ⟨l2,rfl,_,upd_same,?_⟩
    have any0:((fx.map fun r=>decide (r.2=0)).any id)=true:=by
     obtain ⟨r,hr,e⟩:=bare
     rw [List.any_eq_true]
     exact ⟨true,List.mem_map.mpr ⟨r,hr,decide_eq_true e⟩,rfl⟩
    rw [any0,if_neg (by decide)]
    exact q _ (Same.upd hl5)
noncomputable def nots (sm:List (Str×Str)):List Str:=(sm.map (·.2)).filter fun (x:Str)=>decide (x≠("" : Str))
noncomputable def zdy:Sp:=fun vs H Q _=>∃ (a b:Addr) (sm:List (Str×Str)) (sv:List V) (zs:List Str),vs=[.ref a,.ref b]/\H a=some (.lst sv)/\RowS H sm sv/\H b=some (.lst (zs.map V.str))/\(∀ r ∈ sm,r.2≠("" : Str)->r.2 ∈ zs)/\(nots sm).Nodup/\sm.length<=50/\∀ H',Same H H'->Q .non H'
noncomputable def NoI (a b:Addr)(H:Hp)(i:Nat)(σ:St)(H2:Hp):Prop:=∃ o o' o'':Option V,σ=[some (.ref a),some (.ref b),o,o',o'']/\H2=H
noncomputable def NoC (sm:List (Str×Str))(H:Hp)(i:Nat)(acc:List V)(σ:St)(H2:Hp):Prop:=∃ o o':Option V,σ=[o,o']/\H2=H/\acc=(nots (sm.take i)).map V.str
theorem zkn (sm:List (Str×Str))(r:Str×Str):nots (sm ++ [r])=nots sm ++ (if r.2=("" : Str) then [] else [r.2]):=by
 unfold nots
 rw [List.map_append,List.filter_append]
 congr 1
 by_cases z:r.2=("" : Str) <;> simp [z]
theorem zik (sm:List (Str×Str)):(nots sm).length<=sm.length:=by
 unfold nots
 exact Nat.le_trans (List.length_filter_le _ _) (by rw [List.length_map];exact Nat.le_refl _)
theorem zhD {f:Addr}{fd:FuncData}(F:Fun K "check_noughts" "check_noughts" zaB f fd)(T:Txt mg):FnOk P w K mg base CX0 1 f fd zbZ zdy:=by
 refine F.ok zbG (fun vs H Q E h=>?_) (fun cdv A outer s H vs Q E hr h=>?_)
 ·obtain ⟨a,b,sm,sv,zs,rfl,_⟩:=h
  rfl
 ·obtain ⟨a,b,sm,sv,zs,rfl,ha,rn,hb,ok,nd,l50,q⟩:=h
  have hu:=hr.units
  refine ⟨_,(zaf (zb2 PassesOwn.never rfl (zbi K rfl (pv 0)) (zbq K rfl (i:=2) (j:=3) rfl zbG.nd rfl rfl rfl rfl) (zag (zaT (PW.pt (zdz (za4 (zal K rfl (zaj zai rfl T.n_isinstance rfl (zaa (pv 3) (zaa (zaD (v:=V.ty "str") rfl T.n_str rfl rfl) zae))) (fun _=>rfl))) (zcG (PW.pt (zjZ (zas (zdL hu) (pv 3) zbf (nomark _)) (zhx (zas (zkf hu) (pv 3) (pv 1) (by with_unfolding_all rfl)))))))) (zag zbp) zaq)))
   (zaf (zc5 (i:=4) zbG.nd rfl rfl rfl rfl (CompSc.by (N:=zb1) (names:=(zad zaB).names) (N':=["name","nought"]) (src:=[none,none]) (by decide +kernel) rfl rfl) (zbi K rfl (pv 0)) (fun _ _ _ _=>(zbq K rfl (i:=0) (j:=1) rfl (show List.Nodup (["name","nought"]:List Str) by decide +kernel) rfl rfl rfl rfl)) (fun _ _ _ _=>(zeu (zas (zdL hu) (pv 1) zbf (nomark _)))) (fun _ _ _ _=>(pv 1)))
   (zag (zaT (zas (zgu hu) (zaj zg2 rfl T.n_len rfl (zaa (zaU (zgY rfl) rfl T.n_set rfl (zaa (pv 4) zae)) zae)) (zaj zaM rfl T.n_len rfl (zaa (pv 4) zae)) (nomark _)) (zag zbp) zaq)))),?_⟩
  simp only [zb1]
  clear hr F T hu
  have keep:=And.intro q (And.intro ha (And.intro rn (And.intro hb (And.intro ok (And.intro nd l50)))))
  clear q ha rn hb ok nd l50
  walk_at "rd"
  obtain ⟨q,ha,rn,hb,ok,nd,l50⟩:=keep
  have lw:=rn.len
  refine ⟨sv,.inl ha,fun J hJ=>?_⟩
  refine zdD hJ (NoI a b H) ⟨none,none,none,rfl,rfl⟩ (by rintro i σ H' _ ⟨_,_,_,_,rfl⟩;rfl) ?_ ?_
  ·rintro i x σ H2 hx ⟨o,o',o'',rfl,rfl⟩
   obtain ⟨r,t,hn,rfl,ht⟩:=rn.get hx
   have okr:=ok r (List.mem_of_getElem? hn)
   refine ⟨t,_,rfl,SqT.of ht,rfl,_,_,rfl,_,_,rfl,rfl,?_⟩
   have keep:=And.intro q (And.intro okr hb)
   clear q ha rn hb ok nd l50 lw hJ hx hn ht okr
   walk_at "rd"
   obtain ⟨q,okr,hb⟩:=keep
   refine ⟨true,rfl,?_⟩
   rw [if_neg (by decide)]
   refine ⟨!decide (r.2=("" : Str)),by simp,?_⟩
   by_cases z:r.2=("" : Str)
   ·rw [if_neg (by simp [z])]
    exact ⟨_,_,_,rfl,rfl⟩
   ·rw [if_pos (by simp [z])]
    refine ⟨.str r.2,zs.map D.str,rfl,.inl ⟨b,_,rfl,hb,zes zs⟩,by rw [zfW];decide,_,rfl,?_⟩
    rw [if_neg]
    ·exact ⟨_,_,_,rfl,rfl⟩
    ·rw [zfS,decide_eq_true (okr z)]
     decide
  ·rintro σ H2 ⟨o,o',o'',rfl,rfl⟩
   have keep:=And.intro q (And.intro ha (And.intro rn (And.intro nd (And.intro l50 lw))))
   clear q ha rn ok hb nd l50 lw hJ
   walk_at "rd"
   obtain ⟨q,ha,rn,nd,l50,lw⟩:=keep
   refine ⟨sv,.inl ha,fun J2 hJ2=>?_⟩
   refine za2 hJ2 (NoC sm H2) ⟨none,none,rfl,rfl,rfl⟩ (by rintro i acc σ H' _ ⟨_,_,_,rfl,_⟩;rfl) ?_ ?_
   ·rintro i x acc σ H3 hx ⟨o,o',rfl,rfl,rfl⟩
    obtain ⟨r,t,hn,rfl,ht⟩:=rn.get hx
    have hi:=(List.getElem?_eq_some_iff.mp hn).1
    have hk:=zik (sm.take i)
    rw [List.length_take] at hk
    have e1:=zkn (sm.take i) r
    rw [← zar hn] at e1
    refine ⟨t,_,rfl,SqT.of ht,rfl,_,_,rfl,_,_,rfl,rfl,_,rfl,?_⟩
    dsimp only [tC]
    rw [rNeD_ss]
    refine ⟨_,rfl,?_⟩
    by_cases z:r.2=("" : Str)
    ·rw [if_neg (by simp [z])]
     rw [if_pos z,List.append_nil] at e1
     exact ⟨_,_,rfl,rfl,by rw [e1]⟩
    ·rw [if_pos (by simp [z])]
     rw [if_neg z] at e1
     exact ⟨_,rfl,Nat.lt_of_le_of_lt (m:=100) (by rw [List.length_map];omega) (by decide),_,_,rfl,rfl,by rw [e1,List.map_append];rfl⟩
   ·rintro acc σ H3 ⟨o,o',rfl,rfl,rfl⟩ l hl
    rw [lw,List.take_length]
    have hl2:upd H3 l (.lst ((nots sm).map V.str)) l=some (.lst ((nots sm).map V.str)):=upd_same
    have s3:Same H3 (upd H3 l (.lst ((nots sm).map V.str))):=Same.upd hl
    generalize upd H3 l (.lst ((nots sm).map V.str))=H4 at hl2 s3 ⊢
    have hk:=zik sm
    refine ⟨l,nots sm,rfl,hl2,nd,by omega,fun p hp=>⟨p,(nots sm).length,rfl,upd_same,.int (nots sm).length,?_,.inl (.inl ⟨_,rfl,_,rfl,?_⟩)⟩⟩
    ·have:=(Same.upd (o:=SetT P w p (nots sm).length) hp) _ _ hl2
     show Option.map _ ((lenV (upd H4 p (SetT P w p (nots sm).length)) (.ref l)).bind _)=_
     rw [lenV_l this,List.length_map]
     rfl
    ·rw [if_neg (by omega)]
     exact q _ (s3.trans (Same.upd hp))
end
end Lw
namespace Lw
open PySem L2
section
variable {P:Program}{w:World}{K:PySem.W.Frag}{mg:Str->Option Value}{base:Heap}
structure ClsOk (K:PySem.W.Frag)(C:Addr):Prop where
 cls:Cls K C
 n1:zcA K C "fixed_rows"
 n2:zcA K C "sum_rows"
 n3:zcA K C "many_by_name"
 n4:zcA K C "nought_by_name"
theorem RowI.pairs {H:Hp}{fx:List (Str×Int)}{fv:List V}(h:RowI H fx fv):zdF H fv:=fun v hv=>by
 obtain ⟨i,hi⟩:=List.getElem?_of_mem hv
 obtain ⟨r,t,_,e,ht⟩:=h.get hi
 exact ⟨t,_,_,e,ht⟩
theorem RowS.pairs {H:Hp}{sm:List (Str×Str)}{sv:List V}(h:RowS H sm sv):zdF H sv:=fun v hv=>by
 obtain ⟨i,hi⟩:=List.getElem?_of_mem hv
 obtain ⟨r,t,_,e,ht⟩:=h.get hi
 exact ⟨t,_,_,e,ht⟩
theorem RowI.prs {H:Hp}:∀ {fx:List (Str×Int)} {fv:List V},RowI H fx fv->fv.map (prV H)=(fx.map fun r=>((.inr r.1,V.int r.2):Key×V)).map (fun kv=>some (kV kv.1,kv.2))
 | [],_,e=>by cases e;rfl
 | r :: l,_,⟨t,us,e,h,q⟩=>by
  subst e
  rw [List.map_cons,RowI.prs q]
  unfold prV
  simp only [h]
  rfl
theorem zmb {fx:List (Str×Int)}(nd:(fx.map (·.1)).Nodup):zcZ [] (fx.map fun r=>((.inr r.1,V.int r.2):Key×V))=fx.map fun r=>(.inr r.1,V.int r.2):=by
 rw [zdB]
 ·rfl
 ·rw [List.nil_append,List.map_map]
  exact List.pairwise_map.mpr ((List.pairwise_map.mp nd).imp fun h e=>h (Sum.inr.inj e))
noncomputable def zjQ (K:PySem.W.Frag)(C:Addr):Sp:=fun vs H Q _=>∃ (x dx a b:Addr) (fx:List (Str×Int)) (sm:List (Str×Str)) (fv sv:List V),vs=[.ref x,.ref a,.ref b]/\H x=some (.ins C dx [])/\H a=some (.lst fv)/\H b=some (.lst sv)/\RowI H fx fv/\RowS H sm sv/\SignsOk fx sm /\
 ∀ H',But x H H'->SgAt K C fx sm H' x->Q .non H'
noncomputable def ZI2 (fx:List (Str×Int))(H:Hp)(i:Nat)(acc:List V)(σ:St)(H2:Hp):Prop:=∃ o o':Option V,σ=[o,o']/\H2=H/\acc=(zeros (fx.take i)).map V.str
theorem ziM (fx:List (Str×Int)):(zeros fx).length<=fx.length:=by
 unfold zeros
 rw [List.length_map]
 exact List.length_filter_le _ _
theorem znR {f C:Addr}{fd:FuncData}(F:Fun K "__init__" "Signs.__init__" zaw f fd)(T:Txt mg)(co:ClsOk K C)(O_checked_pairs:Own P w K mg base CX0 1 "checked_pairs" zhq)(O_check_names:Own P w K mg base CX0 2 "check_names" zfz)(O_check_parts:Own P w K mg base CX0 2 "check_parts" zhp)(O_check_noughts:Own P w K mg base CX0 1 "check_noughts" zdy):FnOk P w K mg base CX0 3 f fd zbI (zjQ K C):=by
 refine F.ok zbs (fun vs H Q E h=>?_) (fun cdv A outer s H vs Q E hr h=>?_)
 ·obtain ⟨x,dx,a,b,fx,sm,fv,sv,rfl,_⟩:=h
  rfl
 ·obtain ⟨x,dx,a,b,fx,sm,fv,sv,rfl,hx,ha,hb,rf,rs,so,q⟩:=h
  have hu:=hr.units
  refine ⟨_,(zaf (zap (i:=3) zbs.nd rfl (Or.inl rfl) (zan O_checked_pairs (hr.mono (by decide)) pass0 rfl (zaa (pv 1) (zaa zah (zaa (zbL T.c_MOST_FIXED rfl) zae)))))
   (zaf (zap (i:=4) zbs.nd rfl (Or.inl rfl) (zan O_checked_pairs (hr.mono (by decide)) pass0 rfl (zaa (pv 2) (zaa zah (zaa (zbL T.c_MOST_SUMS rfl) zae)))))
   (zaf (zaP (zan O_check_names (hr.mono (by decide)) pass0 rfl (zaa (zaQ zaG (pv 3) (pv 4)) zae)))
   (zaf (zaP (zan O_check_parts (hr.mono (by decide)) pass0 rfl (zaa (pv 3) zae)))
   (zaf (zaP (zan O_check_noughts (hr.mono (by decide)) pass0 rfl (zaa (pv 4) (zaa (zbV rfl (CompSc.by (N:=zbJ) (names:=(zad zaw).names) (N':=["name","many"]) (src:=[none,none]) (by decide +kernel) rfl rfl) (zbi K rfl (pv 3)) (fun _ _ _ _=>(zbq K rfl (i:=0) (j:=1) rfl (show List.Nodup (["name","many"]:List Str) by decide +kernel) rfl rfl rfl rfl)) (fun _ _ _ _=>(zeu (zas (zbr hu) (pv 1) zah (nomark _)))) (fun _ _ _ _=>(pv 0))) zae))))
   (zaf (zid (pv 0) (pv 3) rfl)
   (zaf (zid (pv 0) (pv 4) rfl)
   (zaf (zid (pv 0) (zaU (zfi rfl) rfl T.n_dict rfl (zaa (pv 3) zae)) rfl)
   (zag (zid (pv 0) (zaU (zfi rfl) rfl T.n_dict rfl (zaa (pv 4) zae)) rfl)))))))))),?_⟩
  simp only [zbJ]
  clear hr F T hu O_checked_pairs O_check_names O_check_parts O_check_noughts
  have keep:=And.intro q (And.intro hx (And.intro ha (And.intro hb (And.intro rf (And.intro rs (And.intro so co))))))
  clear q hx ha hb rf rs so co
  walk_at "rd"
  obtain ⟨q,hx,ha,hb,rf,rs,so,co⟩:=keep
  have lf:=rf.len
  have ls:=rs.len
  have f1:=so.f1
  have f2:=so.f2
  have s2':=so.s2
  have ndf:=(List.nodup_append.mp so.nd).1
  have nds':=(List.nodup_append.mp so.nd).2.1
  refine ⟨a,1,12,fv,rfl,ha,rf.pairs,by omega,by omega,by omega,fun l1 H1 s1 hl1 h1=>?_⟩
  refine ⟨b,0,3,sv,rfl,s1 _ _ hb,rs.pairs.same s1,by omega,by omega,by omega,fun l2 H2 s2 hl2 h2=>?_⟩
  have nxl1:x≠l1:=zab hx hl1
  have nxl2:x≠l2:=zab (s1 _ _ hx) hl2
  refine .inr ⟨.lst (fv ++ sv),zhT (s2 _ _ h1) h2 (Nat.le_trans (m:=100) (by omega) (by decide)),fun l3 hl3=>?_⟩
  have s3:=(s1.trans s2).trans (Same.upd (o:=.lst (fv ++ sv)) hl3)
  have h13:=(Same.upd (o:=.lst (fv ++ sv)) hl3) _ _ (s2 _ _ h1)
  have h23:=(Same.upd (o:=.lst (fv ++ sv)) hl3) _ _ h2
  have h33:upd H2 l3 (.lst (fv ++ sv)) l3=some (.lst (fv ++ sv)):=upd_same
  generalize upd H2 l3 (.lst (fv ++ sv))=H3 at s3 h13 h23 h33 ⊢
  refine ⟨l3,fx.map (·.1) ++ sm.map (·.1),fv ++ sv,rfl,h33,RowN.app (RowN.same s3 rf.n) (RowN.same s3 rs.n),so.nm,so.nd,by simp;omega,fun H4 s4=>?_⟩
  refine ⟨l1,fx,fv,rfl,s4 _ _ h13,rf.same (TupS.of (s3.trans s4)),so.parts,so.bare,by omega,fun H5 s5=>?_⟩
  have h15:=s5 _ _ (s4 _ _ h13)
  have h25:=s5 _ _ (s4 _ _ h23)
  have sH5:=(s3.trans s4).trans s5
  have rf5:=rf.same (TupS.of sH5)
  have rs5:=rs.same (TupS.of sH5)
  refine ⟨l1,rfl,fv,.inl h15,fun J hJ=>?_⟩
  refine za2 hJ (ZI2 fx H5) ⟨none,none,rfl,rfl,rfl⟩ (by rintro i acc σ H' _ ⟨_,_,_,rfl,_⟩;rfl) ?_ ?_
  ·rintro i y acc σ H6 hy ⟨o,o',rfl,rfl,rfl⟩
   obtain ⟨r,t,hn,rfl,ht⟩:=rf5.get hy
   have hi:=(List.getElem?_eq_some_iff.mp hn).1
   have hk:=ziM (fx.take i)
   rw [List.length_take] at hk
   have e1:=zcc (fx.take i) r
   rw [← zar hn] at e1
   refine ⟨t,_,rfl,SqT.of ht,rfl,_,_,rfl,_,_,rfl,rfl,_,rfl,?_⟩
   dsimp only [tC]
   rw [rEqD_ii]
   refine ⟨_,rfl,?_⟩
   by_cases z:r.2=0
   ·rw [if_pos (decide_eq_true z)]
    rw [if_pos z] at e1
    exact ⟨_,rfl,Nat.lt_of_le_of_lt (m:=100) (by rw [List.length_map];omega) (by decide),_,_,rfl,rfl,by rw [e1,List.map_append];rfl⟩
   ·rw [if_neg (by simpa using z)]
    rw [if_neg z,List.append_nil] at e1
    exact ⟨_,_,rfl,rfl,by rw [e1]⟩
  ·rintro acc σ H6 ⟨o,o',rfl,rfl,rfl⟩ l6 hl6
   rw [lf,List.take_length]
   have s6:Same H6 (upd H6 l6 (.lst ((zeros fx).map V.str))):=Same.upd hl6
   have h66:upd H6 l6 (.lst ((zeros fx).map V.str)) l6=some (.lst ((zeros fx).map V.str)):=upd_same
   generalize upd H6 l6 (.lst ((zeros fx).map V.str))=H7 at s6 h66 ⊢
   refine ⟨l2,l6,sm,sv,zeros fx,rfl,s6 _ _ h25,rs5.same (TupS.of s6),h66,so.nought,so.once,by omega,fun H8 s8=>?_⟩
   have sH8:=(sH5.trans s6).trans s8
   have h18:=s8 _ _ (s6 _ _ h15)
   have h28:=s8 _ _ (s6 _ _ h25)
   have hx8:=sH8 _ _ hx
   have rf8:=rf.same (TupS.of sH8)
   have rs8:=rs.same (TupS.of sH8)
   refine ⟨_,rfl,_,rfl,x,C,dx,[],rfl,hx8,co.cls,co.n1,by decide,?_⟩
   refine ⟨_,rfl,_,rfl,x,C,dx,_,rfl,upd_same,co.cls,co.n2,?_,?_⟩
   ·have:=zby ("fixed_rows" : Str) (.ref l1) []
    simp only [List.length_nil] at this
    omega
   rw [upd_upd]
   have e9:∀ (fs:List (Str×V)),Same (del H8 x) (upd H8 x (.ins C dx fs)):=fun fs b o e=>by
    obtain ⟨z1,z2⟩:=zb9 e
    rw [zac z2]
    exact z1
   have l2f:(putF ("sum_rows" : Str) (.ref l2) (putF ("fixed_rows" : Str) (.ref l1) [])).length<=2:=by
    have:=zby ("sum_rows" : Str) (.ref l2) (putF ("fixed_rows" : Str) (.ref l1) [])
    have:=zby ("fixed_rows" : Str) (.ref l1) []
    simp only [List.length_nil] at this
    omega
   have k1:(putF ("sum_rows" : Str) (.ref l2) (putF ("fixed_rows" : Str) (.ref l1) [])).lookup ("many" : Str)=none:=by rw [zay,if_neg (by decide),zay,if_neg (by decide)];rfl
   have k2:(putF ("sum_rows" : Str) (.ref l2) (putF ("fixed_rows" : Str) (.ref l1) [])).lookup ("nought" : Str)=none:=by rw [zay,if_neg (by decide),zay,if_neg (by decide)];rfl
   generalize putF ("sum_rows" : Str) (.ref l2) (putF ("fixed_rows" : Str) (.ref l1) [])=fs2 at l2f k1 k2 ⊢
   have t9:TupS H8 (upd H8 x (.ins C dx fs2)):=fun c xs e=>by rw [zac (fun z=>by rw [z,hx8] at e;cases e)];exact e
   have h9x:upd H8 x (.ins C dx fs2) x=some (.ins C dx fs2):=upd_same
   have b9:But x H (upd H8 x (.ins C dx fs2)):=fun c o nc e=>by rw [zac nc];exact sH8 _ _ e
   have h19:upd H8 x (.ins C dx fs2) l1=some (.lst fv):=by rw [zac nxl1.symm];exact h18
   have h29:upd H8 x (.ins C dx fs2) l2=some (.lst sv):=by rw [zac nxl2.symm];exact h28
   have rf9:=rf8.same t9
   have rs9:=rs8.same t9
   generalize upd H8 x (.ins C dx fs2)=H9 at t9 h9x b9 h19 h29 rf9 rs9 ⊢
   refine ⟨_,rfl,l1,fv,_,rfl,h19,rf9.prs,fun d3 hd3=>?_⟩
   rw [zmb ndf]
   have nx3:x≠d3:=zab h9x hd3
   refine ⟨_,rfl,x,C,dx,fs2,rfl,by rw [zac nx3];exact h9x,co.cls,co.n3,by omega,?_⟩
   have l3f:=zby ("many_by_name" : Str) (.ref d3) fs2
   have k3:(putF ("many_by_name" : Str) (.ref d3) fs2).lookup ("many" : Str)=none:=by rw [zay,if_neg (by decide)];exact k1
   have k4:(putF ("many_by_name" : Str) (.ref d3) fs2).lookup ("nought" : Str)=none:=by rw [zay,if_neg (by decide)];exact k2
   have k5:(putF ("many_by_name" : Str) (.ref d3) fs2).lookup ("many_by_name" : Str)=some (.ref d3):=by rw [zay,if_pos rfl]
   generalize putF ("many_by_name" : Str) (.ref d3) fs2=fs3 at l3f k3 k4 k5 ⊢
   have s10:Same H9 (upd H9 d3 (.dK (fx.map fun r=>(.inr r.1,.int r.2)))):=Same.upd hd3
   have h11x:upd (upd H9 d3 (.dK (fx.map fun r=>(.inr r.1,.int r.2)))) x (.ins C dx fs3) x=some (.ins C dx fs3):=upd_same
   have h11d:upd (upd H9 d3 (.dK (fx.map fun r=>(.inr r.1,.int r.2)))) x (.ins C dx fs3) d3=some (.dK (fx.map fun r=>(.inr r.1,.int r.2))):=by rw [zac nx3.symm];exact upd_same
   have b11:But x H9 (upd (upd H9 d3 (.dK (fx.map fun r=>(.inr r.1,.int r.2)))) x (.ins C dx fs3)):=fun c o nc e=>by rw [zac nc];exact s10 _ _ e
   generalize upd (upd H9 d3 (.dK (fx.map fun r=>(.inr r.1,.int r.2)))) x (.ins C dx fs3)=H11 at h11x h11d b11 ⊢
   have t11:TupS H9 H11:=fun c xs e=>b11 c _ (fun z=>by rw [z,h9x] at e;cases e) e
   refine ⟨_,rfl,l2,sv,_,rfl,b11 _ _ nxl2.symm h29,(rs9.same t11).prs,fun d4 hd4=>?_⟩
   rw [zma nds']
   have nx4:x≠d4:=zab h11x hd4
   have n34:d3≠d4:=zab h11d hd4
   refine ⟨_,rfl,x,C,dx,fs3,rfl,by rw [zac nx4];exact h11x,co.cls,co.n4,by omega,?_⟩
   refine q _ (fun c o nc e=>?_) ⟨co.cls,co.n3,co.n4,dx,_,d3,d4,upd_same,by rw [zay,if_neg (by decide)];exact k3,by rw [zay,if_neg (by decide)];exact k4,by rw [zay,if_neg (by decide)];exact k5,by rw [zay,if_pos rfl],by rw [zac nx3.symm,zac n34];exact h11d,by rw [zac nx4.symm];exact upd_same⟩
   rw [zac nc]
   exact (Same.upd hd4) _ _ (b11 c o nc (b9 c o nc e))
end
end Lw
namespace Lw
open PySem L2
theorem zdp {fx:List (Str×Int)}{sm:List (Str×Str)}{os:List Str}:∀ {ds:List D},IsTms fx sm os ds->∀ d ∈ ds,IsTm fx sm os d
 | _ :: _,⟨a,b⟩,d,h=>by
  obtain rfl | h:=List.mem_cons.mp h
  ·exact a
  ·exact zdp b d h
theorem zix {fx:List (Str×Int)}{sm:List (Str×Str)}{os:List Str}:∀ {ds:List D},(∀ d ∈ ds,IsTm fx sm os d)->IsTms fx sm os ds
 | [],_=>trivial
 | d :: ds,h=>⟨h d List.mem_cons_self,zix fun e k=>h e (List.mem_cons_of_mem _ k)⟩
end Lw
namespace Lw
open PySem L2
theorem znz {fx:List (Str×Int)}{sm:List (Str×Str)}{os:List Str}{n z:Str}{d:D}(h:IsTm fx sm os d):∀ e ∈ opn1 n z d,IsTm fx sm os e:=by
 intro e he
 unfold opn1 at he
 split at he
 ·rename_i m es
  split at he
  ·unfold IsTm at h;exact zdp h.2 e he
  ·cases List.mem_singleton.mp he;exact h
 ·split at he
  ·cases he
  ·cases List.mem_singleton.mp he;exact h
theorem zpy {sm:List (Str×Str)}{n z:Str}(h:zr sm n=some z):∃ r ∈ sm,r.1=n/\r.2=z:=by
 unfold zr at h
 obtain ⟨r,h1,h2⟩:=Option.map_eq_some_iff.mp h
 have h3:=List.find?_some h1
 exact ⟨r,List.mem_of_find?_eq_some h1,of_decide_eq_true h3,h2⟩
theorem zkE {fx:List (Str×Int)}{sm:List (Str×Str)}{os:List Str}{n:Str}{ps:List D}(so:SignsOk fx sm)(f:Fls ps)(b:Nbs ps)(h:IsTms fx sm os ps)(hd:HdOk fx sm n ps.length):IsTm fx sm os (knot sm n ps):=by
 unfold knot
 cases hz:zr sm n with
 | none=>dsimp only;unfold IsTm;exact ⟨hd,h⟩
 | some z =>
  dsimp only
  obtain ⟨r,hr,rn,rz⟩:=zpy hz
  have pm:=za1 (opn n z ps)
  have al:∀ e ∈ zcf (opn n z ps),IsTm fx sm os e:=fun e he=>by
   obtain ⟨d,h1,h2⟩:=List.mem_flatMap.mp (pm.mem_iff.mp he)
   exact znz (zdp h d h1) e h2
  have ne:z=("" : Str)->zcf (opn n z ps)≠[]:=fun e q=>by
   subst e
   have h1:=zmN (n:=n) f b (fun e=>by rw [e] at hd;have:=zfd hd;simp at this)
   rw [q] at pm
   exact h1 (List.Perm.eq_nil pm.symm)
  generalize zcf (opn n z ps)=l at al ne
  match l,al,ne with
  | [],_,ne =>
   show IsTm fx sm os (.str z)
   unfold IsTm
   refine .inr ?_
   rw [← rz]
   exact so.nought r hr fun e=>ne (by rw [← rz];exact e) rfl
  | [d],al,_=>exact al d (List.mem_singleton.mpr rfl)
  | d :: e :: l,al,_ =>
   show IsTm fx sm os (.tup (.str n :: d :: e :: l))
   unfold IsTm
   exact ⟨.inr ⟨by simp,by rw [← rn];exact List.mem_map.mpr ⟨r,hr,rfl⟩⟩,zix al⟩
mutual
theorem zmW {fx:List (Str×Int)}{sm:List (Str×Str)}{os:List Str}(so:SignsOk fx sm)(ho:∀ x ∈ os,zaR x):∀ {d:D},IsTm fx sm os d->IsTm fx sm os (flt sm d)
 | .str x,h=>by
  have:flt sm (.str x) = .str x:=by unfold flt;rfl
  rw [this];exact h
 | .tup (.str n :: ds),h=>by
  unfold IsTm at h
  have t:=(zgf so ho h.2).1
  have g:=zc9 (zdA so) t
  rw [flt]
  exact zkE so g.1 g.2 (zhP so ho h.2) (by rw [zbd,List.length_map];exact h.1)
 | .lst (.str n :: ds),h=>by
  unfold IsTm at h
  have t:=(zgf so ho h.2).1
  have g:=zc9 (zdA so) t
  rw [flt]
  exact zkE so g.1 g.2 (zhP so ho h.2) (by rw [zbd,List.length_map];exact h.1)
 | .non,h | .bl _,h | .int _,h | .tup [],h | .lst [],h | .tup (.non :: _),h | .tup (.bl _ :: _),h | .tup (.int _ :: _),h | .tup (.tup _ :: _),h | .tup (.lst _ :: _),h | .lst (.non :: _),h | .lst (.bl _ :: _),h | .lst (.int _ :: _),h | .lst (.tup _ :: _),h | .lst (.lst _ :: _),h=>by unfold IsTm at h;exact absurd h id
theorem zhP {fx:List (Str×Int)}{sm:List (Str×Str)}{os:List Str}(so:SignsOk fx sm)(ho:∀ x ∈ os,zaR x):∀ {ds:List D},IsTms fx sm os ds->IsTms fx sm os (flts sm ds)
 | [],_=>trivial
 | d :: ds,⟨a,b⟩=>by rw [flts];exact ⟨zmW so ho a,zhP so ho b⟩
end
mutual
noncomputable def asD (b:Bool):D->D
 | .tup (.str n :: ds)=>if b=true then .lst (.str n :: asDs b ds) else .tup (.str n :: asDs b ds)
 | .lst (.str n :: ds)=>if b=true then .lst (.str n :: asDs b ds) else .tup (.str n :: asDs b ds)
 | d=>d
noncomputable def asDs (b:Bool):List D->List D
 | []=>[]
 | d :: ds=>asD b d :: asDs b ds
end
theorem zco (b:Bool):∀ ds:List D,asDs b ds=ds.map (asD b)
 | []=>rfl
 | d :: ds=>by rw [asDs,zco b ds];rfl
mutual
theorem zhX {fx:List (Str×Int)}{sm:List (Str×Str)}{os:List Str}(b:Bool):∀ {d:D},IsTm fx sm os d->flt sm (asD b d)=flt sm d/\IsTm fx sm os (asD b d)/\lvs (asD b d)=lvs d/\depD (asD b d)=depD d
 | .str x,h=>by
  have:asD b (.str x) = .str x:=by unfold asD;rfl
  rw [this];exact ⟨rfl,h,rfl,rfl⟩
 | .tup (.str n :: ds),h=>by
  unfold IsTm at h
  obtain ⟨a1,a2,a3,a4⟩:=zf0 b h.2
  have hl:(asDs b ds).length=ds.length:=by rw [zco,List.length_map]
  rw [asD]
  cases b with
  | true =>
   rw [if_pos rfl]
   refine ⟨by rw [flt,flt,a1],by unfold IsTm;rw [hl];exact ⟨h.1,a2⟩,by rw [lvs,lvs,a3],by rw [depD,depD,depDs,depDs,a4]⟩
  | false =>
   rw [if_neg (by decide)]
   refine ⟨by rw [flt,flt,a1],by unfold IsTm;rw [hl];exact ⟨h.1,a2⟩,by rw [lvs,lvs,a3],by rw [depD,depD,depDs,depDs,a4]⟩
 | .lst (.str n :: ds),h=>by
  unfold IsTm at h
  obtain ⟨a1,a2,a3,a4⟩:=zf0 b h.2
  have hl:(asDs b ds).length=ds.length:=by rw [zco,List.length_map]
  rw [asD]
  cases b with
  | true =>
   rw [if_pos rfl]
   refine ⟨by rw [flt,flt,a1],by unfold IsTm;rw [hl];exact ⟨h.1,a2⟩,by rw [lvs,lvs,a3],by rw [depD,depD,depDs,depDs,a4]⟩
  | false =>
   rw [if_neg (by decide)]
   refine ⟨by rw [flt,flt,a1],by unfold IsTm;rw [hl];exact ⟨h.1,a2⟩,by rw [lvs,lvs,a3],by rw [depD,depD,depDs,depDs,a4]⟩
 | .non,h | .bl _,h | .int _,h | .tup [],h | .lst [],h | .tup (.non :: _),h | .tup (.bl _ :: _),h | .tup (.int _ :: _),h | .tup (.tup _ :: _),h | .tup (.lst _ :: _),h | .lst (.non :: _),h | .lst (.bl _ :: _),h | .lst (.int _ :: _),h | .lst (.tup _ :: _),h | .lst (.lst _ :: _),h=>by unfold IsTm at h;exact absurd h id
theorem zf0 {fx:List (Str×Int)}{sm:List (Str×Str)}{os:List Str}(b:Bool):∀ {ds:List D},IsTms fx sm os ds->flts sm (asDs b ds)=flts sm ds/\IsTms fx sm os (asDs b ds)/\lvss (asDs b ds)=lvss ds/\depDs (asDs b ds)=depDs ds
 | [],_=>⟨rfl,trivial,rfl,rfl⟩
 | d :: ds,⟨x,y⟩=>by
  obtain ⟨a1,a2,a3,a4⟩:=zhX b x
  obtain ⟨c1,c2,c3,c4⟩:=zf0 b y
  rw [asDs]
  exact ⟨by rw [flts,flts,a1,c1],⟨a2,c2⟩,by rw [lvss,lvss,a3,c3],by rw [depDs,depDs,a4,c4]⟩
end
end Lw
namespace L2
open PySem PySem.Spec PyProof.Rows
mutual
noncomputable def pdOf:D->PyData
 | .non=>.none
 | .bl b=>.bool b
 | .int i=>.int i
 | .str x=>.str x
 | .tup ds=>.tuple (pdsOf ds)
 | .lst ds=>.list (pdsOf ds)
noncomputable def pdsOf:List D->List PyData
 | []=>[]
 | d :: ds=>pdOf d :: pdsOf ds
end
mutual
noncomputable def Tx:D->Prop
 | .str _=>True
 | .tup ds=>Txs ds
 | .lst ds=>Txs ds
 | _=>False
noncomputable def Txs:List D->Prop
 | []=>True
 | d :: ds=>Tx d/\Txs ds
end
mutual
theorem zjx:∀ {d:D},Tx d->(pdOf d).showable=true/\(pdOf d).hasDict=false/\(pdOf d).depth=depD d
 | .str _,_=>by unfold pdOf PyData.showable PyData.hasDict PyData.depth depD;exact ⟨rfl,rfl,rfl⟩
 | .tup ds,h=>by
  unfold Tx at h
  obtain ⟨a,b,c⟩:=zfs h
  unfold pdOf PyData.showable PyData.hasDict PyData.depth depD
  exact ⟨a,b,by rw [c]⟩
 | .lst ds,h=>by
  unfold Tx at h
  obtain ⟨a,b,c⟩:=zfs h
  unfold pdOf PyData.showable PyData.hasDict PyData.depth depD
  exact ⟨a,b,by rw [c]⟩
 | .non,h | .bl _,h | .int _,h=>by unfold Tx at h;exact absurd h id
theorem zfs:∀ {ds:List D},Txs ds->PyData.showableAll (pdsOf ds)=true/\PyData.hasDictAll (pdsOf ds)=false/\PyData.depthAll (pdsOf ds)=depDs ds
 | [],_=>by unfold pdsOf PyData.showableAll PyData.hasDictAll PyData.depthAll depDs;exact ⟨rfl,rfl,rfl⟩
 | d :: ds,⟨x,y⟩=>by
  obtain ⟨a,b,c⟩:=zjx x
  obtain ⟨a',b',c'⟩:=zfs y
  unfold pdsOf PyData.showableAll PyData.hasDictAll PyData.depthAll depDs
  rw [a,a',b,b',c,c']
  exact ⟨rfl,rfl,rfl⟩
end
section
variable {X:Cx}{pins:List (Addr×Obj)}{σ:St}{H:Hp}{s:Shared}
mutual
theorem zic (I:Inv X pins σ H s):∀ {d:D} {v:V} {u:Value},Tx d->Rep H d v->RelV v u->∃ as,Reads s.heap u (pdOf d) as
 | .str x,v,u,_,h,r=>by
  cases (show v = .str x from h)
  obtain ⟨t,rfl⟩:=r
  unfold pdOf
  exact ⟨_,.str x t⟩
 | .tup ds,v,u,t,h,r=>by
  unfold Tx at t
  obtain ⟨a,vs,rfl,ha,hs⟩:=h
  cases r
  obtain ⟨its,rv,⟨o,e1,e2,n,e3⟩,_⟩:=I.tuple (SqT.of ha)
  obtain ⟨as,ra⟩:=zc4 I t hs rv
  unfold pdOf
  exact ⟨_,.tuple e1 e2 e3 (by simpa using ra)⟩
 | .lst ds,v,u,t,h,r=>by
  unfold Tx at t
  obtain ⟨a,vs,rfl,ha,hs⟩:=h
  cases r
  obtain ⟨its,rv,pl,_⟩:=I.list (SqL.of ha)
  obtain ⟨as,ra⟩:=zc4 I t hs rv
  obtain ⟨o,e1,e2,n,e3⟩:=pl.isList
  unfold pdOf
  exact ⟨_,.list e1 e2 e3 (by simpa using ra)⟩
 | .non,_,_,t,_,_ | .bl _,_,_,t,_,_ | .int _,_,_,t,_,_=>by unfold Tx at t;exact absurd t id
theorem zc4 (I:Inv X pins σ H s):∀ {ds:List D} {vs:List V} {us:List Value},Txs ds->Reps H ds vs->Vals vs us->∃ as,ReadsAll s.heap us (pdsOf ds) as
 | [],_,_,_,h,r=>by
  cases (show _=[] from h)
  cases r
  unfold pdsOf
  exact ⟨_,.nil⟩
 | d :: ds,_,_,⟨t1,t2⟩,⟨x,vs,e,h1,h2⟩,r=>by
  subst e
  cases r with
  | cons r1 r2 =>
   obtain ⟨as,ra⟩:=zic I t1 h1 r1
   obtain ⟨bs,rb⟩:=zc4 I t2 h2 r2
   unfold pdsOf
   exact ⟨_,.cons ra rb⟩
end
noncomputable def rRepr:List V->Hp->VK->Prop:=fun xs H Q=>∃ d v,xs=[v]/\Rep H d v/\Tx d/\depD d<=50/\(pdOf d).shown.length<=sizeLine/\Q (.str (pdOf d).shown) H
theorem zfh (hg:X.A.guards=some [])(hu:X.A.units + 64 < cLine):CallR X (.builtin "repr") rRepr:=by
 rintro pins s σ H xs us Q I r ⟨d,v,rfl,rep,tx,d50,hz,q⟩
 obtain ⟨u,rfl,ru⟩:∃ u,us=[u]/\RelV v u:=by
  cases r with
  | cons r1 r2=>cases r2;exact ⟨_,rfl,r1⟩
 obtain ⟨as,rd⟩:=zic I tx rep ru
 obtain ⟨h1,h2,h3⟩:=zjx tx
 have plain:∀ a,u = .ref a->wpAny (model X.prog X.w) X.A (call (.builtin "repr") [u]) (EP X pins σ Q) X.xe s:=fun a e=>by
  subst e
  refine repr_of_reads' rd h1 (fun z=>by rw [h2] at z;cases z) hg (by omega) (fun b o e=>e) (fun h' u' tk hk=>?_) hz
  exact ⟨.str (pdOf d).shown,H,I.kept (t':=tk) hk,⟨_,rfl⟩,q⟩
 cases d with
 | str x =>
  cases (show v = .str x from rep)
  obtain ⟨t,rfl⟩:=ru
  have e:(pdOf (.str x)).shown=reprText x:=by unfold pdOf;exact PyData.shown_str x
  rw [e] at hz q
  exact P.repr_of_str (h:=⟨.str (reprText x),H,I.tok _,⟨_,rfl⟩,q⟩) hz
 | tup ds =>
  obtain ⟨a,vs,rfl,_⟩:=rep
  cases ru
  exact plain a rfl
 | lst ds =>
  obtain ⟨a,vs,rfl,_⟩:=rep
  cases ru
  exact plain a rfl
 | _=>unfold Tx at tx;exact absurd tx id
end
structure FnOkG (P:Program)(w:World)(K:PySem.W.Frag)(mg:Str->Option Value)(base:Heap)(CX:CXT)(k:Nat)(f:Addr)(fd:FuncData)(ps:List Str)(sp:Sp):Prop where
 len:∀ vs H Q E,sp vs H Q E->vs.length=ps.length
 run:∀ (A:Around) (outer:List Env) (s:Shared) (H:Hp) (args:Args) (us:List Value) (vs:List V) (Q:VK) (E:XK),A.guards=some []->Room k A->Env0 P w K mg base A outer s H->BindsTo s fd args (ps.zip us)->Vals vs us->sp vs H Q E ->
  codeAny (model P w) A (.call (.ref f) args) (CR CX outer P w H s Q E) s
theorem Fun.okG {P:Program}{w:World}{K:PySem.W.Frag}{mg:Str->Option Value}{base:Heap}{x qual:Str}{st:Stmt}{f:Addr}{fd:FuncData}{N ps:List Str}{k:Nat}{sp:Sp}(F:Fun K x qual st f fd)(S:FnScope N ps (zad st))(len:∀ vs H Q E,sp vs H Q E->vs.length=ps.length)
  (hbody:∀ (cdv:Value) (A:Around) (outer:List Env) (s:Shared) (H:Hp) (vs:List V) (Q:VK) (E:XK),A.guards=some []->Room k (A.deeper (envOfC qual (zad st) s.heap.objs.size f cdv))->sp vs H Q E ->
   ∃ t,PSs (cxOf CX0 P w K mg base N qual (zad st) f cdv A outer s H E).nox (zak st) t/\t { nx:=fun _ H'=>Q .non H',rt:=Q } (start N vs) H):FnOkG P w K mg base CX0 (k + 1) f fd ps sp:=by
 obtain ⟨oc,od,kV,doc,pm,an,cdv,ct,osl,rfl,lk,hcd⟩:=F.ex
 refine ⟨len,fun A outer s H args us vs Q E hG hr e0 hb r hsp=>?_⟩
 have hl:=len _ _ _ _ hsp
 have KX:K.In s.heap:=e0.mod.kin.keeps fun b o e=>(e0.bs b o e).1
 have lim:s.heap.NoLimit:=e0.mod.nolimit.keeps fun b o e=>(e0.bs b o e).1
 have hkind:∀ y ∈ ps.zip us,(zad st).names.lookup y.1=some .local∨((zad st).names.lookup y.1=some .cell/\((cellsFrom (s.heap.objs.size + 1) (zad st).names []).lookup y.1).isSome=true):=fun ⟨n,v⟩ hy=>by
  rcases S.par n (List.of_mem_zip hy).1 with q | q
  ·exact .inl q
  ·exact .inr ⟨q,PySem.W.cellsFrom_some _ _ _ (.inl q)⟩
 refine codeAny_call_function hr.depth (KX _ _ lk) rfl S.co S.gen rfl (PySem.W.codeRec_of KX hcd) (hb _ _ _ _ ?_)
 refine wpAny_newFunctionEnv_cells S.kind hkind fun env he s1 x=>?_
 subst he
 refine ⟨lim.keeps x.toInCall.keep,codeAny_func ?_⟩
 obtain ⟨t,ht',hq⟩:=hbody cdv A outer s H vs Q E hG (hr.deeper _) hsp
 have ht:=ht'.nox
 have I:Inv (cxOf CX0 P w K mg base N qual (zad st) f cdv A outer s H E) [] (start N vs) H s1:=zgK S hr.hd e0 hl r x
 refine wpAny_mono (ht [] s1 (start N vs) H _ I hq) (fun fl s' hs=>?_) fun e s' hs=>hs
 have fin:∀ {σ':St} {H':Hp} {v:V} {u:Value},Inv (cxOf CX0 P w K mg base N qual (zad st) f cdv A outer s H E) [] σ' H' s'->RelV v u->Q v H'->CE outer P w H s Q u s' :=
  fun {σ' H' v u} J rv q=>⟨v,H',J.os,J.bare,J.base,J.hok,rv,q⟩
 cases fl with
 | ret u =>
  obtain ⟨v,σ',H',J,rv,q⟩:=hs
  exact fin J rv q
 | next =>
  obtain ⟨σ',H',J,q⟩:=hs
  exact fin (v:=V.non) (u:=Value.none) J rfl q
 | brk =>
  obtain ⟨_,_,_,q⟩:=hs
  exact False.elim q
 | cont =>
  obtain ⟨_,_,_,q⟩:=hs
  exact False.elim q
end L2
namespace L2
open PySem PySem.Spec PyProof.Rows
section
variable {X:Cx}
theorem zju {ws:List Str}:∀ {us:List Value},Vals (ws.map V.str) us->∃ l:List (Str×Tok),us=strValues l/\l.map (·.1)=ws:=by
 induction ws with
 | nil=>intro us r;cases r;exact ⟨[],rfl,rfl⟩
 | cons x ws ih =>
  intro us r
  cases r with
  | cons r1 r2 =>
   obtain ⟨t,rfl⟩:=r1
   obtain ⟨l,rfl,e⟩:=ih r2
   exact ⟨(x,t) :: l,rfl,by rw [List.map_cons,e]⟩
noncomputable def rJoin:V->List V->Hp->VK->Prop:=fun x vs H Q=>∃ (sep:Str) (a:Addr) (ws:List Str),x = .str sep/\vs=[.ref a]/\H a=some (.lst (ws.map V.str))/\JoinOk sep ws=true/\Q (.str (Txt.join sep ws)) H
theorem zku:MtR X "str.join" rJoin:=by
 intro pins s σ H x xs v us Q I rx rv h
 obtain ⟨sep,a,ws,rfl,rfl,hH,ok,q⟩:=h
 obtain ⟨t,rfl⟩:=rx
 obtain ⟨u,rfl,ru⟩:=rv.one
 cases ru
 obtain ⟨its,r,pl,_⟩:=I.list (SqL.of hH)
 obtain ⟨l,rfl,e⟩:=zju r
 exact PySem.SC.join pl.isList e ok fun t' k=>⟨.str (Txt.join sep ws),H,I.kept (t':=k) fun b o q=>q,⟨t',rfl⟩,q⟩
noncomputable def ipS:TIp:=fun x y H Q=>∃ a b,x = .str a/\y = .str b/\a.length + b.length<=sizeLine/\Q (.str (a ++ b)) H
theorem zn2:PIp X .Add ipS:=by
 intro pins s σ H x y v u Q I rx ry h
 obtain ⟨a,b,rfl,rfl,hz,q⟩:=h
 obtain ⟨t,rfl⟩:=rx
 obtain ⟨t2,rfl⟩:=ry
 exact PySem.SB.iadd (fun t' k=>⟨.str (a ++ b),H,I.kept (t':=k) fun b o q=>q,⟨t',rfl⟩,q⟩) hz
theorem zmk {g:TG}{tb:TS}{D:Ends}{σ:St}{H:Hp}{z:Str}(Pv:Nat->St->Hp->Prop)(h0:Pv 0 σ H)
  (hs:∀ i c σ H,z.cps[i]?=some c->Pv i σ H->g (.str ⟨#[c]⟩) σ H fun σ2 H2=>tb { D with nx:=Pv (i + 1),ct:=Pv (i + 1),bk:=D.nx } σ2 H2) (hd:∀ σ H,Pv z.cps.size σ H->D.nx σ H):ForB (Itx z) g tb D σ H:=by
 refine ⟨fun i m σ H=>m=z.cps.size - i/\i<=z.cps.size/\Pv i σ H,⟨z.cps.size,by simp,Nat.zero_le _,h0⟩,?_⟩
 rintro i m σ H ⟨rfl,hi,p⟩
 by_cases c:i < z.cps.size
 ·refine .inr ⟨c,Pv (i + 1),fun σ' H' p'=>⟨z.cps.size - (i + 1),by omega,rfl,c,p'⟩,?_⟩
  rintro x H' ⟨rfl,ch,hc,rfl⟩
  exact hs i ch σ H' hc p
 ·obtain rfl:i=z.cps.size:=by omega
  exact .inl ⟨rfl,hd _ _ p⟩
noncomputable def rRevL:V->Option Int->Option Int->Option Int->Hp->VK->Prop:=fun x lo hi st H Q=>lo=none/\hi=none/\st=some (-1)/\∃ a xs,x = .ref a/\H a=some (.lst xs)/\∀ p,H p=none->Q (.ref p) (upd H p (.lst xs.reverse))
theorem zlH (its:List Value):(List.range its.length).filterMap (fun m=>its.toArray[its.length - 1 - m]?)=its.reverse:=by
 have e:(List.range its.length).filterMap (fun m=>its.toArray[its.length - 1 - m]?)=((List.range its.length).map (its.length - 1 - ·)).filterMap (fun j=>its.toArray[j]?):=by rw [List.filterMap_map];rfl
 have e2:(List.range its.length).map (its.length - 1 - ·)=(List.range its.length).reverse:=by
  apply List.ext_getElem
  ·simp
  ·intro i h1 h2
   simp
 rw [e,e2,List.filterMap_reverse]
 have r:=pick_run its.toArray 0 its.length
 simp only [Nat.zero_add,List.drop_zero,List.map_id'] at r
 rw [r]
 simp
theorem zlL (its:List Value):slicePick its.toArray none none (some (-1))=its.reverse.toArray:=by
 unfold slicePick
 rw [List.size_toArray]
 have e:sliceBounds none none (some (-1)) its.length=((its.length:Int) - 1,-1,-1):=by
  simp only [sliceBounds,Option.getD_some]
  refine Prod.ext ?_ (Prod.ext ?_ rfl)
  ·simp
  ·simp
 rw [e]
 have e2:sliceRange ((its.length:Int) - 1) (-1) (-1)=(List.range its.length).map fun m=>its.length - 1 - m:=by
  unfold sliceRange
  have c:(if (-1:Int) > 0 then (if (its.length:Int) - 1 < -1 then (-1 - ((its.length:Int) - 1) + -1 - 1) / -1 else 0) else (if (its.length:Int) - 1 > -1 then ((its.length:Int) - 1 - -1 - -1 - 1) / (- -1) else 0)).toNat=its.length:=by
   rw [if_neg (by decide)]
   split
   ·rw [show (- -1:Int)=1 from rfl,Int.ediv_one];omega
   ·omega
  dsimp only
  rw [c]
  refine List.map_congr_left fun m hm=>?_
  have:=List.mem_range.mp hm
  omega
 dsimp only
 rw [e2,List.filterMap_map]
 exact congrArg List.toArray (zlH its)
theorem zoB:Sl3R X rRevL:=by
 intro pins s σ H x v vl vu vt lo hi st sl Q I rx hs pl pu pt h
 obtain ⟨rfl,rfl,rfl,a,xs,rfl,ha,q⟩:=h
 cases rx
 obtain ⟨its,r,hl,hz⟩:=I.list (SqL.of ha)
 refine ⟨"list",_,slot_list_getitem.lookup,hl.isList.typeIs,?_⟩
 have hlen:=r.length
 refine wpAny_getItem_list_slice hl.isList hs pl pu pt (by decide) ?_ (by rw [List.size_toArray] <;> omega)
 rw [zlL]
 refine ⟨.ref s.heap.objs.size,_,I.laid (t':=s.toks) (o:=.lst xs.reverse) (fun b ob q=>Heap.get?_push_of_some _ q) (Nat.le_refl _) ?_,rfl,q _ (I.hok.fresh (Nat.le_refl _))⟩
 exact ⟨by rw [List.length_reverse];exact hz,_,0,r.reverse,Heap.get?_push_size _ rfl⟩
end
noncomputable def OwnG (P:Program)(w:World)(K:PySem.W.Frag)(mg:Str->Option Value)(base:Heap)(CX:CXT)(k:Nat)(x:Str)(sp:Sp):Prop :=
 ∃ f fd ps,FnOkG P w K mg base CX k f fd ps sp/\mg x=some (.ref f)/\PySem.W.keepIn K (.ref f)=true/\Binds K fd ps []
section
variable {X:Cx}{CX:CXT}{k:Nat}{sp:Sp}{E:XK}{x:Str}{p pos:Pos}{e:Expr}{es:List Expr}{t:TA}
theorem zj8 (O:OwnG X.prog X.w X.K X.mg X.base CX k x sp)(hG:X.A.guards=some [])(hr:Room k X.A)(hx:Passes CX X E)(hg:Gl X x)(ha:PA X (e :: es) t)(hdb:(x == ("__debug__" : Str))=false:=by decide)
  (he:starEach (e :: es) X.env=(false,eval e X.env) :: starEach es X.env:=by rfl) (hpl:(backTo pos (starEach es X.env)).any (·.1)=false:=by rfl):PE X (.Call (.Name x p) (e :: es) [] pos) (tCall sp [] E t):=by
 obtain ⟨f,fd,ps,F,hm,hk,hb⟩:=O
 intro pins s σ H Q I h
 refine wpAny_Call_Name_kw (zc8 I hg hm ?_ hdb)
 refine PySem.W.callWith_K (h₀:=X.base) I.ok.mod.kin hk (thn (ha pos pins s σ H _ I h) fun us s1 ⟨vs,H1,I1,r,q⟩=>⟨I1.kIn,?_⟩) he hpl
 have hl:(us ++ []).length=ps.length:=by rw [List.append_nil,← r.length,← List.append_nil vs];exact F.len _ _ _ _ q
 have r2:Vals (vs ++ []) (us ++ []):=r.append .nil
 refine wpAny_call (codeAny_mono (F.run X.A X.stack s1 H1 ⟨us,[]⟩ (us ++ []) (vs ++ []) Q E hG hr I1.env0 (hb s1 us I1.kIn hl) r2 q) fun r s' hq=>?_)
 cases r with
 | error e=>exact hx pins σ H1 s1 e s' I1 hq
 | ok fl =>
  cases fl with
  | ret u=>exact I1.after hq
  | next=>exact False.elim hq
  | brk=>exact False.elim hq
  | cont=>exact False.elim hq
end
end L2
namespace Lw
open PySem L2
mutual
/-- a term's text -/
noncomputable def wrL:D->List Nat
 | .str x=>x.cps.toList
 | .tup (.str n :: ds)=>n.cps.toList ++ 40 :: wrJ ds
 | .lst (.str n :: ds)=>n.cps.toList ++ 40 :: wrJ ds
 | _=>[]
/-- the parts' texts,what parts them,and the last bracket -/
noncomputable def wrJ:List D->List Nat
 | []=>[41]
 | [d]=>wrL d ++ [41]
 | d :: e :: r=>wrL d ++ 44 :: wrJ (e :: r)
end
noncomputable def wrS (d:D):Str:=⟨(wrL d).toArray⟩
noncomputable def itr:List D->List D
 | []=>[.str ⟨#[41]⟩]
 | [d]=>[d,.str ⟨#[41]⟩]
 | d :: e :: r=>d :: .str ⟨#[44]⟩ :: itr (e :: r)
noncomputable def wrs (ds:List D):List Nat:=ds.flatMap wrL
theorem zjp:∀ ds:List D,wrs (itr ds)=wrJ ds
 | []=>rfl
 | [d]=>by rw [itr,wrJ];unfold wrs;simp [wrL]
 | d :: e :: r=>by
  have ih:=zjp (e :: r)
  rw [itr,wrJ,← ih]
  unfold wrs
  simp [wrL]
noncomputable def pcs (n:Str)(ds:List D):List D:=.str n :: .str ⟨#[40]⟩ :: itr ds
theorem zm6 (n:Str)(ds:List D):wrs (pcs n ds)=n.cps.toList ++ 40 :: wrJ ds:=by
 rw [← zjp]
 unfold pcs wrs
 simp [wrL]
mutual
noncomputable def ms:D->Nat
 | .tup (.str _ :: ds)=>4 + mss ds
 | .lst (.str _ :: ds)=>4 + mss ds
 | _=>1
noncomputable def mss:List D->Nat
 | []=>0
 | d :: ds=>ms d + 1 + mss ds
end
theorem zo2:∀ d:D,1<=ms d:=by
 intro d
 unfold ms
 split <;> omega
theorem zkw:∀ ds:List D,ds.length<=mss ds
 | []=>Nat.le_refl _
 | d :: ds=>by
  have h1:=zkw ds
  rw [mss,List.length_cons]
  omega
noncomputable def mS (ds:List D):Nat:=(ds.map ms).sum
theorem zmP:∀ ds:List D,mS (itr ds)<=mss ds + 1
 | []=>by rw [itr,mss];decide
 | [d]=>by
  rw [itr,mss,mss]
  unfold mS
  simp [ms]
 | d :: e :: r=>by
  have ih:=zmP (e :: r)
  rw [itr,mss]
  unfold mS at ih ⊢
  simp only [List.map_cons,List.sum_cons,show ms (D.str ⟨#[44]⟩)=1 from by unfold ms;rfl]
  omega
theorem zo4 (n:Str)(ds:List D):mS (pcs n ds) < 4 + mss ds:=by
 have h:=zmP ds
 unfold pcs mS at *
 simp only [List.map_cons,List.sum_cons,show ms (D.str ⟨#[40]⟩)=1 from by unfold ms;rfl,show ms (D.str n)=1 from by unfold ms;rfl]
 omega
theorem zhd:∀ {ds:List D},ds≠[]->(wrJ ds).length=(ds.map fun d=>(wrL d).length + 1).sum
 | [],h=>absurd rfl h
 | [d],_=>by rw [wrJ];simp
 | d :: e :: r,_=>by
  have ih:=zhd (ds:=e :: r) (by simp)
  rw [wrJ,List.length_append,List.length_cons,ih,List.map_cons (l:=e :: r),List.sum_cons]
  omega
noncomputable def Pl (x:Str):Prop:=x.cps.toList.length<=9/\∀ c ∈ x.cps.toList,c≠40/\c≠41/\c≠44/\c < 128
theorem zkt {x:Str}(h:zcR x):Pl x:=⟨by have:=h.2.1;omega,fun c hc=>by have:=h.2.2 c hc;omega⟩
theorem zm8 {x:Str}(h:zaR x):Pl x:=by
 obtain ⟨l,rfl,h1,h2,h3⟩:=h
 refine ⟨by simp;omega,fun c hc=>?_⟩
 simp only [List.mem_cons] at hc
 rcases hc with rfl | hc
 ·decide
 ·have:=h3 c hc
  unfold isWd at this
  omega
section
variable {fx:List (Str×Int)}{sm:List (Str×Str)}{os:List Str}
theorem zgO (so:SignsOk fx sm){n:Str}{k:Nat}(h:HdOk fx sm n k):Pl n:=by
 refine zkt (so.nm n ?_)
 rcases h with ⟨_,h⟩ | ⟨_,h⟩
 ·exact List.mem_append_left _ (List.mem_map.mpr ⟨_,h,rfl⟩)
 ·exact List.mem_append_right _ h
theorem zfP (so:SignsOk fx sm)(ho:∀ x ∈ os,zaR x){x:Str}(h:IsTm fx sm os (.str x)):Pl x:=by
 unfold IsTm at h
 rcases h with h | h
 ·exact zm8 (ho x h)
 ·exact zkt (so.nm x (List.mem_append_left _ ((zbP fx).subset h)))
theorem zgP {n:Str}{k:Nat}(h:HdOk fx sm n k):0 < k:=by
 rcases h with ⟨h,_⟩ | ⟨h,_⟩ <;> omega
mutual
theorem zjC (so:SignsOk fx sm)(ho:∀ x ∈ os,zaR x):∀ {d:D},IsTm fx sm os d->(wrL d).length + 1<=12 * nds d/\ms d + 1<=6 * nds d
 | .str x,h=>by
  have:=(zfP so ho h).1
  have e:nds (.str x)=1:=by unfold nds;rfl
  have e2:ms (.str x)=1:=by unfold ms;rfl
  have e3:wrL (.str x)=x.cps.toList:=by unfold wrL;rfl
  rw [e,e2,e3]
  omega
 | .tup (.str n :: ds),h=>by
  unfold IsTm at h
  have h1:=(zgO so h.1).1
  have ne:ds≠[]:=fun z=>by have:=zgP h.1;rw [z] at this;exact absurd this (by simp)
  obtain ⟨h2,h3⟩:=zjB so ho h.2
  rw [← zhd ne] at h2
  rw [wrL,ms,nds,List.length_append,List.length_cons]
  omega
 | .lst (.str n :: ds),h=>by
  unfold IsTm at h
  have h1:=(zgO so h.1).1
  have ne:ds≠[]:=fun z=>by have:=zgP h.1;rw [z] at this;exact absurd this (by simp)
  obtain ⟨h2,h3⟩:=zjB so ho h.2
  rw [← zhd ne] at h2
  rw [wrL,ms,nds,List.length_append,List.length_cons]
  omega
 | .non,h | .bl _,h | .int _,h | .tup [],h | .lst [],h | .tup (.non :: _),h | .tup (.bl _ :: _),h | .tup (.int _ :: _),h | .tup (.tup _ :: _),h | .tup (.lst _ :: _),h | .lst (.non :: _),h | .lst (.bl _ :: _),h | .lst (.int _ :: _),h | .lst (.tup _ :: _),h | .lst (.lst _ :: _),h=>by unfold IsTm at h;exact absurd h id
theorem zjB (so:SignsOk fx sm)(ho:∀ x ∈ os,zaR x):∀ {ds:List D},IsTms fx sm os ds->(ds.map fun d=>(wrL d).length + 1).sum<=12 * ndss ds/\mss ds<=6 * ndss ds
 | [],_=>by rw [ndss,mss];simp
 | d :: ds,⟨x,y⟩=>by
  obtain ⟨a,b⟩:=zjC so ho x
  obtain ⟨a',b'⟩:=zjB so ho y
  rw [ndss,mss,List.map_cons,List.sum_cons]
  omega
end
noncomputable def prs1 (c:Nat)(st:List (List D)×D):Option (List (List D)×D) :=
 if c=44∨c=41 then
  match st.1 with
  | []=>none
  | t :: r=>if c=41 then some (r,.tup (t ++ [st.2])) else some ((t ++ [st.2]) :: r,.str ⟨#[]⟩)
 else match st.2 with
  | .str x=>if c=40 then some ([.str x] :: st.1,.str ⟨#[]⟩) else some (st.1,.str ⟨x.cps.push c⟩)
  | _=>none
noncomputable def prs:List Nat->List (List D)×D->Option (List (List D)×D)
 | [],st=>some st
 | c :: r,st=>(prs1 c st).bind (prs r)
theorem zc6:∀ (a b:List Nat) (st:List (List D)×D),prs (a ++ b) st=(prs a st).bind (prs b)
 | [],b,st=>rfl
 | c :: a,b,st=>by
  rw [List.cons_append,prs,prs]
  cases prs1 c st with
  | none=>rfl
  | some st'=>exact zc6 a b st'
theorem zlK {l:List Nat}{i c:Nat}{s0 st e:List (List D)×D}(hc:l[i]?=some c)(pi:prs (l.take i) s0=some st)(pz:prs l s0=some e):∃ st',prs1 c st=some st'/\prs (l.take (i + 1)) s0=some st':=by
 have e1:l.take (i + 1)=l.take i ++ [c]:=by rw [List.take_add_one,hc];rfl
 have e2:l=l.take (i + 1) ++ l.drop (i + 1):=(List.take_append_drop _ _).symm
 have e3:prs (l.take (i + 1)) s0=prs1 c st:=by
  rw [e1,zc6,pi]
  show (prs1 c st).bind (prs [])=_
  cases prs1 c st <;> rfl
 cases h:prs1 c st with
 | none =>
  rw [e2,zc6,e3,h] at pz
  cases pz
 | some st'=>exact ⟨st',rfl,by rw [e3,h]⟩
theorem zie (st:List (List D)):∀ (l:List Nat) (x:Str),(∀ c ∈ l,c≠40/\c≠41/\c≠44)->prs l (st,.str x)=some (st,.str ⟨x.cps ++ l.toArray⟩)
 | [],x,_=>by rw [prs];simp
 | c :: l,x,h=>by
  obtain ⟨h1,h2,h3⟩:=h c List.mem_cons_self
  rw [prs]
  have e:prs1 c (st,.str x)=some (st,.str ⟨x.cps.push c⟩):=by
   unfold prs1
   rw [if_neg (by omega)]
   exact if_neg h1
  rw [e]
  show prs l (st,.str ⟨x.cps.push c⟩)=_
  rw [zie st l _ fun c hc=>h c (List.mem_cons_of_mem _ hc)]
  congr 3
  simp
theorem zhz (st:List (List D))(x:Str)(h:Pl x):prs x.cps.toList (st,.str ⟨#[]⟩)=some (st,.str x):=by
 rw [zie st _ _ fun c hc=>⟨(h.2 c hc).1,(h.2 c hc).2.1,(h.2 c hc).2.2.1⟩]
 simp
mutual
theorem zj0 (so:SignsOk fx sm)(ho:∀ x ∈ os,zaR x)(st:List (List D)):∀ {d:D},IsTm fx sm os d->prs (wrL d) (st,.str ⟨#[]⟩)=some (st,asD false d)
 | .str x,h=>by
  rw [show wrL (.str x)=x.cps.toList by unfold wrL;rfl,zhz st x (zfP so ho h)]
  unfold asD
  rfl
 | .tup (.str n :: ds),h=>by
  unfold IsTm at h
  have ne:ds≠[]:=fun z=>by have:=zgP h.1;rw [z] at this;exact absurd this (by simp)
  rw [wrL,zc6,zhz st n (zgO so h.1),asD]
  show (prs1 40 (st,.str n)).bind (prs (wrJ ds))=_
  have e:prs1 40 (st,.str n)=some ([.str n] :: st,.str ⟨#[]⟩):=by
   unfold prs1
   rw [if_neg (by decide)]
   exact if_pos rfl
  rw [e]
  show prs (wrJ ds) _=_
  rw [zhy so ho st h.2 ne [.str n]]
  rfl
 | .lst (.str n :: ds),h=>by
  unfold IsTm at h
  have ne:ds≠[]:=fun z=>by have:=zgP h.1;rw [z] at this;exact absurd this (by simp)
  rw [wrL,zc6,zhz st n (zgO so h.1),asD]
  show (prs1 40 (st,.str n)).bind (prs (wrJ ds))=_
  have e:prs1 40 (st,.str n)=some ([.str n] :: st,.str ⟨#[]⟩):=by
   unfold prs1
   rw [if_neg (by decide)]
   exact if_pos rfl
  rw [e]
  show prs (wrJ ds) _=_
  rw [zhy so ho st h.2 ne [.str n]]
  rfl
 | .non,h | .bl _,h | .int _,h | .tup [],h | .lst [],h | .tup (.non :: _),h | .tup (.bl _ :: _),h | .tup (.int _ :: _),h | .tup (.tup _ :: _),h | .tup (.lst _ :: _),h | .lst (.non :: _),h | .lst (.bl _ :: _),h | .lst (.int _ :: _),h | .lst (.tup _ :: _),h | .lst (.lst _ :: _),h=>by unfold IsTm at h;exact absurd h id
theorem zhy (so:SignsOk fx sm)(ho:∀ x ∈ os,zaR x)(st:List (List D)):∀ {ds:List D},IsTms fx sm os ds->ds≠[]->∀ t:List D,prs (wrJ ds) (t :: st,.str ⟨#[]⟩)=some (st,.tup (t ++ asDs false ds))
 | [],_,h=>absurd rfl h
 | [d],h,_=>fun t=>by
  rw [wrJ,zc6,zj0 so ho _ h.1,asDs,asDs]
  rfl
 | d :: e :: r,h,_=>fun t=>by
  rw [wrJ,zc6,zj0 so ho _ h.1,asDs]
  show (prs1 44 (t :: st,asD false d)).bind (prs (wrJ (e :: r)))=_
  have q:prs1 44 (t :: st,asD false d)=some ((t ++ [asD false d]) :: st,.str ⟨#[]⟩):=by
   unfold prs1
   rw [if_pos (.inl rfl)]
   exact if_neg (by decide)
  rw [q]
  show prs (wrJ (e :: r)) _=_
  rw [zhy so ho st h.2 (by simp)]
  simp
end
mutual
theorem zm7 (b:Bool):∀ {d:D},IsTm fx sm os d->wrL (asD b d)=wrL d
 | .str x,_=>by unfold asD;rfl
 | .tup (.str n :: ds),h=>by
  unfold IsTm at h
  rw [asD]
  split
  ·rw [wrL,wrL,zf8 b h.2]
  ·rw [wrL,wrL,zf8 b h.2]
 | .lst (.str n :: ds),h=>by
  unfold IsTm at h
  rw [asD]
  split
  ·rw [wrL,wrL,zf8 b h.2]
  ·rw [wrL,wrL,zf8 b h.2]
 | .non,h | .bl _,h | .int _,h | .tup [],h | .lst [],h | .tup (.non :: _),h | .tup (.bl _ :: _),h | .tup (.int _ :: _),h | .tup (.tup _ :: _),h | .tup (.lst _ :: _),h | .lst (.non :: _),h | .lst (.bl _ :: _),h | .lst (.int _ :: _),h | .lst (.tup _ :: _),h | .lst (.lst _ :: _),h=>by unfold IsTm at h;exact absurd h id
theorem zf8 (b:Bool):∀ {ds:List D},IsTms fx sm os ds->wrJ (asDs b ds)=wrJ ds
 | [],_=>rfl
 | [d],h=>by rw [asDs,asDs,wrJ,wrJ,zm7 b h.1]
 | d :: e :: r,h=>by
  have ih:=zf8 b h.2
  rw [asDs] at ih
  rw [asDs,asDs,wrJ,wrJ,zm7 b h.1,ih]
end
end
mutual
noncomputable def Wn:D->Prop
 | .str x=>x.cps.toList.length<=9
 | .tup (.str n :: ds)=>(n.cps.toList.length<=9/\ds≠[])/\Wns ds
 | .lst (.str n :: ds)=>(n.cps.toList.length<=9/\ds≠[])/\Wns ds
 | _=>False
noncomputable def Wns:List D->Prop
 | []=>True
 | d :: ds=>Wn d/\Wns ds
end
theorem zci:∀ {ds:List D},Wns ds ↔ ∀ d ∈ ds,Wn d
 | []=>by simp [Wns]
 | d :: ds=>by rw [Wns,zci (ds:=ds)];simp
theorem zol {d:D}(h:Wn d):(∃ x:Str,d = .str x/\x.cps.toList.length<=9)∨∃ n ds,(d = .tup (.str n :: ds)∨d = .lst (.str n :: ds))/\(n.cps.toList.length<=9/\ds≠[])/\Wns ds:=by
 unfold Wn at h
 split at h
 ·exact .inl ⟨_,rfl,h⟩
 ·exact .inr ⟨_,_,.inl rfl,h⟩
 ·exact .inr ⟨_,_,.inr rfl,h⟩
 ·exact absurd h id
mutual
theorem zos {fx:List (Str×Int)}{sm:List (Str×Str)}{os:List Str}(so:SignsOk fx sm)(ho:∀ x ∈ os,zaR x):∀ {d:D},IsTm fx sm os d->Wn d
 | .str x,h=>by unfold Wn;exact (zfP so ho h).1
 | .tup (.str n :: ds),h=>by
  unfold IsTm at h
  unfold Wn
  exact ⟨⟨(zgO so h.1).1,fun z=>by have:=zgP h.1;rw [z] at this;exact absurd this (by simp)⟩,zjA so ho h.2⟩
 | .lst (.str n :: ds),h=>by
  unfold IsTm at h
  unfold Wn
  exact ⟨⟨(zgO so h.1).1,fun z=>by have:=zgP h.1;rw [z] at this;exact absurd this (by simp)⟩,zjA so ho h.2⟩
 | .non,h | .bl _,h | .int _,h | .tup [],h | .lst [],h | .tup (.non :: _),h | .tup (.bl _ :: _),h | .tup (.int _ :: _),h | .tup (.tup _ :: _),h | .tup (.lst _ :: _),h | .lst (.non :: _),h | .lst (.bl _ :: _),h | .lst (.int _ :: _),h | .lst (.tup _ :: _),h | .lst (.lst _ :: _),h=>by unfold IsTm at h;exact absurd h id
theorem zjA {fx:List (Str×Int)}{sm:List (Str×Str)}{os:List Str}(so:SignsOk fx sm)(ho:∀ x ∈ os,zaR x):∀ {ds:List D},IsTms fx sm os ds->Wns ds
 | [],_=>trivial
 | _ :: _,⟨a,b⟩=>⟨zos so ho a,zjA so ho b⟩
end
theorem zkS:∀ {ds:List D} {d:D},d ∈ itr ds->d ∈ ds∨d = .str ⟨#[41]⟩∨d = .str ⟨#[44]⟩
 | [],d,h=>by rw [itr] at h;exact .inr (.inl (List.mem_singleton.mp h))
 | [e],d,h=>by
  rw [itr] at h
  simp only [List.mem_cons,List.not_mem_nil,or_false] at h ⊢
  rcases h with h | h
  ·exact .inl h
  ·exact .inr (.inl h)
 | e :: f :: r,d,h=>by
  rw [itr] at h
  obtain h | h:=List.mem_cons.mp h
  ·exact .inl (h ▸ List.mem_cons_self)
  ·obtain h | h:=List.mem_cons.mp h
   ·exact .inr (.inr h)
   ·rcases zkS h with h | h
    ·exact .inl (List.mem_cons_of_mem _ h)
    ·exact .inr h
theorem znx {n:Str}{ds:List D}(hn:n.cps.toList.length<=9)(h:Wns ds):Wns (pcs n ds):=by
 refine zci.mpr fun d hd=>?_
 unfold pcs at hd
 obtain rfl | hd:=List.mem_cons.mp hd
 ·unfold Wn;exact hn
 ·obtain rfl | hd:=List.mem_cons.mp hd
  ·unfold Wn;decide
  ·rcases zkS hd with k | rfl | rfl
   ·exact zci.mp h d k
   ·unfold Wn;decide
   ·unfold Wn;decide
theorem zkx:∀ ds:List D,ds.length<=mS ds
 | []=>Nat.le_refl _
 | d :: ds=>by
  have h1:=zkx ds
  have h2:=zo2 d
  unfold mS at h1 ⊢
  rw [List.map_cons,List.sum_cons,List.length_cons]
  omega
theorem zmQ (a b:List D):mS (a ++ b)=mS a + mS b:=by unfold mS;rw [List.map_append,List.sum_append]
theorem zo3 (a:List D):mS a.reverse=mS a:=by unfold mS;rw [List.map_reverse,List.sum_reverse]
theorem zkP:∀ ws:List Str,(Txt.join ⟨#[]⟩ ws).cps.toList=ws.flatMap fun x=>x.cps.toList:=by
 intro ws
 show (Builtin.Str.glued ⟨#[]⟩ ws).cps.toList=_
 rw [StrLaws.glued_eq_join]
 induction ws with
 | nil=>rfl
 | cons x r ih =>
  cases r with
  | nil=>simp [Str.join]
  | cons y r =>
   show (x ++ ⟨#[]⟩ ++ Str.join ⟨#[]⟩ (y :: r)).cps.toList=_
   rw [List.flatMap_cons,← ih,Str.cps_append,Str.cps_append]
   simp
theorem ziw {sep:Str}{ws:List Str}{B:Nat}(h:∀ y ∈ ws,y.length<=B)(hl:ws.length * B + ws.length * sep.length<=16777216):JoinOk sep ws=true:=by
 unfold JoinOk
 rw [StrLaws.joinFits h hl]
 rfl
theorem zkO:∀ {ds:List D},ds≠[]->(Txt.join ⟨#[44]⟩ (ds.map wrS)).cps.toList ++ [41]=wrJ ds:=by
 intro ds
 show ds≠[]->(Builtin.Str.glued ⟨#[44]⟩ (ds.map wrS)).cps.toList ++ [41]=_
 rw [StrLaws.glued_eq_join]
 induction ds with
 | nil=>intro h;exact absurd rfl h
 | cons d r ih =>
  intro _
  cases r with
  | nil=>rw [wrJ];simp [Str.join,wrS]
  | cons e r =>
   have h:=ih (by simp)
   rw [wrJ,← h]
   show ((wrS d) ++ ⟨#[44]⟩ ++ Str.join ⟨#[44]⟩ ((e :: r).map wrS)).cps.toList ++ [41]=_
   rw [Str.cps_append,Str.cps_append]
   simp [wrS]
mutual
theorem zjq {fx:List (Str×Int)}{sm:List (Str×Str)}{os:List Str}(so:SignsOk fx sm)(ho:∀ x ∈ os,zaR x):∀ {d:D},IsTm fx sm os d->∀ c ∈ wrL d,c < 128
 | .str x,h=>fun c hc=>by unfold wrL at hc;exact ((zfP so ho h).2 c hc).2.2.2
 | .tup (.str n :: ds),h=>fun c hc=>by
  unfold IsTm at h
  rw [wrL] at hc
  obtain hc | hc:=List.mem_append.mp hc
  ·exact ((zgO so h.1).2 c hc).2.2.2
  ·obtain rfl | hc:=List.mem_cons.mp hc
   ·decide
   ·exact zhc so ho h.2 c hc
 | .lst (.str n :: ds),h=>fun c hc=>by
  unfold IsTm at h
  rw [wrL] at hc
  obtain hc | hc:=List.mem_append.mp hc
  ·exact ((zgO so h.1).2 c hc).2.2.2
  ·obtain rfl | hc:=List.mem_cons.mp hc
   ·decide
   ·exact zhc so ho h.2 c hc
 | .non,h | .bl _,h | .int _,h | .tup [],h | .lst [],h | .tup (.non :: _),h | .tup (.bl _ :: _),h | .tup (.int _ :: _),h | .tup (.tup _ :: _),h | .tup (.lst _ :: _),h | .lst (.non :: _),h | .lst (.bl _ :: _),h | .lst (.int _ :: _),h | .lst (.tup _ :: _),h | .lst (.lst _ :: _),h=>by unfold IsTm at h;exact absurd h id
theorem zhc {fx:List (Str×Int)}{sm:List (Str×Str)}{os:List Str}(so:SignsOk fx sm)(ho:∀ x ∈ os,zaR x):∀ {ds:List D},IsTms fx sm os ds->∀ c ∈ wrJ ds,c < 128
 | [],_=>fun c hc=>by rw [wrJ] at hc;rw [List.mem_singleton.mp hc];decide
 | [d],h=>fun c hc=>by
  rw [wrJ] at hc
  obtain hc | hc:=List.mem_append.mp hc
  ·exact zjq so ho h.1 c hc
  ·rw [List.mem_singleton.mp hc];decide
 | d :: e :: r,h=>fun c hc=>by
  rw [wrJ] at hc
  obtain hc | hc:=List.mem_append.mp hc
  ·exact zjq so ho h.1 c hc
  ·obtain rfl | hc:=List.mem_cons.mp hc
   ·decide
   ·exact zhc so ho h.2 c hc
end
mutual
theorem zmO {fx:List (Str×Int)}{sm:List (Str×Str)}{os:List Str}(b:Bool):∀ {d:D},IsTm fx sm os d->nds (asD b d)=nds d
 | .str x,_=>by unfold asD;rfl
 | .tup (.str n :: ds),h=>by
  unfold IsTm at h
  rw [asD]
  split
  ·rw [nds,nds,zey b h.2]
  ·rw [nds,nds,zey b h.2]
 | .lst (.str n :: ds),h=>by
  unfold IsTm at h
  rw [asD]
  split
  ·rw [nds,nds,zey b h.2]
  ·rw [nds,nds,zey b h.2]
 | .non,h | .bl _,h | .int _,h | .tup [],h | .lst [],h | .tup (.non :: _),h | .tup (.bl _ :: _),h | .tup (.int _ :: _),h | .tup (.tup _ :: _),h | .tup (.lst _ :: _),h | .lst (.non :: _),h | .lst (.bl _ :: _),h | .lst (.int _ :: _),h | .lst (.tup _ :: _),h | .lst (.lst _ :: _),h=>by unfold IsTm at h;exact absurd h id
theorem zey {fx:List (Str×Int)}{sm:List (Str×Str)}{os:List Str}(b:Bool):∀ {ds:List D},IsTms fx sm os ds->ndss (asDs b ds)=ndss ds
 | [],_=>rfl
 | _ :: _,⟨x,y⟩=>by rw [asDs,ndss,ndss,zmO b x,zey b y]
end
end Lw
namespace Lw
open PySem L2
noncomputable def Shrt (x:Str):Prop:=x.cps.size<=20/\(x.cps.toList.all fun c=>decide (c < 16 ^ 8))=true
theorem ze7 {x:Str}(h:zcR x):Shrt x:=by
 refine ⟨by have:=h.2.1;rw [Array.length_toList] at this;omega,List.all_eq_true.mpr fun c hc=>decide_eq_true ?_⟩
 have:=(h.2.2 c hc).2
 omega
theorem ziO {x:Str}(h:zaR x):Shrt x:=by
 obtain ⟨l,rfl,h1,h2,h3⟩:=h
 refine ⟨by simp;omega,List.all_eq_true.mpr fun c hc=>decide_eq_true ?_⟩
 simp only [List.mem_cons] at hc
 rcases hc with rfl | hc
 ·decide
 ·have:=h3 c hc
  unfold isWd at this
  omega
section
variable {fx:List (Str×Int)}{sm:List (Str×Str)}{os:List Str}
theorem ziy (so:SignsOk fx sm){n:Str}{k:Nat}(h:HdOk fx sm n k):Shrt n:=by
 refine ze7 (so.nm n ?_)
 rcases h with ⟨_,h⟩ | ⟨_,h⟩
 ·exact List.mem_append_left _ (List.mem_map.mpr ⟨_,h,rfl⟩)
 ·exact List.mem_append_right _ h
mutual
theorem zhf (so:SignsOk fx sm)(ho:∀ x ∈ os,zaR x):∀ {d:D},IsTm fx sm os d->Tx d/\(pdOf d).leavesShort 13=true/\(pdOf d).weight + 1<=30 * nds d
 | .str x,h=>by
  have sh:Shrt x:=by
   unfold IsTm at h
   rcases h with h | h
   ·exact ziO (ho x h)
   ·exact ze7 (so.nm x (List.mem_append_left _ ((zbP fx).subset h)))
  unfold Tx pdOf PyData.leavesShort PyData.weight
  refine ⟨trivial,sh.2,?_⟩
  have:=sh.1
  have:nds (.str x)=1:=by unfold nds;rfl
  omega
 | .tup (.str n :: ds),h=>by
  unfold IsTm at h
  obtain ⟨a,b,c⟩:=zfv so ho h.2
  have sh:=ziy so h.1
  have s1:=sh.1
  refine ⟨by unfold Tx Txs;exact ⟨by unfold Tx;trivial,a⟩,?_,?_⟩
  ·unfold pdOf pdsOf PyData.leavesShort PyData.leavesShortAll
   rw [b,Bool.and_true]
   unfold pdOf PyData.leavesShort
   exact sh.2
  ·unfold pdOf pdsOf PyData.weight PyData.weightAll
   rw [nds,show (pdOf (.str n)).weight=n.cps.size by unfold pdOf PyData.weight;rfl]
   omega
 | .lst (.str n :: ds),h=>by
  unfold IsTm at h
  obtain ⟨a,b,c⟩:=zfv so ho h.2
  have sh:=ziy so h.1
  have s1:=sh.1
  refine ⟨by unfold Tx Txs;exact ⟨by unfold Tx;trivial,a⟩,?_,?_⟩
  ·unfold pdOf pdsOf PyData.leavesShort PyData.leavesShortAll
   rw [b,Bool.and_true]
   unfold pdOf PyData.leavesShort
   exact sh.2
  ·unfold pdOf pdsOf PyData.weight PyData.weightAll
   rw [nds,show (pdOf (.str n)).weight=n.cps.size by unfold pdOf PyData.weight;rfl]
   omega
 | .non,h | .bl _,h | .int _,h | .tup [],h | .lst [],h | .tup (.non :: _),h | .tup (.bl _ :: _),h | .tup (.int _ :: _),h | .tup (.tup _ :: _),h | .tup (.lst _ :: _),h | .lst (.non :: _),h | .lst (.bl _ :: _),h | .lst (.int _ :: _),h | .lst (.tup _ :: _),h | .lst (.lst _ :: _),h=>by unfold IsTm at h;exact absurd h id
theorem zfv (so:SignsOk fx sm)(ho:∀ x ∈ os,zaR x):∀ {ds:List D},IsTms fx sm os ds->Txs ds/\PyData.leavesShortAll 13 (pdsOf ds)=true/\PyData.weightAll (pdsOf ds)<=30 * ndss ds
 | [],_=>by unfold Txs pdsOf PyData.leavesShortAll PyData.weightAll ndss;exact ⟨trivial,rfl,Nat.le_refl _⟩
 | d :: ds,⟨x,y⟩=>by
  obtain ⟨a,b,c⟩:=zhf so ho x
  obtain ⟨a',b',c'⟩:=zfv so ho y
  unfold Txs pdsOf PyData.leavesShortAll PyData.weightAll
  refine ⟨⟨a,a'⟩,by rw [b,b'];rfl,?_⟩
  rw [ndss]
  omega
end
theorem zlD (so:SignsOk fx sm)(ho:∀ x ∈ os,zaR x){d:D}(h:IsTm fx sm os d)(n:nds d<=1000):(pdOf d).shown.length<=sizeLine:=by
 obtain ⟨_,b,c⟩:=zhf so ho h
 have h1:=PyData.shown_le 13 (by decide) (pdOf d) b
 refine Nat.le_trans h1 (Nat.le_trans (m:=15 * 30000 + 13) (by omega) (by decide))
end
end Lw
namespace Lw
open PySem L2
section
variable {P:Program}{w:World}{K:PySem.W.Frag}{mg:Str->Option Value}{base:Heap}
noncomputable def itV:List V->List V
 | []=>[.str ⟨#[41]⟩]
 | [v]=>[v,.str ⟨#[41]⟩]
 | v :: w :: r=>v :: .str ⟨#[44]⟩ :: itV (w :: r)
noncomputable def cmV (vs:List V):List V:=vs.flatMap fun v=>[v,.str ⟨#[44]⟩]
theorem zfX:∀ vs:List V,(cmV vs).length=2 * vs.length
 | []=>rfl
 | v :: vs=>by
  have:=zfX vs
  unfold cmV at this ⊢
  rw [List.flatMap_cons,List.length_append,this]
  simp
  omega
theorem zmx (vs:List V)(v:V):cmV (vs ++ [v])=cmV vs ++ [v,.str ⟨#[44]⟩]:=by unfold cmV;simp
theorem zk9:∀ {vs:List V},vs≠[]->(cmV vs).set (2 * vs.length - 1) (.str ⟨#[41]⟩)=itV vs
 | [],h=>absurd rfl h
 | [v],_=>rfl
 | v :: w :: r,_=>by
  have ih:=zk9 (vs:=w :: r) (by simp)
  rw [itV,← ih]
  have e:2 * (v :: w :: r).length - 1=(2 * (w :: r).length - 1) + 1 + 1:=by simp only [List.length_cons];omega
  rw [e]
  rfl
theorem zia {H:Hp}:∀ {ds:List D} {vs:List V},Reps H ds vs->Reps H (itr ds) (itV vs)
 | [],_,e=>by cases (show _=[] from e);exact ⟨_,_,rfl,rfl,rfl⟩
 | [d],_,⟨v,r,e,h,k⟩=>by
  subst e
  cases (show r=[] from k)
  exact ⟨v,_,rfl,h,_,_,rfl,rfl,rfl⟩
 | d :: e :: r,_,⟨v,_,rfl,h,w,q,rfl,k1,k2⟩=>⟨v,_,rfl,h,_,_,rfl,rfl,zia (ds:=e :: r) ⟨w,q,rfl,k1,k2⟩⟩
theorem s40:PySem.Str.ofString "(" = ⟨#[40]⟩:=by decide +kernel
theorem s41:PySem.Str.ofString ")" = ⟨#[41]⟩:=by decide +kernel
theorem s44:PySem.Str.ofString "," = ⟨#[44]⟩:=by decide +kernel
noncomputable def zfy:Sp:=fun vs H Q _=>∃ (n:Str) (ds:List D) (d:D) (v:V) (G:Hp),vs=[v]/\Same G H/\Rep G d v/\(d = .tup (.str n :: ds)∨d = .lst (.str n :: ds))/\ds≠[]/\ds.length<=7000 /\
 ∀ (l:Addr) (ws:List V) (H':Hp),H l=none->Same H H'->H' l=some (.lst ws)->Reps G (pcs n ds) ws->Q (.ref l) H'
theorem ziS {xs:List V}{i:Nat}{x:V}(h:xs[i]?=some x):xs.take (i + 1)=xs.take i ++ [x]:=by rw [List.take_add_one,h];rfl
noncomputable def PcI (v:V)(l:Addr)(n:Str)(vs':List V)(H:Hp)(p1:Addr)(o1:HO)(i:Nat)(σ:St)(H1:Hp):Prop:=∃ o:Option V,σ=[some v,some (.ref l),o]/\Same H H1/\H1 p1=some o1/\H1 l=some (.lst (.str n :: .str ⟨#[40]⟩ :: cmV (vs'.take i)))
theorem zki {f:Addr}{fd:FuncData}(F:Fun K "pieces" "pieces" zcl f fd)(T:Txt mg):FnOk P w K mg base CX0 1 f fd zf5 zfy:=by
 refine F.ok zel (fun vs H Q E h=>?_) (fun cdv A outer s H vs Q E hr h=>?_)
 ·obtain ⟨n,ds,d,v,G,rfl,_⟩:=h
  rfl
 ·obtain ⟨n,ds,d,v,G,rfl,sG,rep,hd,ne,l1000,q⟩:=h
  have hu:=hr.units
  refine ⟨_,(zaf (zap (i:=1) zel.nd rfl (Or.inl rfl) (zaX (zaa (zbg ix_F (pv 0) zah (fun _ _=>rfl)) (zaa zbf zae))))
   (zaf (zb2 PassesOwn.never rfl (zbi K rfl (zcn ze2 (pv 0) (zbH zah) zbT)) (zaC (i:=2) zel.nd rfl (Or.inl rfl)) (zag (zaP (zcB PySem.F.plainAttrs_list PySem.F.slot_list_extend PySem.F.type_list_extend zez (pv 1) (zaa (zaX (zaa (pv 2) (zaa zbf zae))) zae)))))
   (zaf (zgn zbf (zj6 (pv 1) (zj7 zgc zah) zfC))
   (zag (zao (pv 1)))))),?_⟩
  simp only [ziJ]
  clear hr F T hu
  have keep:=And.intro q (And.intro rep (And.intro hd (And.intro ne (And.intro l1000 sG))))
  clear q rep hd ne l1000 sG
  walk_at "rd"
  obtain ⟨q,rep,hd,ne,l1000,sG⟩:=keep
  obtain ⟨va,vs',rfl,hseq,res⟩:∃ va vs',v = .ref va/\SeqV H va (.str n :: vs')/\Reps G ds vs':=by
   rcases hd with rfl | rfl
   ·obtain ⟨a,vs,rfl,ha,_,vs',rfl,e1,r⟩:=rep
    cases e1
    exact ⟨a,vs',rfl,.inr (sG _ _ ha),r⟩
   ·obtain ⟨a,vs,rfl,ha,_,vs',rfl,e1,r⟩:=rep
    cases e1
    exact ⟨a,vs',rfl,.inl (sG _ _ ha),r⟩
  have ix0:ixV H (.ref va) (.int 0)=some (.str n):=by
   rcases hseq with e | e
   ·rw [ixV_l e,atI_zero]
   ·rw [ixV_t e,atI_zero]
  have lv:=Reps.len res
  have nv:vs'≠[]:=fun z=>ne (List.length_eq_zero_iff.mp (by rw [← lv,z];rfl))
  clear rep hd
  rw [s40,s44,s41]
  refine ⟨.str n,ix0,by decide,fun l hl=>⟨va,rfl,_,hseq.same (Same.upd hl),fun _ h=>?_,fun p1 o1 hp1 ho1=>?_⟩⟩
  ·have:=h.1
   simp [HT.sIx] at this
  ·rw [zeI] at ho1
   have s0:Same H (upd (upd H l (.lst [.str n,.str ⟨#[40]⟩])) p1 o1):=(Same.upd hl).trans (Same.upd hp1)
   have np:p1≠l:=fun z=>by rw [z,upd_same] at hp1;cases hp1
   have g0:upd (upd H l (.lst [.str n,.str ⟨#[40]⟩])) p1 o1 l=some (.lst [.str n,.str ⟨#[40]⟩]):=by rw [zac np.symm];exact upd_same
   have g1:upd (upd H l (.lst [.str n,.str ⟨#[40]⟩])) p1 o1 p1=some o1:=upd_same
   have h1:SeqV (upd (upd H l (.lst [.str n,.str ⟨#[40]⟩])) p1 o1) p1 vs':=by rcases ho1 with ⟨rfl,_⟩ | ⟨rfl,_⟩;exact .inl upd_same;exact .inr upd_same
   have n1:H p1=none:=by rw [zac np] at hp1;exact hp1
   generalize upd (upd H l (.lst [.str n,.str ⟨#[40]⟩])) p1 o1=H0 at s0 g0 g1 h1 ⊢
   refine ⟨vs',h1,fun J hJ=>?_⟩
   refine zdD hJ (PcI (.ref va) l n vs' H p1 o1) ⟨none,rfl,s0,g1,by rw [List.take_zero];exact g0⟩ ?_ ?_ ?_
   ·rintro i σ H' _ ⟨_,_,_,e,_⟩
    rw [e,g1]
   ·rintro i x σ H1 hx ⟨o,rfl,sH,e1,el⟩
    have hi:=(List.getElem?_eq_some_iff.mp hx).1
    have keep:=And.intro sH (And.intro e1 (And.intro el hx))
    clear sH e1 el hx q ix0 hseq
    walk_at "rd"
    obtain ⟨sH,e1,el,hx⟩:=keep
    refine ⟨tyL el,by decide,fun p2 hp2=>?_⟩
    have n2l:l≠p2:=zab el hp2
    have n21:p1≠p2:=zab e1 hp2
    refine ⟨l,p2,_,[x,.str ⟨#[44]⟩],rfl,rfl,by rw [zac n2l];exact el,.inl upd_same,Nat.le_trans (m:=15000) (by simp only [List.length_cons,zfX,List.length_take];simp;omega) (by decide),?_⟩
    refine ⟨_,rfl,fun c ob hc=>?_,?_,?_⟩
    ·rw [zac (zab hc hl),zac (zab (sH _ _ hc) hp2)];exact sH _ _ hc
    ·rw [zac np,zac n21];exact e1
    ·rw [upd_same,ziS hx,zmx];rfl
   ·rintro σ H1 ⟨o,rfl,sH,e1,el⟩
    rw [List.take_length] at el
    have keep:=And.intro sH (And.intro e1 el)
    clear sH e1 el ix0 hseq
    have keep2:=q
    clear q
    walk_at "rd"
    obtain ⟨sH,e1,el⟩:=keep
    have hk:1<=vs'.length:=List.length_pos_iff.mpr nv
    refine ⟨2 * vs'.length + 1,?_,?_⟩
    ·unfold ixN
     rw [if_neg (by decide),if_pos (by simp only [zfX];omega)]
     simp only [zfX]
     congr 1
     omega
    ·refine keep2 l _ _ hl (fun c ob hc=>by rw [zac (zab hc hl)];exact sH _ _ hc) upd_same ?_
     have e:(V.str n :: V.str ⟨#[40]⟩ :: cmV vs').set (2 * vs'.length + 1) (.str ⟨#[41]⟩) = .str n :: .str ⟨#[40]⟩ :: itV vs':=by
      rw [← zk9 nv,show 2 * vs'.length + 1=(2 * vs'.length - 1) + 1 + 1 by omega]
      rfl
     rw [e]
     exact ⟨_,_,rfl,rfl,_,_,rfl,rfl,zia res⟩
end
end Lw
namespace Lw
open PySem L2
section
variable {P:Program}{w:World}{K:PySem.W.Frag}{mg:Str->Option Value}{base:Heap}
theorem s00:PySem.Str.ofString "" = ⟨#[]⟩:=by decide +kernel
noncomputable def zhk (K:PySem.W.Frag)(C:Addr):Sp:=fun vs H Q _=>∃ (g:Addr) (fx:List (Str×Int)) (sm:List (Str×Str)) (os:List Str) (d:D) (v:V),vs=[.ref g,v]/\SgAt K C fx sm H g/\Rep H d v/\Trm fx sm os d/\∀ H',Same H H'->Q (.str (wrS d)) H'
noncomputable def WrI (g:Addr)(v:V)(sa t:Addr)(d:D)(H:Hp)(n:Nat)(σ:St)(H2:Hp):Prop:=∃ (ws:List Str) (ts:List D) (us:List V) (o:Option V),σ=[some (.ref g),some v,some (.ref sa),some (.ref t),o]/\H2 sa=some (.lst (ws.map V.str))/\H2 t=some (.lst us)/\Same H H2/\Reps H ts us/\Wns ts /\
 (ws.flatMap fun x=>x.cps.toList) ++ wrs ts.reverse=wrL d/\mS ts=n/\ws.length + n<=ms d/\∀ y ∈ ws,y.length<=9
theorem zlW {f C:Addr}{fd:FuncData}(F:Fun K "write" "write" zc3 f fd)(T:Txt mg)(O_check_term:Own P w K mg base CX0 3 "check_term" (zek K C))(O_pieces:Own P w K mg base CX0 1 "pieces" zfy):FnOk P w K mg base CX0 4 f fd zhY (zhk K C):=by
 refine F.ok zdY (fun vs H Q E h=>?_) (fun cdv A outer s H vs Q E hr h=>?_)
 ·obtain ⟨g,fx,sm,os,d,v,rfl,_⟩:=h
  rfl
 ·obtain ⟨g,fx,sm,os,d,v,rfl,sg,rep,tr,q⟩:=h
  have hu:=hr.units
  refine ⟨_,(zaf (zaP (zan O_check_term (hr.mono (by decide)) pass0 rfl (zaa (pv 0) (zaa (pv 1) zae))))
   (zaf (zap (i:=2) zdY.nd rfl (Or.inl rfl) (zaX zae))
   (zaf (zap (i:=3) zdY.nd rfl (Or.inl rfl) (zaX (zaa (pv 1) zae)))
   (zaf (zdZ PassesOwn.never (zal K rfl (pv 3) (fun _=>rfl)) (zaf (zap (i:=4) zdY.nd rfl (Or.inl rfl) (zgq PySem.F.plainAttrs_list PySem.F.slot_list_pop PySem.F.type_list_pop zgz (pv 3)))
   (zag (zaT (zal K rfl (zaj zai rfl T.n_isinstance rfl (zaa (pv 4) (zaa (zaD (v:=V.ty "str") rfl T.n_str rfl rfl) zae))) (fun _=>rfl)) (zag (zaP (zcB PySem.F.plainAttrs_list PySem.F.slot_list_append PySem.F.type_list_append zbj (pv 2) (zaa (pv 4) zae)))) (zag (zaP (zcB PySem.F.plainAttrs_list PySem.F.slot_list_extend PySem.F.type_list_extend zez (pv 3) (zaa (zew zoB (zan O_pieces (hr.mono (by decide)) pass0 rfl (zaa (pv 4) zae)) zbT zbT (zbH (zj7 zgc zah))) zae))))))))
   (zag (zao (zcB PySem.F.plainAttrs_str PySem.F.slot_str_join PySem.F.type_str_join zku zbf (zaa (pv 2) zae)))))))),?_⟩
  simp only [zlq]
  clear hr F T hu O_check_term O_pieces
  have keep:=And.intro q (And.intro rep (And.intro sg tr))
  clear q rep sg tr
  walk_at "rd"
  obtain ⟨q,rep,sg,tr⟩:=keep
  refine ⟨g,fx,sm,os,d,v,rfl,sg,tr.so,tr.ho,rep,tr.tm,by have:=tr.lv;omega,by have:=tr.dp;omega,tr.nd,fun H1 s1=>?_⟩
  obtain ⟨z1,z2⟩:=zjC tr.so tr.ho tr.tm
  have nd:=tr.nd
  have wn:=zos tr.so tr.ho tr.tm
  refine ⟨by decide,fun sa hsa=>⟨by decide,fun t ht=>?_⟩⟩
  have nst:sa≠t:=zab upd_same ht
  have ht0:H1 t=none:=(Same.upd hsa).free ht
  refine zjs (WrI g v sa t d H1) (ms d) ⟨[],[d],[v],none,rfl,by rw [zac nst];exact upd_same,upd_same,(Same.upd hsa).trans (Same.upd ht),⟨v,[],rfl,Rep.same s1 rep,rfl⟩,⟨wn,trivial⟩,by simp [wrs],by simp [mS],by simp,by simp⟩ ?_
  rintro n σ H2 ⟨ws,ts,us,o,rfl,h1,h2,sH,rt,wt,e,rfl,nle,y9⟩ R hT hF
  rcases List.eq_nil_or_concat ts with rfl | ⟨ts',r,rfl⟩
  ·cases (show us=[] from rt)
   refine ⟨_,rfl,false,.inl ⟨[],SqL.of h2,rfl⟩,hF H2 ?_⟩
   have e2:(Txt.join ⟨#[]⟩ ws)=wrS d:=by
    have h:=zkP ws
    rw [List.reverse_nil,show wrs []=[] from rfl,List.append_nil] at e
    rw [e] at h
    exact Str.ext' (Array.toList_inj.mp (by rw [h];rfl))
   refine ⟨rfl,_,rfl,PySem.Str.ofString "",sa,ws,rfl,rfl,h1,?_,?_⟩
   ·refine ziw (B:=9) y9 ?_
    rw [s00]
    show ws.length * 9 + ws.length * 0<=_
    omega
   ·rw [s00,e2]
    exact q H2 (s1.trans sH)
  ·rw [List.concat_eq_append] at rt wt e nle hT
   obtain ⟨us',u,rfl,rt',ru⟩:=zbS rt
   have wt':Wns ts':=zci.mpr fun x hx=>zci.mp wt x (List.mem_append_left _ hx)
   have wr:Wn r:=zci.mp wt r (List.mem_append_right _ (List.mem_singleton.mpr rfl))
   have keep:=And.intro q (And.intro h1 (And.intro h2 (And.intro sH (And.intro rt' (And.intro ru (And.intro wt' (And.intro wr (And.intro e (And.intro nle (And.intro hsa (And.intro ht0 (And.intro y9 (And.intro nd (And.intro z1 z2))))))))))))))
   refine ⟨_,rfl,true,.inl ⟨_,SqL.of h2,by simp⟩,hT H2 ?_⟩
   clear q h1 h2 sH rt rt' ru wt wt' wr e nle hT hF rep hsa ht ht0 y9 nd z1 z2 tr sg s1 wn
   walk_at "rd"
   obtain ⟨q,h1,h2,sH,rt,ru,wt,wr,e,nle,hsa,ht0,y9,nd,z1,z2⟩:=keep
   rw [List.dropLast_concat]
   rw [List.reverse_append,List.reverse_cons,List.reverse_nil,List.nil_append,List.singleton_append,show wrs (r :: ts'.reverse)=wrL r ++ wrs ts'.reverse from rfl] at e
   rw [zmQ,show mS [r]=ms r by unfold mS;simp] at nle ⊢
   have h3:upd H2 t (.lst us') t=some (.lst us'):=upd_same
   have f3:upd H2 t (.lst us') sa=some (.lst (ws.map V.str)):=by rw [zac nst];exact h1
   have s3:Same H1 (upd H2 t (.lst us')):=fun b o hb=>by rw [zac (zab hb ht0)];exact sH _ _ hb
   refine ⟨tyL h2,u,by simp,?_⟩
   generalize upd H2 t (.lst us')=H3 at h3 f3 s3 ⊢
   rcases zol wr with ⟨x,rfl,hx⟩ | ⟨nm,ds,hd,⟨hnm,nds'⟩,wds⟩
   ·cases (show u = .str x from ru)
    have e1:ms (.str x)=1:=by unfold ms;rfl
    have e2:wrL (.str x)=x.cps.toList:=by unfold wrL;rfl
    rw [e1] at nle ⊢
    refine ⟨true,rfl,?_⟩
    rw [if_pos rfl]
    refine ⟨tyL f3,_,f3,Nat.lt_of_le_of_lt (m:=6000) (by rw [List.length_map];omega) (by decide),mS ts',by omega,ws ++ [x],ts',us',_,rfl,by rw [upd_same,List.map_append];rfl,by rw [zac nst.symm];exact h3,fun b o hb=>by rw [zac (zab hb hsa)];exact s3 _ _ hb,rt,wt,?_,rfl,by simp only [List.length_append,List.length_singleton];omega,fun y hy=>?_⟩
    ·rw [← e,e2]
     simp
    ·obtain hy | hy:=List.mem_append.mp hy
     ·exact y9 y hy
     ·rw [List.mem_singleton.mp hy]
      exact hx
   ·have em:ms r=4 + mss ds:=by rcases hd with rfl | rfl <;> rw [ms]
    have ew:wrL r=nm.cps.toList ++ 40 :: wrJ ds:=by rcases hd with rfl | rfl <;> rw [wrL]
    have hp:=zo4 nm ds
    have lp:=zkx (pcs nm ds)
    have ll:ds.length<=7000:=by
     have:ds.length<=mss ds:=zkw ds
     omega
    have hbb:isV H3 u (.ty "str")=some false:=by
     rcases hd with rfl | rfl
     ·obtain ⟨a,vs,rfl,ha,_⟩:=ru
      exact zdq (s3 _ _ ha)
     ·obtain ⟨a,vs,rfl,ha,_⟩:=ru
      exact zeD (s3 _ _ ha)
    refine ⟨false,hbb,?_⟩
    rw [if_neg (by decide)]
    refine ⟨tyL h3,_,rfl,nm,ds,r,u,H1,rfl,s3,ru,hd,nds',ll,fun l vs4 H4 hl s4 h4 r4=>?_⟩
    refine ⟨1,rfl,-1,rfl,rfl,rfl,rfl,l,vs4,rfl,h4,fun p5 hp5=>?_⟩
    have h34:=s4 _ _ h3
    have nt5:t≠p5:=zab h34 hp5
    have lr:=Reps.len r4
    have lt:=Reps.len rt
    have lm:=zkx ts'
    refine ⟨t,p5,us',vs4.reverse,rfl,rfl,by rw [zac nt5];exact h34,.inl upd_same,Nat.le_trans (m:=20000) (by rw [List.length_reverse];omega) (by decide),?_⟩
    refine ⟨mS ts' + mS (pcs nm ds),by omega,ws,ts' ++ (pcs nm ds).reverse,us' ++ vs4.reverse,_,rfl,?_,upd_same,fun b o hb=>?_,Reps.append rt (Reps.rev r4),zci.mpr fun x hx=>?_,?_,by rw [zmQ,zo3],by omega,y9⟩
    ·rw [zac nst,zac (zab (s4 _ _ f3) hp5)];exact s4 _ _ f3
    ·rw [zac (zab hb ht0),zac (zab (s4 _ _ (s3 _ _ hb)) hp5)];exact s4 _ _ (s3 _ _ hb)
    ·obtain hx | hx:=List.mem_append.mp hx
     ·exact zci.mp wt x hx
     ·exact zci.mp (znx hnm wds) x (List.mem_reverse.mp hx)
    ·rw [← e,ew,List.reverse_append,List.reverse_reverse]
     unfold wrs
     rw [List.flatMap_append]
     have:=zm6 nm ds
     unfold wrs at this
     rw [this]
end
end Lw
namespace Lw
open PySem L2
section
variable {P:Program}{w:World}{K:PySem.W.Frag}{mg:Str->Option Value}{base:Heap}
mutual
noncomputable def Tpl:D->Prop
 | .str _=>True
 | .tup ds=>Tpls ds
 | _=>False
noncomputable def Tpls:List D->Prop
 | []=>True
 | d :: ds=>Tpl d/\Tpls ds
end
mutual
theorem zfF {H H':Hp}(ts:TupS H H'):∀ {d:D} {v:V},Tpl d->Rep H d v->Rep H' d v
 | .str x,v,_,h=>h
 | .tup ds,v,t,⟨a,vs,e,h,r⟩=>by
  unfold Tpl at t
  exact ⟨a,vs,e,ts _ _ h,zcD ts t r⟩
 | .non,_,t,_ | .bl _,_,t,_ | .int _,_,t,_ | .lst _,_,t,_=>by unfold Tpl at t;exact absurd t id
theorem zcD {H H':Hp}(ts:TupS H H'):∀ {ds:List D} {vs:List V},Tpls ds->Reps H ds vs->Reps H' ds vs
 | [],_,_,h=>h
 | d :: ds,_,⟨a,b⟩,⟨v,r,e,h,k⟩=>⟨v,r,e,zfF ts a h,zcD ts b k⟩
end
theorem zec {d:D}(h:Tpl d):∀ {ds:List D},Tpls ds->Tpls (ds ++ [d])
 | [],_=>⟨h,trivial⟩
 | _ :: _,⟨a,b⟩=>⟨a,zec h b⟩
noncomputable def Stk (H:Hp):List (List D)->List Addr->Prop
 | [],[]=>True
 | t :: r,a :: as=>(Tpls t/\∃ vs,H a=some (.lst vs)/\Reps H t vs)/\Stk H r as
 | _,_=>False
theorem Stk.keep {H H':Hp}(ts:TupS H H'):∀ {st:List (List D)} {rs:List Addr},(∀ a ∈ rs,H' a=H a)->Stk H st rs->Stk H' st rs
 | [],[],_,_=>trivial
 | t :: r,a :: as,k,⟨⟨h1,vs,h2,h3⟩,h4⟩=>⟨⟨h1,vs,by rw [k a List.mem_cons_self];exact h2,zcD ts h1 h3⟩,Stk.keep ts (fun b hb=>k b (List.mem_cons_of_mem _ hb)) h4⟩
 | [],_ :: _,_,h=>absurd h id
 | _ :: _,[],_,h=>absurd h id
theorem Stk.mem {H:Hp}{a:Addr}:∀ {st:List (List D)} {rs:List Addr},Stk H st rs->a ∈ rs->∃ vs,H a=some (.lst vs)
 | [],[],_,h=>absurd h (List.not_mem_nil)
 | t :: r,b :: as,⟨⟨_,vs,e,_⟩,k⟩,h=>by
  obtain rfl | h:=List.mem_cons.mp h
  ·exact ⟨vs,e⟩
  ·exact Stk.mem k h
 | [],_ :: _,h,_=>absurd h id
 | _ :: _,[],h,_=>absurd h id
theorem zpi {c:Nat}(h:c < 128):inTx (PySem.Str.ofString ",)") c=decide (c=44∨c=41):=by
 have:∀ c:Fin 128,inTx (PySem.Str.ofString ",)") c.1=decide (c.1=44∨c.1=41):=by decide +kernel
 exact this ⟨c,h⟩
theorem atI_last {α:Type}(xs:List α)(x:α):atI (xs ++ [x]) (-1)=some x:=by
 unfold atI ixN
 rw [if_neg (by decide),if_pos (by simp only [List.length_append,List.length_singleton];omega)]
 simp only [List.length_append,List.length_singleton,Option.bind_some]
 have:(-1 + ((xs.length + 1:Nat):Int)).toNat=xs.length:=by omega
 rw [this]
 simp
noncomputable def spUnb:Sp:=fun vs H Q _=>∃ (z:Str) (e:D),vs=[.str z]/\z.cps.all (· < 128)=true/\z.cps.size<=20000/\prs z.cps.toList ([],.str ⟨#[]⟩)=some ([],e)/\∀ (v':V) (H':Hp),Same H H'->Tpl e->Rep H' e v'->Q v' H'
noncomputable def UnI (z:Str)(ol:Addr)(H:Hp)(i:Nat)(σ:St)(H2:Hp):Prop:=∃ (stk:List (List D)) (lat:D) (rs:List Addr) (v:V) (o:Option V),σ=[some (.str z),some (.ref ol),some v,o]/\prs (z.cps.toList.take i) ([],.str ⟨#[]⟩)=some (stk,lat)/\Same H H2/\H2 ol=some (.lst (rs.reverse.map V.ref)) /\
 Stk H2 stk rs/\rs.Nodup/\ol ∉ rs/\(∀ r ∈ rs,H r=none)/\Tpl lat/\Rep H2 lat v/\rs.length<=i/\(∀ t ∈ stk,t.length<=i + 1)/\∀ x:Str,lat = .str x->x.cps.size<=i
theorem zoX {f:Addr}{fd:FuncData}(F:Fun K "unbracketed" "unbracketed" zaY f fd)(T:Txt mg):FnOk P w K mg base CX0 1 f fd zcp spUnb:=by
 refine F.ok zaN (fun vs H Q E h=>?_) (fun cdv A outer s H vs Q E hr h=>?_)
 ·obtain ⟨z,e,rfl,_⟩:=h
  rfl
 ·obtain ⟨z,e,rfl,asc,z20,pz,q⟩:=h
  have hu:=hr.units
  refine ⟨_,(zaf (zap (i:=1) zaN.nd rfl (Or.inl rfl) (zaX zae))
   (zaf (zap (i:=2) zaN.nd rfl (Or.inl rfl) zbf)
   (zaf (zb2 PassesOwn.never rfl (zj4 (pv 0)) (zaC (i:=3) zaN.nd rfl (Or.inl rfl)) (zag (zaT (zas zdm (pv 3) zbf (by with_unfolding_all rfl)) (zaf (zaT (za4 (zal K rfl (pv 1) (fun _=>rfl))) (zag (zao zex)) zaq)
   (zaf (zaP (zcB PySem.F.plainAttrs_list PySem.F.slot_list_append PySem.F.type_list_append zbj (zbg ix_F (pv 1) (zj7 zgc zah) (fun _ _=>rfl)) (zaa (pv 2) zae)))
   (zag (zap (i:=2) zaN.nd rfl (Or.inl rfl) (zdk (zas (zbr hu) (pv 3) zbf (nomark _)) (zaU zbz rfl T.n_tuple rfl (zaa (zgq PySem.F.plainAttrs_list PySem.F.slot_list_pop PySem.F.type_list_pop zgz (pv 1)) zae)) zbf))))) (zag (zaT (za4 (zal K rfl (zaj zai rfl T.n_isinstance rfl (zaa (pv 2) (zaa (zaD (v:=V.ty "str") rfl T.n_str rfl rfl) zae))) (fun _=>rfl))) (zag (zao zex)) (zag (zaT (zas (zbr hu) (pv 3) zbf (nomark _)) (zaf (zaP (zcB PySem.F.plainAttrs_list PySem.F.slot_list_append PySem.F.type_list_append zbj (pv 1) (zaa (zaX (zaa (pv 2) zae)) zae)))
   (zag (zap (i:=2) zaN.nd rfl (Or.inl rfl) zbf))) (zag (zoH (i:=2) zaN.nd rfl (Or.inl rfl) (pv 3) zn2)))))))))
   (zag (zao (zdk (zal K rfl (pv 1) (fun _=>rfl)) zex (pv 2))))))),?_⟩
  simp only [zdx]
  clear hr F T hu
  have keep:=And.intro q (And.intro asc (And.intro z20 pz))
  clear q asc z20 pz
  walk_at "rd"
  obtain ⟨q,asc,z20,pz⟩:=keep
  refine ⟨by decide,fun ol hol=>?_⟩
  simp only [iTxt,tVar]
  refine ⟨_,rfl,z,rfl,asc,?_⟩
  refine zmk (UnI z ol H) ⟨[],.str ⟨#[]⟩,[],_,none,rfl,rfl,Same.upd hol,upd_same,trivial,List.nodup_nil,by simp,by simp,by unfold Tpl;trivial,s00 ▸ rfl,by simp,by simp,by intro x hx;cases hx;simp⟩ ?_ ?_
  ·rintro i c σ H2 hc ⟨stk,lat,rs,v,o,rfl,pi,sH,eo,sk,nd,no,fr,tl,rl,l1,l2,l3⟩
   have keep:=And.intro pi (And.intro sH (And.intro eo (And.intro sk (And.intro nd (And.intro no (And.intro fr (And.intro tl (And.intro rl (And.intro l1 (And.intro l2 (And.intro l3 hc)))))))))))
   clear pi sH eo sk nd no fr tl rl l1 l2 l3 hc
   have keep2:=And.intro q (And.intro asc (And.intro z20 pz))
   clear q asc z20 pz
   simp only [tAug]
   walk_at "rd"
   obtain ⟨q,asc,z20,pz⟩:=keep2
   obtain ⟨pi,sH,eo,sk,nd,no,fr,tl,rl,l1,l2,l3,hc⟩:=keep
   have cc:c < 128:=by
    have h:=Array.all_eq_true.mp asc
    obtain ⟨hi,e1⟩:=Array.getElem?_eq_some_iff.mp hc
    have:=h i hi
    rw [e1] at this
    exact of_decide_eq_true this
   have hi:i < z.cps.size:=(Array.getElem?_eq_some_iff.mp hc).1
   obtain ⟨st',hs,pi'⟩:=zlK (by rw [Array.getElem?_toList];exact hc) pi pz
   have hin:=zpi cc
   unfold inTx at hin
   rw [Bool.not_eq_eq_eq_not] at hin
   refine ⟨decide (c=44∨c=41),hin,?_⟩
   by_cases sep:c=44∨c=41
   ·rw [decide_eq_true sep,if_pos rfl]
    unfold prs1 at hs
    rw [if_pos sep] at hs
    cases stk with
    | nil=>cases hs
    | cons t r =>
     cases rs with
     | nil=>exact absurd sk id
     | cons a as =>
      obtain ⟨⟨ht,vs,ha,hv⟩,sr⟩:=sk
      have er:(a :: as).reverse.map V.ref=as.reverse.map V.ref ++ [.ref a]:=by simp
      rw [er] at eo ⊢
      have noa:ol≠a:=fun z=>no (z ▸ List.mem_cons_self)
      have lt1:=l2 t List.mem_cons_self
      have lv:=Reps.len hv
      refine ⟨true,.inl ⟨_,SqL.of eo,by simp⟩,?_⟩
      rw [if_neg (by decide)]
      refine ⟨_,atI_last _ _,tyL ha,a,rfl,vs,ha,Nat.lt_of_le_of_lt (m:=20005) (by omega) (by decide),?_⟩
      have g1:upd H2 a (.lst (vs ++ [v])) ol=some (.lst (as.reverse.map V.ref ++ [.ref a])):=by rw [zac noa];exact eo
      have ts1:TupS H2 (upd H2 a (.lst (vs ++ [v]))):=TupS.lst ha
      have fra:=fr a List.mem_cons_self
      have s1:Same H (upd H2 a (.lst (vs ++ [v]))):=fun b ob hb=>by rw [zac (zab hb fra)];exact sH _ _ hb
      have na:a ∉ as:=(List.nodup_cons.mp nd).1
      have ea:upd H2 a (.lst (vs ++ [v])) a=some (.lst (vs ++ [v])):=upd_same
      have hv1:=zcD ts1 ht hv
      have rl1:=zfF ts1 tl rl
      have sr1:Stk (upd H2 a (.lst (vs ++ [v]))) r as:=Stk.keep ts1 (fun b hb=>zac (fun z=>na (z ▸ hb))) sr
      generalize upd H2 a (.lst (vs ++ [v]))=H3 at g1 s1 ea hv1 rl1 sr1 ⊢
      by_cases c41:c=41
      ·subst c41
       have hs:some (r,D.tup (t ++ [lat]))=some st':=hs
       cases hs
       rw [if_pos s41.symm]
       refine ⟨tyL g1,_,g1,.ref a,by simp,a,rfl,vs ++ [v],.inl (by rw [zac noa.symm];exact ea),fun l1' H' hH=>?_⟩
       rw [List.dropLast_concat] at hH
       have ts2:TupS H3 (upd H3 ol (.lst (as.reverse.map V.ref))):=TupS.lst g1
       rcases hH with ⟨h,_⟩ | ⟨_,hfr,rfl⟩
       ·rw [zac noa.symm,ea] at h;cases h
       ·have nl:ol≠l1':=zab upd_same hfr
        have ts3:TupS (upd H3 ol (.lst (as.reverse.map V.ref))) (upd (upd H3 ol (.lst (as.reverse.map V.ref))) l1' (.tup (vs ++ [v]))):=TupS.of (Same.upd hfr)
        have ts4:=ts2.trans ts3
        refine ⟨r,.tup (t ++ [lat]),as,_,_,rfl,pi',fun b ob hb=>?_,?_,Stk.keep ts4 (fun b hb=>?_) sr1,(List.nodup_cons.mp nd).2,fun hm=>no (List.mem_cons_of_mem _ hm),fun b hb=>fr b (List.mem_cons_of_mem _ hb),by unfold Tpl;exact zec tl ht,⟨l1',vs ++ [v],rfl,upd_same,Reps.snoc (zfF ts4 tl rl1) (zcD ts4 ht hv1)⟩,by simp only [List.length_cons] at l1;omega,fun t' ht'=>by have:=l2 t' (List.mem_cons_of_mem _ ht');omega,fun x hx=>by cases hx⟩
        ·have h3:=s1 _ _ hb
         rw [zac (fun z=>by rw [← z,zac (zab hb hol),h3] at hfr;cases hfr),zac (zab hb hol)]
         exact h3
        ·rw [zac nl,upd_same]
        ·have nb:b≠ol:=fun z=>no (z ▸ List.mem_cons_of_mem _ hb)
         obtain ⟨ys,hy⟩:=sr1.mem hb
         rw [zac (fun z=>by rw [← z,zac nb,hy] at hfr;cases hfr),zac nb]
      ·have c44:c=44:=by omega
       subst c44
       have hs:some ((t ++ [lat]) :: r,D.str ⟨#[]⟩)=some st':=hs
       cases hs
       rw [if_neg (by rw [s41];intro h;cases h)]
       refine ⟨(t ++ [lat]) :: r,.str ⟨#[]⟩,a :: as,_,_,rfl,pi',s1,by rw [er];exact g1,⟨⟨zec tl ht,vs ++ [v],ea,Reps.snoc rl1 hv1⟩,sr1⟩,nd,no,fr,by unfold Tpl;trivial,s00 ▸ rfl,by omega,fun t' ht'=>?_,fun x hx=>by cases hx;simp⟩
       rcases List.mem_cons.mp ht' with rfl | ht'
       ·simp only [List.length_append,List.length_singleton];omega
       ·have:=l2 t' (List.mem_cons_of_mem _ ht');omega
   ·rw [decide_eq_false sep,if_neg (by decide)]
    unfold prs1 at hs
    rw [if_neg sep] at hs
    cases lat with
    | str x =>
     cases (show v = .str x from rl)
     have lx:=l3 x rfl
     refine ⟨true,rfl,?_⟩
     rw [if_neg (by decide)]
     by_cases c40:c=40
     ·subst c40
      rw [if_pos s40.symm]
      have hs:some ([D.str x] :: stk,D.str ⟨#[]⟩)=some st':=hs
      cases hs
      refine ⟨tyL eo,by decide,fun p hp=>⟨_,by rw [zac (zab eo hp)];exact eo,Nat.lt_of_le_of_lt (m:=20005) (by rw [List.length_map,List.length_reverse];omega) (by decide),?_⟩⟩
      have npo:ol≠p:=zab eo hp
      have hH:H p=none:=sH.free hp
      have ts2:TupS H2 (upd H2 p (.lst [.str x])):=TupS.of (Same.upd hp)
      have g1:upd H2 p (.lst [.str x]) ol=some (.lst (rs.reverse.map V.ref)):=by rw [zac npo];exact eo
      have ts3:=ts2.trans (TupS.lst (o:=.lst (rs.reverse.map V.ref ++ [.ref p])) g1)
      refine ⟨[.str x] :: stk,.str ⟨#[]⟩,p :: rs,_,_,rfl,pi',fun b ob hb=>?_,?_,⟨⟨⟨by unfold Tpl;trivial,trivial⟩,[.str x],?_,⟨_,_,rfl,rfl,rfl⟩⟩,Stk.keep ts3 (fun b hb=>?_) sk⟩,?_,?_,?_,by unfold Tpl;trivial,s00 ▸ rfl,by simp only [List.length_cons];omega,fun t' ht'=>?_,fun y hy=>by cases hy;simp⟩
      ·rw [zac (zab hb hol),zac (zab hb hH)];exact sH _ _ hb
      ·rw [upd_same,List.reverse_cons,List.map_append];rfl
      ·rw [zac npo.symm];exact upd_same
      ·obtain ⟨ys,hy⟩:=sk.mem hb
       rw [zac (show b≠ol from fun z=>no (z ▸ hb)),zac (zab hy hp)]
      ·refine List.nodup_cons.mpr ⟨fun hm=>?_,nd⟩
       obtain ⟨ys,hy⟩:=sk.mem hm
       rw [hp] at hy;cases hy
      ·intro hm
       obtain h | h:=List.mem_cons.mp hm
       ·exact npo h
       ·exact no h
      ·intro b hb
       obtain rfl | h:=List.mem_cons.mp hb
       ·exact hH
       ·exact fr b h
      ·rcases List.mem_cons.mp ht' with rfl | ht'
       ·simp
       ·have:=l2 t' ht';omega
     ·rw [if_neg (fun h=>c40 (by rw [s40] at h;injection h with h;injection h with h;injection h))]
      have hs:some (stk,D.str ⟨x.cps.push c⟩)=some st':=(if_neg c40).symm.trans hs
      cases hs
      refine ⟨.str x,rfl,_,rfl,x,⟨#[c]⟩,rfl,rfl,Nat.le_trans (m:=20005) (by show x.cps.size + 1<=_;omega) (by decide),?_⟩
      refine ⟨stk,.str ⟨x.cps.push c⟩,rs,_,_,rfl,pi',sH,eo,sk,nd,no,fr,by unfold Tpl;trivial,?_,by omega,fun t' ht'=>by have:=l2 t' ht';omega,fun y hy=>by cases hy;simp;omega⟩
      show V.str (x ++ ⟨#[c]⟩)=V.str _
      exact congrArg V.str (Str.ext' (by rw [Str.cps_append];rfl))
    | _=>cases hs
  ·rintro σ H2 ⟨stk,lat,rs,v,o,rfl,pi,sH,eo,sk,nd,no,fr,tl,rl,l1,l2,l3⟩
   rw [List.take_of_length_le (by rw [Array.length_toList];exact Nat.le_refl _),pz] at pi
   cases pi
   cases rs with
   | cons a as=>exact absurd sk id
   | nil =>
    refine ⟨_,rfl,false,.inl ⟨_,SqL.of eo,rfl⟩,?_⟩
    show if false=true then _ else _
    rw [if_neg (by decide)]
    exact ⟨_,rfl,q v H2 sH tl rl⟩
end
end Lw
namespace Lw
open PySem L2
section
variable {P:Program}{w:World}{K:PySem.W.Frag}{mg:Str->Option Value}{base:Heap}
noncomputable def zfA (K:PySem.W.Frag)(C:Addr):Sp:=fun vs H Q _=>∃ (g:Addr) (fx:List (Str×Int)) (sm:List (Str×Str)) (os:List Str) (d:D) (v:V),vs=[.ref g,v]/\SgAt K C fx sm H g/\Rep H d v/\Trm fx sm os d/\∀ H',Same H H'->Q (.bl true) H'
theorem zkl {f C CT:Addr}{fd:FuncData}(F:Fun K "is_term" "is_term" zbR f fd)(T:Txt mg)(hm_NoTerm:mg "NoTerm" = some (.ref CT))(hx_NoTerm:ExcIn K CT)(O_check_term:Own P w K mg base CX0 3 "check_term" (zek K C)):FnOk P w K mg base CX0 4 f fd zeP (zfA K C):=by
 refine F.ok ziV (fun vs H Q E h=>?_) (fun cdv A outer s H vs Q E hr h=>?_)
 ·obtain ⟨g,fx,sm,os,d,v,rfl,_⟩:=h
  rfl
 ·obtain ⟨g,fx,sm,os,d,v,rfl,sg,rep,tr,q⟩:=h
  have hu:=hr.units
  let EX:XK:=fun _ _ _=>False
  have hEX:∀ cls d H',EX cls d H'->cls = .ref CT:=fun cls d H' z=>False.elim z
  refine ⟨_,(zaf (zoG EX ⟨rfl,rfl⟩ rfl hm_NoTerm hx_NoTerm hEX (fun pn Ew hP=>(zag (zaP (zan O_check_term (hr.mono (by decide)) pass0 rfl (zaa (pv 0) (zaa (pv 1) zae)))))) (fun e=>(zag (zao zgr))))
   (zag (zao zgr))),?_⟩
  simp only [zha]
  clear hr F T hu O_check_term hEX
  have keep:=And.intro q (And.intro rep (And.intro sg tr))
  clear q rep sg tr
  walk_at "rd"
  obtain ⟨q,rep,sg,tr⟩:=keep
  refine ⟨?_,fun _ _ _ _ z=>False.elim z⟩
  refine ⟨g,fx,sm,os,d,v,rfl,sg,tr.so,tr.ho,rep,tr.tm,by have:=tr.lv;omega,by have:=tr.dp;omega,tr.nd,fun H1 s1=>q H1 s1⟩
noncomputable def zjM (K:PySem.W.Frag)(C:Addr):Sp:=fun vs H Q _=>∃ (g:Addr) (fx:List (Str×Int)) (sm:List (Str×Str)) (os:List Str) (d:D),vs=[.ref g,.str (wrS d)]/\SgAt K C fx sm H g/\Trm fx sm os d/\∀ (v':V) (H':Hp),Same H H'->Rep H' (asD false d) v'->Q v' H'
theorem zly {fx:List (Str×Int)}{sm:List (Str×Str)}{os:List Str}(so:SignsOk fx sm)(ho:∀ x ∈ os,zaR x){d:D}(h:IsTm fx sm os d):(wrS d).cps.all (· < 128)=true:=by
 unfold wrS
 rw [← Array.all_toList,List.toList_toArray]
 exact List.all_eq_true.mpr fun c hc=>decide_eq_true (zjq so ho h c hc)
theorem zmF {fx:List (Str×Int)}{sm:List (Str×Str)}{os:List Str}{d:D}(b:Bool)(t:Trm fx sm os d):Trm fx sm os (asD b d):=by
 obtain ⟨_,h2,h3,h4⟩:=zhX b t.tm
 exact ⟨t.so,t.ho,h2,by rw [h3];exact t.lv,by rw [zmO b t.tm];exact t.nd,by rw [h4];exact t.dp⟩
theorem znM {f C:Addr}{fd:FuncData}(F:Fun K "read" "read" zeq f fd)(T:Txt mg)(O_unbracketed:Own P w K mg base CX0 1 "unbracketed" spUnb)(O_is_term:Own P w K mg base CX0 4 "is_term" (zfA K C)):FnOk P w K mg base CX0 5 f fd zlo (zjM K C):=by
 refine F.ok zjW (fun vs H Q E h=>?_) (fun cdv A outer s H vs Q E hr h=>?_)
 ·obtain ⟨g,fx,sm,os,d,rfl,_⟩:=h
  rfl
 ·obtain ⟨g,fx,sm,os,d,rfl,sg,tr,q⟩:=h
  have hu:=hr.units
  refine ⟨_,(zaf (zaT (za4 (zal K rfl (zaj zai rfl T.n_isinstance rfl (zaa (pv 1) (zaa (zaD (v:=V.ty "str") rfl T.n_str rfl rfl) zae))) (fun _=>rfl))) (zag zbp) zaq)
   (zaf (zap (i:=2) zjW.nd rfl (Or.inl rfl) (zan O_unbracketed (hr.mono (by decide)) pass0 rfl (zaa (pv 1) zae)))
   (zaf (zaT (za4 (zal K rfl (zan O_is_term (hr.mono (by decide)) pass0 rfl (zaa (pv 0) (zaa (pv 2) zae))) (fun _=>rfl))) (zag zbp) zaq)
   (zag (zao (pv 2)))))),?_⟩
  simp only [zm1]
  clear hr F T hu O_unbracketed O_is_term
  have keep:=And.intro q (And.intro sg tr)
  clear q sg tr
  walk_at "rd"
  obtain ⟨q,sg,tr⟩:=keep
  obtain ⟨z1,z2⟩:=zjC tr.so tr.ho tr.tm
  have nd:=tr.nd
  refine ⟨true,rfl,?_⟩
  rw [if_neg (by decide)]
  refine ⟨wrS d,asD false d,rfl,zly tr.so tr.ho tr.tm,by show (wrL d).toArray.size<=_;rw [List.size_toArray];omega,?_,fun v' H1 s1 tp r1=>?_⟩
  ·show prs (wrL d).toArray.toList _=_
   rw [List.toList_toArray]
   exact zj0 tr.so tr.ho [] tr.tm
  ·refine ⟨g,fx,sm,os,asD false d,v',rfl,sg.same s1,r1,zmF false tr,fun H2 s2=>?_⟩
   refine ⟨true,rfl,?_⟩
   rw [if_neg (by decide)]
   exact q v' H2 (s1.trans s2) (Rep.same s2 r1)
end
end Lw
namespace Lw
open PySem L2
section
variable {P:Program}{w:World}{K:PySem.W.Frag}{mg:Str->Option Value}{base:Heap}
noncomputable def zcd (n:Nat):Sp:=fun vs H Q _=>∃ (fx:List (Str×Int)) (sm:List (Str×Str)) (os:List Str) (d:D) (v:V),vs=[v]/\Rep H d v/\Trm fx sm os d/\depD d<=n/\∀ H',Same H H'->Q (.str (wrS d)) H'
noncomputable def WtI (ds:List D)(H:Hp)(i:Nat)(acc:List V)(σ:St)(H1:Hp):Prop:=∃ o0:Option V,σ=[o0]/\Same H H1/\acc=(ds.take i).map fun d=>V.str (wrS d)
theorem zkq:∀ {ds:List D} {i:Nat} {d:D},ds[i]?=some d->nds d<=ndss ds
 | [],_,_,h=>by simp at h
 | e :: ds,0,d,h=>by
  simp at h
  subst h
  rw [ndss]
  omega
 | e :: ds,i + 1,d,h=>by
  have:=zkq (ds:=ds) (i:=i) (d:=d) (by simpa using h)
  rw [ndss]
  omega
theorem zfu {fx:List (Str×Int)}{sm:List (Str×Str)}{os:List Str}{d e:D}{n:Str}{ds:List D}(t:Trm fx sm os d)(hd:d = .tup (.str n :: ds)∨d = .lst (.str n :: ds))(he:e ∈ ds):Trm fx sm os e/\depD e < depD d:=by
 obtain ⟨i,hi⟩:=List.getElem?_of_mem he
 have h1:=zd8 hi
 have h2:=zhG hi
 have h3:=zkq hi
 have hdp:depD d=depDs ds + 1:=by
  rcases hd with rfl | rfl
  ·rw [depD,depDs,show depD (.str n)=0 from rfl];omega
  ·rw [depD,depDs,show depD (.str n)=0 from rfl];omega
 have hlv:lvs d=lvss ds:=by rcases hd with rfl | rfl <;> rw [lvs]
 have hnd:nds d=1 + ndss ds:=by rcases hd with rfl | rfl <;> rw [nds]
 have tm:IsTms fx sm os ds:=by
  have:=t.tm
  rcases hd with rfl | rfl <;> (unfold IsTm at this;exact this.2)
 have a1:=t.lv
 have a2:=t.nd
 have a3:=t.dp
 exact ⟨⟨t.so,t.ho,zdp tm e he,by omega,by omega,by omega⟩,by omega⟩
theorem zi2 {f:Addr}{fd:FuncData}(n:Nat)(F:Fun K "_law_written" "_law_written" zau f fd)(T:Txt mg)(O__law_written:Own P w K mg base CX0 (n + 1) "_law_written" (fun vs H Q E=>∃ m,m < n/\zcd m vs H Q E)):FnOk P w K mg base CX0 (n + 2) f fd za3 (zcd n):=by
 refine F.ok zen (fun vs H Q E h=>?_) (fun cdv A outer s H vs Q E hr h=>?_)
 ·obtain ⟨fx,sm,os,d,v,rfl,_⟩:=h
  rfl
 ·obtain ⟨fx,sm,os,d,v,rfl,rep,tr,dn,q⟩:=h
  have hu:=hr.units
  refine ⟨_,(zaf (zaT (zal K rfl (zaj zai rfl T.n_isinstance rfl (zaa (pv 0) (zaa (zaD (v:=V.ty "str") rfl T.n_str rfl rfl) zae))) (fun _=>rfl)) (zag (zao (pv 0))) zaq)
   (zag (zao (zaQ zaG (zaQ zaG (zaQ zaG (zbg ix_F (pv 0) zah (fun _ _=>rfl)) zbf) (zcB PySem.F.plainAttrs_str PySem.F.slot_str_join PySem.F.type_str_join zku zbf (zaa (zbV rfl (CompSc.by (N:=zcb) (names:=(zad zau).names) (N':=["_law_part"]) (src:=[none]) (by decide +kernel) rfl rfl) (zbi K rfl (zcn ze2 (pv 0) (zbH zah) zbT)) (fun _ _ _ _=>(zaC (i:=0) (show List.Nodup (["_law_part"]:List Str) by decide +kernel) rfl (Or.inl rfl))) (fun _ _ _ _=>zbx) (fun _ _ _ _=>(zan O__law_written (hr.mono (by omega)) pass0 rfl (zaa (pv 0) zae)))) zae))) zbf)))),?_⟩
  simp only [zcb]
  clear hr F T hu O__law_written
  have keep:=And.intro q (And.intro rep (And.intro tr dn))
  clear q rep tr dn
  walk_at "rd"
  obtain ⟨q,rep,tr,dn⟩:=keep
  rcases zh4 tr.tm with ⟨x,rfl,hx⟩ | ⟨nm,ds,hd,hdo,tms⟩
  ·cases (show v = .str x from rep)
   refine ⟨true,rfl,?_⟩
   rw [if_pos rfl]
   exact q _ (Same.refl _)
  ·obtain ⟨va,vs',rfl,hbb,hseq,res⟩:∃ va vs',v = .ref va/\isV H (.ref va) (.ty "str")=some false/\SeqV H va (.str nm :: vs')/\Reps H ds vs':=by
    rcases hd with rfl | rfl
    ·obtain ⟨a,vs,rfl,ha,_,vs',rfl,e1,r⟩:=rep
     cases e1
     exact ⟨a,vs',rfl,zdq ha,.inr ha,r⟩
    ·obtain ⟨a,vs,rfl,ha,_,vs',rfl,e1,r⟩:=rep
     cases e1
     exact ⟨a,vs',rfl,zeD ha,.inl ha,r⟩
   have ix0:ixV H (.ref va) (.int 0)=some (.str nm):=by
    rcases hseq with e | e
    ·rw [ixV_l e,atI_zero]
    ·rw [ixV_t e,atI_zero]
   refine ⟨false,hbb,?_⟩
   rw [if_neg (by decide)]
   obtain ⟨z1,_⟩:=zjC tr.so tr.ho tr.tm
   have nd:=tr.nd
   have ew:wrL d=nm.cps.toList ++ 40 :: wrJ ds:=by rcases hd with rfl | rfl <;> rw [wrL]
   have ne:ds≠[]:=fun z=>by have:=zgP hdo;rw [z] at this;exact absurd this (by simp)
   have jp:=zkO ne
   have lw:(wrL d).length=nm.cps.toList.length + 1 + ((Txt.join ⟨#[44]⟩ (ds.map wrS)).cps.toList.length + 1):=by rw [ew,← jp];simp;omega
   have hle:∀ y ∈ ds.map wrS,y.length<=12000:=fun y hy=>by
    obtain ⟨e,he,rfl⟩:=List.mem_map.mp hy
    have t:=(zfu tr hd he).1
    have h1:=(zjC t.so t.ho t.tm).1
    have h2:=t.nd
    show (wrL e).toArray.size<=_
    rw [List.size_toArray]
    omega
   have lds:ds.length<=60:=by
    have h1:=zc1 tms
    have h2:lvs d=lvss ds:=by rcases hd with rfl | rfl <;> rw [lvs]
    have h3:=tr.lv
    omega
   have ab:∀ {a b:Str} {x y:Nat},a.cps.toList.length=x->b.cps.toList.length=y->x + y<=100000->a.length + b.length<=sizeLine:=fun h1 h2 h3=>Nat.le_trans (m:=100000) (by rw [Array.length_toList] at h1 h2;unfold PySem.Str.length;omega) (by decide)
   refine ⟨.str nm,ix0,.inl ⟨.str (nm ++ PySem.Str.ofString "("),if_pos (ab rfl rfl (by show _ + 1<=_;omega)),rfl,va,rfl,_,hseq,fun _ h=>?_,fun p1 o1 hp1 ho1=>?_⟩⟩
   ·have:=h.1
    simp [HT.sIx] at this
   ·rw [zeI] at ho1
    have s0:Same H (upd H p1 o1):=Same.upd hp1
    have g1:upd H p1 o1 p1=some o1:=upd_same
    have h1:SeqV (upd H p1 o1) p1 vs':=by rcases ho1 with ⟨rfl,_⟩ | ⟨rfl,_⟩;exact .inl upd_same;exact .inr upd_same
    generalize upd H p1 o1=H0 at s0 g1 h1 ⊢
    refine ⟨vs',h1,fun J hJ=>?_⟩
    refine za2 hJ (WtI ds H0) ⟨none,rfl,Same.refl _,rfl⟩ ?_ ?_ ?_
    ·rintro i acc σ H' _ ⟨_,_,s1,_⟩
     rw [g1,s1 _ _ g1]
    ·rintro i x acc σ H1 hx ⟨o0,rfl,s1,rfl⟩
     obtain ⟨e,he,re⟩:=Reps.get res hx
     obtain ⟨t,hdp⟩:=zfu tr hd (List.mem_of_getElem? he)
     refine ⟨_,rfl,⟨depD e,by omega,fx,sm,os,e,x,rfl,Rep.same (s0.trans s1) re,t,Nat.le_refl _,fun H2 s2=>⟨Nat.lt_of_le_of_lt (m:=100) (by rw [List.length_map,List.length_take];omega) (by decide),_,rfl,s1.trans s2,?_⟩⟩⟩
     rw [zar he,List.map_append]
     rfl
    ·rintro acc σ H1 ⟨o0,rfl,s1,rfl⟩ l hl
     have e0:=Reps.len res
     rw [e0,List.take_length]
     refine ⟨PySem.Str.ofString ",",l,ds.map wrS,rfl,rfl,by rw [upd_same,List.map_map];rfl,?_,?_⟩
     ·refine ziw (B:=12000) hle ?_
      rw [s44,List.length_map]
      show ds.length * 12000 + ds.length * 1<=_
      omega
     ·rw [s44,s40,s41]
      refine .inl ⟨.str (nm ++ ⟨#[40]⟩ ++ Txt.join ⟨#[44]⟩ (ds.map wrS)),if_pos (ab (x:=nm.cps.toList.length + 1) (by rw [Str.cps_append];simp) rfl (by omega)),?_⟩
      refine .inl ⟨.str (nm ++ ⟨#[40]⟩ ++ Txt.join ⟨#[44]⟩ (ds.map wrS) ++ ⟨#[41]⟩),if_pos (ab (x:=nm.cps.toList.length + 1 + (Txt.join ⟨#[44]⟩ (ds.map wrS)).cps.toList.length) (y:=1) (by rw [Str.cps_append,Str.cps_append];simp only [Array.toList_append,List.length_append];rfl) rfl (by omega)),?_⟩
      have ee:(nm ++ ⟨#[40]⟩ ++ Txt.join ⟨#[44]⟩ (ds.map wrS) ++ ⟨#[41]⟩:Str)=wrS d:=by
       apply Str.ext'
       apply Array.toList_inj.mp
       show _=(wrL d).toArray.toList
       rw [Str.cps_append,Str.cps_append,Str.cps_append,List.toList_toArray,ew,← jp]
       simp
      rw [ee]
      exact q _ ((s0.trans s1).trans (Same.upd hl))
theorem zjg {f:Addr}{fd:FuncData}(F:Fun K "_law_written" "_law_written" zau f fd)(T:Txt mg)(hm:mg "_law_written" = some (.ref f))(hk:PySem.W.keepIn K (.ref f)=true)(hb:Binds K fd za3 []):∀ n,FnOk P w K mg base CX0 (n + 2) f fd za3 (zcd n):=by
 intro n
 induction n using Nat.strongRecOn with
 | ind n ih =>
  exact zi2 n F T ⟨f,fd,_,⟨fun vs H Q E ⟨m,h1,h⟩=>(ih m h1).len vs H Q E h,fun A outer s H args us vs Q E hr he hb hv ⟨m,h1,h⟩=>((ih m h1).mono (by omega)).run A outer s H args us vs Q E hr he hb hv h⟩,hm,hk,hb⟩
theorem zhA {f:Addr}{fd:FuncData}(F:Fun K "_law_written" "_law_written" zau f fd)(T:Txt mg)(hm:mg "_law_written" = some (.ref f))(hk:PySem.W.keepIn K (.ref f)=true)(hb:Binds K fd za3 [])(n:Nat):Own P w K mg base CX0 (n + 2) "_law_written" (zcd n):=⟨f,fd,_,zjg F T hm hk hb n,hm,hk,hb⟩
noncomputable def zcV (n:Nat):Sp:=fun vs H Q _=>∃ (fx:List (Str×Int)) (sm:List (Str×Str)) (os:List Str) (d:D) (v:V),vs=[v]/\Rep H d v/\Trm fx sm os d/\depD d<=n/\∀ (v':V) (H':Hp),Same H H'->Rep H' (asD false d) v'->Q v' H'
noncomputable def TpI (ds:List D)(H:Hp)(i:Nat)(acc:List V)(σ:St)(H1:Hp):Prop:=∃ o0:Option V,σ=[o0]/\Same H H1/\Reps H1 (asDs false (ds.take i)) acc
theorem zln (b:Bool)(ds:List D)(d:D):asDs b (ds ++ [d])=asDs b ds ++ [asD b d]:=by rw [zco,zco,List.map_append];rfl
theorem zkh {f:Addr}{fd:FuncData}(n:Nat)(F:Fun K "_law_tupled" "_law_tupled" zaz f fd)(T:Txt mg)(O__law_tupled:Own P w K mg base CX0 (n + 1) "_law_tupled" (fun vs H Q E=>∃ m,m < n/\zcV m vs H Q E)):FnOk P w K mg base CX0 (n + 2) f fd zbe (zcV n):=by
 refine F.ok zeW (fun vs H Q E h=>?_) (fun cdv A outer s H vs Q E hr h=>?_)
 ·obtain ⟨fx,sm,os,d,v,rfl,_⟩:=h
  rfl
 ·obtain ⟨fx,sm,os,d,v,rfl,rep,tr,dn,q⟩:=h
  have hu:=hr.units
  refine ⟨_,(zaf (zaT (zal K rfl (zaj zai rfl T.n_isinstance rfl (zaa (pv 0) (zaa (zaD (v:=V.ty "str") rfl T.n_str rfl rfl) zae))) (fun _=>rfl)) (zag (zao (pv 0))) zaq)
   (zag (zao (zaQ zaG (zce (zaa (zbg ix_F (pv 0) zah (fun _ _=>rfl)) zae)) (zaU zbz rfl T.n_tuple rfl (zaa (zbV rfl (CompSc.by (N:=zcv) (names:=(zad zaz).names) (N':=["_law_part"]) (src:=[none]) (by decide +kernel) rfl rfl) (zbi K rfl (zcn ze2 (pv 0) (zbH zah) zbT)) (fun _ _ _ _=>(zaC (i:=0) (show List.Nodup (["_law_part"]:List Str) by decide +kernel) rfl (Or.inl rfl))) (fun _ _ _ _=>zbx) (fun _ _ _ _=>(zan O__law_tupled (hr.mono (by omega)) pass0 rfl (zaa (pv 0) zae)))) zae)))))),?_⟩
  simp only [zcv]
  clear hr F T hu O__law_tupled
  have keep:=And.intro q (And.intro rep (And.intro tr dn))
  clear q rep tr dn
  walk_at "rd"
  obtain ⟨q,rep,tr,dn⟩:=keep
  rcases zh4 tr.tm with ⟨x,rfl,hx⟩ | ⟨nm,ds,hd,hdo,tms⟩
  ·cases (show v = .str x from rep)
   refine ⟨true,rfl,?_⟩
   rw [if_pos rfl]
   exact q _ _ (Same.refl _) (by unfold asD;rfl)
  ·obtain ⟨va,vs',rfl,hbb,hseq,res⟩:∃ va vs',v = .ref va/\isV H (.ref va) (.ty "str")=some false/\SeqV H va (.str nm :: vs')/\Reps H ds vs':=by
    rcases hd with rfl | rfl
    ·obtain ⟨a,vs,rfl,ha,_,vs',rfl,e1,r⟩:=rep
     cases e1
     exact ⟨a,vs',rfl,zdq ha,.inr ha,r⟩
    ·obtain ⟨a,vs,rfl,ha,_,vs',rfl,e1,r⟩:=rep
     cases e1
     exact ⟨a,vs',rfl,zeD ha,.inl ha,r⟩
   have ix0:ixV H (.ref va) (.int 0)=some (.str nm):=by
    rcases hseq with e | e
    ·rw [ixV_l e,atI_zero]
    ·rw [ixV_t e,atI_zero]
   have has:asD false d = .tup (.str nm :: asDs false ds):=by rcases hd with rfl | rfl <;> (rw [asD];rfl)
   refine ⟨false,hbb,?_⟩
   rw [if_neg (by decide)]
   have lds:ds.length<=60:=by
    have h1:=zc1 tms
    have h2:lvs d=lvss ds:=by rcases hd with rfl | rfl <;> rw [lvs]
    have h3:=tr.lv
    omega
   refine ⟨.str nm,ix0,by decide,fun p0 hp0=>⟨va,rfl,_,hseq.same (Same.upd hp0),fun _ h=>?_,fun p1 o1 hp1 ho1=>?_⟩⟩
   ·have:=h.1
    simp [HT.sIx] at this
   ·rw [zeI] at ho1
    have s0:Same H (upd (upd H p0 (.tup [.str nm])) p1 o1):=(Same.upd hp0).trans (Same.upd hp1)
    have g0:upd (upd H p0 (.tup [.str nm])) p1 o1 p0=some (.tup [.str nm]):=by rw [zac (zab upd_same hp1)];exact upd_same
    have g1:upd (upd H p0 (.tup [.str nm])) p1 o1 p1=some o1:=upd_same
    have h1:SeqV (upd (upd H p0 (.tup [.str nm])) p1 o1) p1 vs':=by rcases ho1 with ⟨rfl,_⟩ | ⟨rfl,_⟩;exact .inl upd_same;exact .inr upd_same
    generalize upd (upd H p0 (.tup [.str nm])) p1 o1=H0 at s0 g0 g1 h1 ⊢
    refine ⟨vs',h1,fun J hJ=>?_⟩
    refine za2 hJ (TpI ds H0) ⟨none,rfl,Same.refl _,rfl⟩ ?_ ?_ ?_
    ·rintro i acc σ H' _ ⟨_,_,s1,_⟩
     rw [g1,s1 _ _ g1]
    ·rintro i x acc σ H1 hx ⟨o0,rfl,s1,racc⟩
     obtain ⟨e,he,re⟩:=Reps.get res hx
     obtain ⟨t,hdp⟩:=zfu tr hd (List.mem_of_getElem? he)
     have h3:=Reps.len racc
     rw [zco,List.length_map,List.length_take] at h3
     refine ⟨_,rfl,⟨depD e,by omega,fx,sm,os,e,x,rfl,Rep.same (s0.trans s1) re,t,Nat.le_refl _,fun v' H2 s2 r2=>⟨Nat.lt_of_le_of_lt (m:=100) (by omega) (by decide),_,rfl,s1.trans s2,?_⟩⟩⟩
     rw [zar he,zln]
     exact Reps.snoc r2 (Reps.same s2 racc)
    ·rintro acc σ H1 ⟨o0,rfl,s1,racc⟩ l hl
     have e0:=Reps.len res
     rw [e0,List.take_length] at racc
     have la:=Reps.len racc
     rw [zco,List.length_map] at la
     have s2:Same H0 (upd H1 l (.lst acc)):=s1.trans (Same.upd hl)
     have l2:upd H1 l (.lst acc) l=some (.lst acc):=upd_same
     have r2:=Reps.same (Same.upd (o:=.lst acc) hl) racc
     have g2:=s2 _ _ g0
     generalize upd H1 l (.lst acc)=H2 at s2 l2 r2 g2 ⊢
     refine ⟨l,rfl,acc,.inl l2,fun l5 H5 hc=>?_⟩
     rcases hc with ⟨e,_⟩ | ⟨_,hc,rfl⟩
     ·rw [l2] at e;cases e
     ·have n05:p0≠l5:=zab g2 hc
      refine ⟨.tup (.str nm :: acc),?_,fun p6 hp6=>?_⟩
      ·unfold catO
       simp only [zac n05,g2,upd_same]
       have ne:acc≠[]:=fun z=>by have:=zgP hdo;rw [z] at la;simp at la;omega
       exact if_pos ⟨Nat.le_trans (m:=100) (by simp;omega) (by decide),by simp,ne⟩
      ·have s6:=(Same.upd (o:=.tup acc) hc).trans (Same.upd (o:=.tup (.str nm :: acc)) hp6)
       exact q _ _ ((s0.trans s2).trans s6) (by rw [has];exact ⟨p6,_,rfl,upd_same,.str nm,acc,rfl,rfl,Reps.same s6 r2⟩)
theorem zkY {f:Addr}{fd:FuncData}(F:Fun K "_law_tupled" "_law_tupled" zaz f fd)(T:Txt mg)(hm:mg "_law_tupled" = some (.ref f))(hk:PySem.W.keepIn K (.ref f)=true)(hb:Binds K fd zbe []):∀ n,FnOk P w K mg base CX0 (n + 2) f fd zbe (zcV n):=by
 intro n
 induction n using Nat.strongRecOn with
 | ind n ih =>
  exact zkh n F T ⟨f,fd,_,⟨fun vs H Q E ⟨m,h1,h⟩=>(ih m h1).len vs H Q E h,fun A outer s H args us vs Q E hr he hb hv ⟨m,h1,h⟩=>((ih m h1).mono (by omega)).run A outer s H args us vs Q E hr he hb hv h⟩,hm,hk,hb⟩
theorem zi0 {f:Addr}{fd:FuncData}(F:Fun K "_law_tupled" "_law_tupled" zaz f fd)(T:Txt mg)(hm:mg "_law_tupled" = some (.ref f))(hk:PySem.W.keepIn K (.ref f)=true)(hb:Binds K fd zbe [])(n:Nat):Own P w K mg base CX0 (n + 2) "_law_tupled" (zcV n):=⟨f,fd,_,zkY F T hm hk hb n,hm,hk,hb⟩
end
end Lw
namespace Lw
open PySem L2
section
variable {P:Program}{w:World}{K:PySem.W.Frag}{mg:Str->Option Value}{base:Heap}
noncomputable def zhn (K:PySem.W.Frag)(C:Addr):Sp:=fun vs H Q _=>∃ (g:Addr) (fx:List (Str×Int)) (sm:List (Str×Str)) (os:List Str) (d:D) (v:V),vs=[.ref g,v]/\SgAt K C fx sm H g/\Rep H d v/\Trm fx sm os d/\depD d<=11/\∀ H',Same H H'->Q (.bl true) H'
theorem zlZ {f C:Addr}{fd:FuncData}(F:Fun K "_law_goes_round" "_law_goes_round" zax f fd)(T:Txt mg)(O_write:Own P w K mg base CX0 4 "write" (zhk K C))(O__law_written:Own P w K mg base CX0 13 "_law_written" (zcd 11))(O_read:Own P w K mg base CX0 5 "read" (zjM K C))(O__law_tupled:Own P w K mg base CX0 13 "_law_tupled" (zcV 11)):FnOkG P w K mg base CX0 14 f fd zbB (zhn K C):=by
 refine Fun.okG F zbo (fun vs H Q E h=>?_) (fun cdv A outer s H vs Q E hG hr h=>?_)
 ·obtain ⟨g,fx,sm,os,d,v,rfl,_⟩:=h
  rfl
 ·obtain ⟨g,fx,sm,os,d,v,rfl,sg,rep,tr,d11,q⟩:=h
  have hu:=hr.units
  refine ⟨_,(zaf (zap (i:=2) zbo.nd rfl (Or.inl rfl) (zaj (zfh hG hu) rfl T.n_repr rfl (zaa (pv 1) zae)))
   (zaf (zap (i:=3) zbo.nd rfl (Or.inl rfl) (zan O_write (hr.mono (by decide)) pass0 rfl (zaa (pv 0) (zaa (pv 1) zae))))
   (zaf (zaT (PW.pt (zdz (za4 (zal K rfl (zaj zai rfl T.n_isinstance rfl (zaa (pv 3) (zaa (zaD (v:=V.ty "str") rfl T.n_str rfl rfl) zae))) (fun _=>rfl))) (zdz (zas (zdL hu) (pv 3) (zan O__law_written (hr.mono (by decide)) pass0 rfl (zaa (pv 1) zae)) (nomark _)) (zcG (zas (zdL hu) (zaj (zfh hG hu) rfl T.n_repr rfl (zaa (pv 1) zae)) (pv 2) (nomark _)))))) (zag (zao zgr)) zaq)
   (zag (zao (zj9 (zbW (zbr hu) (zan O_read (hr.mono (by decide)) pass0 rfl (zaa (pv 0) (zaa (pv 3) zae))) (zan O__law_tupled (hr.mono (by decide)) pass0 rfl (zaa (pv 1) zae)) (nomark _)) (zih (zbW (zbr hu) (zan O_write (hr.mono (by decide)) pass0 rfl (zaa (pv 0) (zaa (zan O_read (hr.mono (by decide)) pass0 rfl (zaa (pv 0) (zaa (pv 3) zae))) zae))) (pv 3) (nomark _))))))))),?_⟩
  simp only [zch]
  clear hr F T hu O_write O__law_written O_read O__law_tupled hG
  have keep:=And.intro q (And.intro rep (And.intro sg (And.intro tr d11)))
  clear q rep sg tr d11
  walk_at "rd"
  obtain ⟨q,rep,sg,tr,d11⟩:=keep
  have tx:=zhf tr.so tr.ho tr.tm
  have sh:=zlD tr.so tr.ho tr.tm tr.nd
  have no:∀ e1:D,(!eqD e1 e1)=false:=fun e=>by rw [zb5];rfl
  have ta:=zmF false tr
  have wa:wrS (asD false d)=wrS d:=by unfold wrS;rw [zm7 false tr.tm]
  have da:depD (asD false d)<=11:=by rw [(zhX false tr.tm).2.2.2];exact d11
  refine ⟨d,v,rfl,rep,tx.1,by omega,sh,?_⟩
  refine ⟨g,fx,sm,os,d,v,rfl,sg,rep,tr,fun H1 s1=>?_⟩
  refine ⟨true,rfl,?_⟩
  rw [if_neg (by decide)]
  refine ⟨fx,sm,os,d,v,rfl,Rep.same s1 rep,tr,d11,fun H2 s2=>?_⟩
  refine ⟨.str (wrS d),.str (wrS d),rfl,rfl,Nat.zero_le _,_,rfl,?_⟩
  rw [no,if_neg (by decide)]
  have s12:=s1.trans s2
  refine ⟨d,v,rfl,Rep.same s12 rep,tx.1,by omega,sh,?_⟩
  refine ⟨.str (pdOf d).shown,.str (pdOf d).shown,rfl,rfl,Nat.zero_le _,_,rfl,?_⟩
  rw [no,if_neg (by decide)]
  refine ⟨g,fx,sm,os,d,rfl,sg.same s12,tr,fun v3 H3 s3 r3=>?_⟩
  have s13:=s12.trans s3
  refine ⟨fx,sm,os,d,v,rfl,Rep.same s13 rep,tr,d11,fun v4 H4 s4 r4=>?_⟩
  have s14:=s13.trans s4
  refine ⟨asD false d,asD false d,Rep.same s4 r3,r4,by omega,_,rfl,?_⟩
  rw [zb5,if_pos rfl]
  refine ⟨g,fx,sm,os,d,rfl,sg.same s14,tr,fun v5 H5 s5 r5=>?_⟩
  have s15:=s14.trans s5
  refine ⟨g,fx,sm,os,asD false d,v5,rfl,sg.same s15,r5,ta,fun H6 s6=>?_⟩
  rw [wa]
  refine ⟨.str (wrS d),.str (wrS d),rfl,rfl,Nat.zero_le _,?_⟩
  rw [zb5]
  exact q H6 (s15.trans s6)
end
end Lw
namespace Lw
open PySem L2
section
variable {P:Program}{w:World}{K:PySem.W.Frag}{mg:Str->Option Value}{base:Heap}
structure Bs (K:PySem.W.Frag)(C g t o:Addr)(fx:List (Str×Int))(sm:List (Str×Str))(os:List Str)(H:Hp):Prop where
 sg:SgAt K C fx sm H g
 ex:∃ a b fv sv,H t=some (.tup [.ref a,.ref b])/\H a=some (.lst fv)/\H b=some (.lst sv)/\RowI H fx fv/\RowS H sm sv
 so:SignsOk fx sm
 ol:H o=some (.lst (os.map V.str))
 o5:os.length=5
 ho:∀ x ∈ os,zaR x
theorem Bs.but {C g t o p:Addr}{fx:List (Str×Int)}{sm:List (Str×Str)}{os:List Str}{H H':Hp}(h:Bs K C g t o fx sm os H)(b:But p H H')(n1:∀ C dx fs,H p≠some (.ins C dx fs))(n2:∀ kvs,H p≠some (.dK kvs))(n3:∀ xs,H p≠some (.tup xs))(n4:∀ xs,H p≠some (.lst xs)):Bs K C g t o fx sm os H':=by
 obtain ⟨⟨a1,a2,a3,dx,fs,dm,dn,h1,h2,h3,h4,h5,h6,h7⟩,⟨a,b',fv,sv,e1,e2,e3,rf,rs⟩,so,ol,o5,ho⟩:=h
 have ts:TupS H H':=fun c xs e=>b c _ (fun z=>n3 xs (z ▸ e)) e
 exact ⟨⟨a1,a2,a3,dx,fs,dm,dn,b _ _ (fun z=>n1 _ _ _ (z ▸ h1)) h1,h2,h3,h4,h5,b _ _ (fun z=>n2 _ (z ▸ h6)) h6,b _ _ (fun z=>n2 _ (z ▸ h7)) h7⟩,
  ⟨a,b',fv,sv,ts _ _ e1,b _ _ (fun z=>n4 _ (z ▸ e2)) e2,b _ _ (fun z=>n4 _ (z ▸ e3)) e3,rf.same ts,rs.same ts⟩,so,b _ _ (fun z=>n4 _ (z ▸ ol)) ol,o5,ho⟩
theorem Bs.same {C g t o:Addr}{fx:List (Str×Int)}{sm:List (Str×Str)}{os:List Str}{H H':Hp}(h:Bs K C g t o fx sm os H)(s:Same H H'):Bs K C g t o fx sm os H':=by
 obtain ⟨sg,⟨a,b',fv,sv,e1,e2,e3,rf,rs⟩,so,ol,o5,ho⟩:=h
 exact ⟨sg.same s,⟨a,b',fv,sv,s _ _ e1,s _ _ e2,s _ _ e3,rf.same (TupS.of s),rs.same (TupS.of s)⟩,so,s _ _ ol,o5,ho⟩
theorem Bs.lt {C g t o Pt:Addr}{fx:List (Str×Int)}{sm:List (Str×Str)}{os:List Str}{H H':Hp}(h:Bs K C g t o fx sm os H)(l:LT Pt H)(b:But Pt H H'):Bs K C g t o fx sm os H':=by
 obtain ⟨ps,e⟩:=l.tbl
 exact h.but b (fun _ _ _ z=>by rw [e] at z;cases z) (fun _ z=>by rw [e] at z;cases z) (fun _ z=>by rw [e] at z;cases z) (fun _ z=>by rw [e] at z;cases z)
theorem znd {H H':Hp}{a p:Addr}{xs:List V}(h:SqL K H a xs)(b:But p H H')(n:∀ o,H p≠some (.frz o (.lst xs)))(n2:H p≠some (.lst xs)):SqL K H' a xs:=by
 rcases h with (h | ⟨o,h⟩) | h
 ·exact .inl (.inl (b _ _ (fun z=>n2 (z ▸ h)) h))
 ·exact .inl (.inr ⟨o,b _ _ (fun z=>n o (z ▸ h)) h⟩)
 ·exact .inr h
theorem znU (x:Str):nds (.str x)=1:=by unfold nds;rfl
mutual
theorem zmG {fx:List (Str×Int)}{sm:List (Str×Str)}{os:List Str}:∀ {d:D},IsTm fx sm os d->nds d<=lvs d * (depD d + 1)
 | .str x,_=>by
  have:lvs (.str x)=1:=by rw [lvs] <;> simp
  rw [znU,this]
  omega
 | .tup (.str n :: ds),h=>by
  have h1:=zjD h
  unfold IsTm at h
  have h2:=zhe h.2
  rw [lvs] at h1
  rw [lvs,nds,depD,depDs]
  show 1 + ndss ds<=lvss ds * (max (depD (D.str n)) (depDs ds) + 2)
  have h3:depDs ds<=max (depD (D.str n)) (depDs ds):=Nat.le_max_right _ _
  have h4:=Nat.mul_le_mul_left (lvss ds) (Nat.add_le_add_right h3 2)
  have h5:lvss ds * (depDs ds + 2)=lvss ds * (depDs ds + 1) + lvss ds:=by rw [show depDs ds + 2=(depDs ds + 1) + 1 from rfl,Nat.mul_succ]
  omega
 | .lst (.str n :: ds),h=>by
  have h1:=zjD h
  unfold IsTm at h
  have h2:=zhe h.2
  rw [lvs] at h1
  rw [lvs,nds,depD,depDs]
  show 1 + ndss ds<=lvss ds * (max (depD (D.str n)) (depDs ds) + 2)
  have h3:depDs ds<=max (depD (D.str n)) (depDs ds):=Nat.le_max_right _ _
  have h4:=Nat.mul_le_mul_left (lvss ds) (Nat.add_le_add_right h3 2)
  have h5:lvss ds * (depDs ds + 2)=lvss ds * (depDs ds + 1) + lvss ds:=by rw [show depDs ds + 2=(depDs ds + 1) + 1 from rfl,Nat.mul_succ]
  omega
theorem zhe {fx:List (Str×Int)}{sm:List (Str×Str)}{os:List Str}:∀ {ds:List D},IsTms fx sm os ds->ndss ds<=lvss ds * (depDs ds + 1)
 | [],_=>by rw [ndss];omega
 | d :: ds,h=>by
  have h1:=zmG h.1
  have h2:=zhe h.2
  rw [ndss,lvss,depDs,Nat.add_mul]
  have a1:=Nat.mul_le_mul_left (lvs d) (Nat.add_le_add_right (Nat.le_max_left (depD d) (depDs ds)) 1)
  have a2:=Nat.mul_le_mul_left (lvss ds) (Nat.add_le_add_right (Nat.le_max_right (depD d) (depDs ds)) 1)
  omega
end
theorem zjz {fx:List (Str×Int)}{sm:List (Str×Str)}{os:List Str}{d:D}(so:SignsOk fx sm)(ho:∀ x ∈ os,zaR x)(tm:IsTm fx sm os d)(l:lvs d<=40)(dp:depD d<=11):Trm fx sm os d :=
 ⟨so,ho,tm,by omega,by
  have h:=zmG tm
  have h1:=Nat.mul_le_mul l (Nat.add_le_add_right dp 1)
  omega,by omega⟩
noncomputable def spLaw (K:PySem.W.Frag)(Pt:Addr):Sp:=fun vs H Q _=>∃ (a:Addr) (ns:List Int),vs=[.ref a]/\SqL K H a (ns.map V.int)/\(∀ xs,H a≠some (.lst xs))/\ns.length<=63/\LT Pt H/\∀ H',Q (.bl true) H'
noncomputable def OutI (a g t o Pt:Addr)(Hb:Hp)(_:Nat)(σ:St)(H:Hp):Prop:=∃ o1 o5 o6:Option V,σ=[some (.ref a),o1,some (.ref t),some (.ref g),some (.ref o),o5,o6]/\But Pt Hb H/\LT Pt H
theorem zoZ {f C Pt:Addr}{fd:FuncData}(F:Fun K "law" "law" zeX f fd)(T:Txt mg)(O__law_pot:Own P w K mg base CX0 2 "_law_pot" (spPot K))(O__law_signs:Own P w K mg base CX0 3 "_law_signs" zhm)(MK_Signs:OwnC P w K mg base CX0 3 "Signs" C (zjQ K C))(O__law_drawn:Own P w K mg base CX0 2 "_law_drawn" zht)
  (O__law_term:Own P w K mg base CX0 15 "_law_term" (zeg 11)) (O_flat:Own P w K mg base CX0 10 "flat" (zhs K C Pt)) (O__law_goes_round:OwnG P w K mg base CX0 14 "_law_goes_round" (zhn K C)):FnOkG P w K mg base CX0 17 f fd zpt (spLaw K Pt):=by
 refine Fun.okG F zem (fun vs H Q E h=>?_) (fun cdv A outer s H vs Q E hG hr h=>?_)
 ·obtain ⟨a,ns,rfl,_⟩:=h
  rfl
 ·obtain ⟨a,ns,rfl,hs,na,n63,lt,q⟩:=h
  have hu:=hr.units
  refine ⟨_,(zaf (zap (i:=1) zem.nd rfl (Or.inl rfl) (zan O__law_pot (hr.mono (by decide)) pass0 rfl (zaa (pv 0) (zaa zah zae))))
   (zaf (zap (i:=2) zem.nd rfl (Or.inl rfl) (zan O__law_signs (hr.mono (by decide)) pass0 rfl (zaa (pv 1) zae)))
   (zaf (zap (i:=3) zem.nd rfl (Or.inl rfl) (zpB MK_Signs (hr.mono (by decide)) pass0 rfl (zaa (zbg ix_F (pv 2) zah (fun _ _=>rfl)) (zaa (zbg ix_F (pv 2) zah (fun _ _=>rfl)) zae))))
   (zaf (zap (i:=4) zem.nd rfl (Or.inl rfl) (zan O__law_drawn (hr.mono (by decide)) pass0 rfl (zaa (pv 1) zae)))
   (zaf (zb2 PassesOwn.never rfl (zbU rfl T.n_range (zaa (zaj (zle rfl) rfl T.n_max rfl (zaa zah (zaa (zaj (zgZ rfl) rfl T.n_min rfl (zaa zah (zaa (zaj zcJ rfl T.n_len rfl (zaa (pv 0) zae)) zae))) zae))) zae)) (zaC (i:=5) zem.nd rfl (Or.inl rfl)) (zaf (zap (i:=6) zem.nd rfl (Or.inl rfl) (zan O__law_term (hr.mono (by decide)) pass0 rfl (zaa (zan O__law_pot (hr.mono (by decide)) pass0 rfl (zaa (pv 0) (zaa (pv 5) zae))) (zaa (pv 2) (zaa (pv 4) (zaa zah (zaa zah zae)))))))
   (zag (zaT (PW.pt (zdz (za4 (zal K rfl (zj8 O__law_goes_round hG (hr.mono (by decide)) pass0 rfl (zaa (pv 3) (zaa (pv 6) zae))) (fun _=>rfl))) (zcG (za4 (zal K rfl (zj8 O__law_goes_round hG (hr.mono (by decide)) pass0 rfl (zaa (pv 3) (zaa (zan O_flat (hr.mono (by decide)) pass0 rfl (zaa (pv 3) (zaa (pv 6) zae))) zae))) (fun _=>rfl)))))) (zag (zao zgr)) zaq))))
   (zag (zao zgr))))))),?_⟩
  simp only [zpu]
  clear hr F T hu O__law_pot O__law_signs MK_Signs O__law_drawn O__law_term O_flat O__law_goes_round hG
  have keep:=And.intro q (And.intro hs (And.intro n63 (And.intro lt na)))
  clear q hs n63 lt na
  walk_at "rd"
  obtain ⟨q,hs,n63,lt,na⟩:=keep
  refine ⟨a,0,ns,rfl,hs,by omega,by omega,fun p x y hp=>?_⟩
  have s1:Same H (upd H p (.lst [.int x,.int y])):=Same.upd hp
  refine ⟨p,rfl,⟨x,y,upd_same⟩,fun t a1 a2 fx sm fv sv H2 b2 p2 ht ha hb rf rs so na1 nb1=>?_⟩
  simp only [tMake,tCons,tNil,tOp,tVar,tC]
  walk_at "rd"
  refine ⟨.ref a1,by rw [ixV_t ht];rfl,.ref a2,by rw [ixV_t ht];rfl,fun g dx hg hdx ng=>?_⟩
  have s2:Same H2 (upd (upd H2 dx (.own g)) g (.ins C dx [])):=(Same.upd hdx).trans (Same.upd (by rw [zac (Ne.symm ng)];exact hg))
  refine ⟨g,dx,a1,a2,fx,sm,fv,sv,rfl,upd_same,s2 _ _ ha,s2 _ _ hb,rf.same (TupS.of s2),rs.same (TupS.of s2),so,fun H3 b3 sg=>⟨rfl,?_⟩⟩
  have s3:Same H2 H3:=fun c ob e=>b3 c ob (zab e hg) (s2 _ _ e)
  have p3:IsPot H3 p:=by obtain ⟨x',y',e⟩:=p2;exact ⟨x',y',s3 _ _ e⟩
  refine ⟨p,rfl,p3,fun o os H4 no b4 p4 ho o5 hw=>?_⟩
  have s4:Same H H4:=fun c ob e=>b4 c ob (zab e hp) (s3 _ _ (b2 c ob (zab e hp) (s1 _ _ e)))
  have bs:Bs K C g t o fx sm os H4:=by
   obtain ⟨c1,c2,c3,dx',fs,dm,dn,h1,h2,h3,h4,h5,h6,h7⟩:=sg
   obtain ⟨x',y',ep⟩:=p3
   have ts:=TupS.ofBut b4 ⟨x',y',ep⟩
   exact ⟨⟨c1,c2,c3,dx',fs,dm,dn,b4 _ _ (fun z=>by rw [z,ep] at h1;cases h1) h1,h2,h3,h4,h5,b4 _ _ (fun z=>by rw [z,ep] at h6;cases h6) h6,b4 _ _ (fun z=>by rw [z,ep] at h7;cases h7) h7⟩,
    ⟨a1,a2,fv,sv,ts _ _ (s3 _ _ ht),b4 _ _ na1 (s3 _ _ ha),b4 _ _ nb1 (s3 _ _ hb),(rf.same (TupS.of s3)).same ts,(rs.same (TupS.of s3)).same ts⟩,so,ho,o5,hw⟩
  have lt4:LT Pt H4:=lt.same s4
  have sq4:SqL K H4 a (ns.map V.int):=Same.seq s4 hs
  clear b4 p4 b3 s3 s2 sg p3 ho o5 hw no rf rs so ha hb ht na1 nb1 b2 p2 s1 hp s4 hs lt na hg hdx ng
  have hlen:((ns.map V.int).length:Int)<=63:=by rw [List.length_map];omega
  refine ⟨ns.map V.int,.inl sq4,10,_,⟨rfl,rfl⟩,3,_,⟨rfl,rfl⟩,by split <;> split <;> omega,by split <;> split <;> omega,?_⟩
  generalize hm:(if (if ((ns.map V.int).length:Int) < 10 then ((ns.map V.int).length:Int) else 10) > 3 then (if ((ns.map V.int).length:Int) < 10 then ((ns.map V.int).length:Int) else 10) else 3).toNat=m
  have hm10:m<=10:=by rw [← hm];split <;> split <;> omega
  clear hm hlen
  obtain ⟨ps,hps⟩:=lt4.tbl
  refine zbO (OutI a g t o Pt H4) ⟨_,_,_,rfl,But.refl _ _,lt4⟩ ?_ ?_
  ·rintro i σ H7 hi ⟨o1,o5,o6,rfl,b7,lt7⟩
   have bs7:=bs.lt lt4 b7
   have sq7:SqL K H7 a (ns.map V.int):=znd sq4 b7 (fun o' z=>by rw [hps] at z;cases z) (fun z=>by rw [hps] at z;cases z)
   walk_at "rd"
   refine ⟨a,i,ns,by simp,sq7,by omega,by omega,fun p x y hp=>?_⟩
   walk_at "rd"
   have s8:Same H7 (upd H7 p (.lst [.int x,.int y])):=Same.upd hp
   have ti:zfl p t o fx sm os (upd H7 p (.lst [.int x,.int y])):=by
    obtain ⟨a'',b'',fv'',sv'',f1,f2,f3,f4,f5⟩:=bs7.ex
    exact ⟨⟨x,y,upd_same⟩,⟨a'',b'',fv'',sv'',s8 _ _ f1,s8 _ _ f2,s8 _ _ f3,f4.same (TupS.of s8),f5.same (TupS.of s8),zab f2 hp,zab f3 hp⟩,⟨s8 _ _ bs7.ol,zab bs7.ol hp⟩,bs7.so,by rw [bs7.o5];decide,by rw [bs7.o5];decide⟩
   refine ⟨p,t,o,fx,sm,os,40,11,rfl,ti,by decide,by decide,by decide,fun d v H8 b8 p8 r8 tm8 lv8 dp8=>?_⟩
   have so:=bs7.so
   have ho:=bs7.ho
   have s78:Same H7 H8:=fun c ob e=>b8 c ob (zab e hp) (s8 _ _ e)
   have b48:But Pt H4 H8:=fun c ob n e=>s78 _ _ (b7 c ob n e)
   have lt8:=lt7.same s78
   have rep8:Rep H8 d v:=Rep.same (fun c ob e=>(zcz.mp e).2) r8
   clear s8 ti b8 p8 r8 hp s78 sq7 bs7 lt7 b7
   have bs8:=bs.lt lt4 b48
   have tr:Trm fx sm os d:=zjz so ho tm8 lv8 dp8
   have tf:=zmW so ho tm8
   have dpf:=zk0 sm d
   have lvf:lvs (flt sm d)<=40:=by
    have:=(zlx so ho tf).2
    have:=(zlx so ho tm8).2
    have:=zmX sm d
    omega
   have trf:Trm fx sm os (flt sm d):=zjz so ho tf lvf (by omega)
   have keep:=And.intro lt8 (And.intro rep8 (And.intro bs8 (And.intro tr (And.intro tf trf))))
   clear lt8 rep8 bs8 tr tf trf
   walk_at "rd"
   obtain ⟨lt8,rep8,bs8,tr,tf,trf⟩:=keep
   refine ⟨g,fx,sm,os,d,v,rfl,bs8.sg,rep8,tr,dp8,fun H9 s9=>?_⟩
   refine ⟨true,rfl,?_⟩
   rw [if_neg (by decide)]
   refine ⟨g,fx,sm,os,d,v,rfl,bs8.sg.same s9,Rep.same s9 rep8,tr,lt8.same s9,fun w1 H10 b10 lt10 q10=>?_⟩
   have bs10:=(bs8.same s9).lt (lt8.same s9) b10
   refine ⟨g,fx,sm,os,flt sm d,w1,rfl,bs10.sg,q10,trf,by omega,fun H11 s11=>?_⟩
   refine ⟨true,rfl,?_⟩
   rw [if_neg (by decide)]
   exact ⟨_,_,_,rfl,fun c ob n e=>s11 _ _ (b10 c ob n (s9 _ _ (b48 c ob n e))),lt10.same s11⟩
  ·rintro σ H7 ⟨_,_,_,rfl,_⟩
   walk_at "rd"
end
end Lw
namespace Lw
open PySem PySem.Spec PyProof.Rows PySem.W L2
theorem zjk {K:Frag}{h:Heap}{x:Str}{c Pt:Addr}(X:K.In h)(ht:tabIn K x=some (c,Pt))(C:CodeHd h c Pt):∀ h',K.In h'->CodeHd h' c Pt:=by
 have lk:∃ o,K.lookup c=some o:=by
  unfold tabIn at ht
  split at ht
  ·split at ht
   ·split at ht
    ·split at ht
     ·rename_i c2 _ _ _ _ _ hc
      split at ht
      ·cases ht;exact ⟨_,hc⟩
      ·cases ht
     ·cases ht
    ·cases ht
   ·cases ht
  ·cases ht
 obtain ⟨o,lk⟩:=lk
 obtain ⟨o',vs,r1,r2,r3,r4,r5,r6,r7,e,r⟩:=C
 intro h' X'
 have e1:=X _ _ lk
 rw [e] at e1
 cases e1
 exact ⟨_,vs,r1,r2,r3,r4,r5,r6,r7,X' _ _ lk,r⟩
theorem zkD {P:Program}{w:World}{K:Frag}{mg mb:Str->Option Value}{k:Nat}{fa a c Pt:Addr}{fd:FuncData}{x:Str}{sp:Sp}{s1:Shared}{vs:List Value}{ns:List Int}
  (KX:K.In s1.heap) (hns:s1.heap.Ns mainGlobals mg) (hb:s1.heap.Ns builtinsNs mb) (hbb:∀ x:Str,x≠"__name__"->mb x=bootBuiltins x) (hlim:s1.heap.NoLimit) (hg:s1.gens = #[])
  (ha:s1.heap.get? a=some { cls:=.type "list",data:=.seq vs.toArray }) (hi:IntsAre vs ns) (hl:ns.length<=sizeLine) (hr:Room k callerA)
  (hT:CodeHd s1.heap c Pt) (hP:s1.heap.get? Pt=some (tabObj #[])) (hKP:K.lookup Pt=none) (hB:Bm mg s1.heap)
  (F:∀ base:Heap,K.In base->base.Ns mainGlobals mg->Bm mg base->FnOkG P w K mg base CX0 k fa fd [x] sp) (hbind:∀ (s:Shared) (u:Value),BindsTo s fd ⟨[u],[]⟩ [(x,u)])
  (hsp:∀ H:Hp,(∀ xs,H a≠some (.lst xs))->H Pt=some (.tbl #[])->SqL K H a (ns.map V.int)->sp [.ref a] H (fun v _=>v = .bl true) fun _ _ _=>False) :
  codeAny (model P w) callerA (.call (.ref fa) ⟨[.ref a],[]⟩) (fun r s'=>r = .ok (.ret (.bool true))/\OldK s1.heap s'.heap/\s'.os=s1.os/\AllBare s'.gens) s1:=by
 have rv:=zgb hi
 have lenV:=hi.length
 have nPa:Pt≠a:=fun z=>by rw [z,ha] at hP;cases hP
 have core:∀ H:Hp,H Pt=some (.tbl #[])->(∀ b,b≠Pt->H b≠none->b=a/\K.lookup a=none/\∃ o xs,H a=some (.frz o (.lst xs)))->SqL K H a (ns.map V.int)->HOk P w H s1.heap ->
   codeAny (model P w) callerA (.call (.ref fa) ⟨[.ref a],[]⟩) (fun r s'=>r = .ok (.ret (.bool true))/\OldK s1.heap s'.heap/\s'.os=s1.os/\AllBare s'.gens) s1:=by
  intro H hH hA hS hok
  have free:∀ {b:Addr} {o:Obj},s1.heap.get? b=some o->o≠tabObj #[]->(b=a->K.lookup a=none->False)->H b=none:=fun {b o} e n n2=>by
   cases q:H b with
   | none=>rfl
   | some u =>
    by_cases z:b=Pt
    ·rw [z,hP] at e;exact absurd (Option.some.inj e).symm n
    ·obtain ⟨z1,z2,_⟩:=hA b z (by rw [q];simp)
     exact (n2 z1 z2).elim
  have nsK:∀ {b:Addr} {m:Str->Option Value},s1.heap.Ns b m->(hidT s1.heap H).Ns b m:=fun {b m} ⟨o,es,ep,e,d,r⟩=>⟨o,es,ep,zfT e (free e (fun z=>by rw [z] at d;cases d) (fun z _=>by rw [z,ha] at e;cases e;cases d)),d,r⟩
  have hKb:K.In (hidT s1.heap H):=fun b o e=>zfT (KX b o e) (by
   cases q:H b with
   | none=>rfl
   | some u =>
    by_cases z:b=Pt
    ·rw [z,hKP] at e;cases e
    ·obtain ⟨z1,z2,_⟩:=hA b z (by rw [q];simp)
     rw [z1,z2] at e;cases e)
  have hM:Mod K mg (hidT s1.heap H):=⟨hKb,nsK hns,⟨mb,nsK hb,hbb⟩,let ⟨mc,h1,h2⟩:=hlim;⟨mc,nsK h1,h2⟩⟩
  have hB':Bm mg (hidT s1.heap H):=by
   obtain ⟨bm,o,e1,e2,e3,e4,e5,e6,e7⟩:=hB
   exact ⟨bm,o,e1,e2,e3,zfT e4 (free e4 (fun z=>by rw [z] at e5;cases e5) (fun z _=>by rw [z,ha] at e4;cases e4;cases e7)),e5,e6,e7⟩
  have e0:Env0 P w K mg (hidT s1.heap H) callerA [] s1 H:=⟨rfl,hM,fun b o e=>znT e,Nat.le_of_eq (zkT _ _),trivial,fun b hb=>absurd (show b ∈ ([]:List Addr) from hb) (by simp),hok,.of_eq hg⟩
  have nl:∀ xs,H a≠some (.lst xs):=fun xs z=>by
   obtain ⟨_,_,o,ys,e⟩:=hA a (Ne.symm nPa) (by rw [z];simp)
   rw [z] at e;cases e
  refine codeAny_mono ((F _ hKb (nsK hns) hB').run callerA [] s1 H ⟨[.ref a],[]⟩ [.ref a] [.ref a] _ _ rfl hr e0 (hbind s1 (.ref a)) (.cons rfl .nil) (hsp H nl hH hS)) fun r s' h=>?_
  cases r with
  | error e=>exact False.elim h
  | ok fl =>
   cases fl with
   | next=>exact False.elim h
   | brk=>exact False.elim h
   | cont=>exact False.elim h
   | ret u =>
    obtain ⟨v,H',os,bare,un,hok',r',q⟩:=h
    have q':v = .bl true:=q
    subst q'
    obtain rfl:u=Value.bool true:=r'
    have keep:∀ b o,b≠Pt->s1.heap.get? b=some o->s'.heap.get? b=some o:=fun b o n e=>by
     cases q:H b with
     | none=>exact un.keep b o e q (by intro z;exact absurd (show b ∈ ([]:List Addr) from z) (by simp)) (by simp)
     | some u =>
      obtain ⟨rfl,_,ob,xs,z⟩:=hA b n (by rw [q];simp)
      have z2:=un.frzs b ob _ z
      obtain ⟨e1,_⟩:=hok b _ z
      obtain ⟨e2,_⟩:=hok' b _ z2
      rw [e] at e1;cases e1
      exact e2
    obtain ⟨more,hm⟩:=un.tbls Pt #[] hH
    have gP:s'.heap.get? Pt=some (tabObj (#[] ++ more)):=hok' Pt _ hm
    refine ⟨rfl,⟨fun b o e=>?_,fun b o e=>?_⟩,os,bare⟩
    ·by_cases z:b=Pt
     ·subst z
      rw [hP] at e;cases e
      exact .inr (.inl ⟨(hT.tab hP).isCodeTable,rfl,#[],more,rfl,gP⟩)
     ·exact .inl (keep b o z e)
    ·by_cases z:b=Pt
     ·subst z;exact ⟨_,gP⟩
     ·exact ⟨o,keep b o z e⟩
 cases hk:K.lookup a with
 | some o =>
  have e:=KX a o hk
  rw [ha] at e
  cases e
  refine core (fun b=>if b=Pt then some (.tbl #[]) else none) (if_pos rfl) (fun b n z=>absurd (if_neg n) z) (.inr ⟨_,vs.toArray,_,hk,rfl,rfl,rfl,by rw [List.size_toArray,lenV];exact hl,by simpa using rv⟩) fun b u z=>?_
  by_cases hb:b=Pt
  ·have z':=(if_pos hb).symm.trans z
   cases z'
   subst hb
   exact hP
  ·have z':=(if_neg hb).symm.trans z
   cases z'
 | none =>
  refine core (fun b=>if b=Pt then some (.tbl #[]) else if b=a then some (.frz { cls:=.type "list",data:=.seq vs.toArray } (.lst (ns.map V.int))) else none) (if_pos rfl) (fun b n z=>?_) (.inl (.inr ⟨{ cls:=.type "list",data:=.seq vs.toArray },(if_neg (Ne.symm nPa)).trans (if_pos rfl)⟩)) (fun b u z=>?_)
  ·by_cases hb:b=a
   ·exact ⟨hb,hk,_,_,(if_neg (Ne.symm nPa)).trans (if_pos rfl)⟩
   ·exact absurd ((if_neg n).trans (if_neg hb)) z
  ·by_cases hp:b=Pt
   ·have z':=(if_pos hp).symm.trans z
    cases z'
    subst hp
    exact hP
   ·by_cases hb:b=a
    ·have z':=((if_neg hp).trans (if_pos hb)).symm.trans z
     cases z'
     subst hb
     exact ⟨ha,by rw [List.length_map];exact hl,vs,_,rv,ha⟩
    ·have z':=((if_neg hp).trans (if_neg hb)).symm.trans z
     cases z'
theorem walkT {l:PySem.W.OpenLaw}{q:Program}{loose:List Str}{XP:(Str->Option Value)->Heap->Prop}{YP:World->Heap->Prop}{d dp:DefRec}{K:Params->PySem.W.Frag}(hn:l.most=some 63)(hdf:d.params.defaults=[])
  (hY:∀ (w:World) (h:Heap),YP w h->(K w.params).In h) (hq:(recsOf q).find? (fun e=>e.name == ("put_in" : Str))=some dp)
  (F:∀ (w:World) (mg:Str->Option Value) (fa:Addr) (h:Heap),(K w.params).In h->h.Ns mainGlobals mg->mg d.name=some (.ref fa) ->
   ∃ (fd:FuncData) (c Pt:Addr),tabIn (K w.params) "put_in" = some (c,Pt)/\(K w.params).lookup Pt=none/\(∀ (s:Shared) (u:Value),BindsTo s fd ⟨[u],[]⟩ [("_law_script",u)]) /\
    ∀ base:Heap,(K w.params).In base->base.Ns mainGlobals mg->Bm mg base->(∀ h,(K w.params).In h->CodeHd h c Pt)->FnOkG l.prog w (K w.params) mg base CX0 17 fa fd ["_law_script"] (spLaw (K w.params) Pt)) :
  PySem.W.WalkO q loose XP YP l.row.toRowW d [] (fun f vs=>PySem.call f vs):=by
 refine Att.zhV hn hdf fun w s0 s1 mg mb fa o pm cd doc a vs ns G Y ho hd hcd hmg hobj hints hlen hg=>?_
 have KX:=hY w _ Y
 obtain ⟨fd,c,Pt,ht,hKP,hb,hF⟩:=F w mg fa _ KX G.T.g hmg
 obtain ⟨hC,hP⟩:=tab_of G.T KX hq ht
 have hB:Bm mg s1.heap:=by
  obtain ⟨bm,ob,e1,e2,e3,e4,e5,e6⟩:=G.T.bmain
  refine ⟨bm,ob,e1,e2,fun z=>?_,e3,e4,e5,e6⟩
  obtain ⟨o',es,ep,g1,g2,_⟩:=G.T.g
  rw [z,g1] at e3
  cases e3
  rw [e6] at g2
  cases g2
 exact zkD KX G.T.g G.T.b G.T.builtins G.T.nolimit hg hobj hints (Nat.le_trans hlen (by decide)) ⟨rfl,by decide,by decide⟩ hC hP hKP hB (fun base kb nb bb=>hF base kb nb bb (zjk KX ht hC)) hb
  fun H nl hH hS=>⟨a,ns,rfl,hS,nl,hlen,.inl hH,fun _=>rfl⟩
end Lw
namespace Lw
open PySem PySem.Spec PyProof.Rows PySem.W L2
theorem len1 {us:List Value}{P:List Value->Prop}(h:us.length=1)(k:∀ a,P [a]):P us:=match us,h with | [a],_=>k a
theorem len2 {us:List Value}{P:List Value->Prop}(h:us.length=2)(k:∀ a b,P [a,b]):P us:=match us,h with | [a,b],_=>k a b
theorem len3 {us:List Value}{P:List Value->Prop}(h:us.length=3)(k:∀ a b c,P [a,b,c]):P us:=match us,h with | [a,b,c],_=>k a b c
theorem len5 {us:List Value}{P:List Value->Prop}(h:us.length=5)(k:∀ a b c d e,P [a,b,c,d,e]):P us:=match us,h with | [a,b,c,d,e],_=>k a b c d e
theorem zpp {l:PySem.W.OpenLaw}{w:World}{K:PySem.W.Frag}{h:Heap}{mg:Str->Option Value}{fa C cc Pt f1 f2 f3 f4 f5 f6 f7 f8 f9 f10 f11 f12 f13 f14 f15 f16 f17 f18 f19 f20 f21 f22 f23 f24 f25 f26 f27 f28 f29 f30 f31 f32 f33 f34 f35 f36 f37 f38 f39 f40 C_NoTerm:Addr}(X:K.In h)(G:h.Ns mainGlobals mg)(hfa:mg "law" = some (.ref fa))
  {od1 an1 od2 an2 od3 an3 od4 an4 od5 an5 od6 an6 od7 an7 od8 an8 od9 an9 od10 an10 od11 an11 od12 an12 od13 an13 od14 an14 od15 an15 od16 an16 od17 an17 od18 an18 od19 an19 od20 an20 od21 an21 od22 an22 od23 an23 od24 an24 od25 an25 od26 an26 od27 an27 od28 an28 od29 an29 od30 an30 od31 an31 od32 an32 od33 an33 od34 an34 od35 an35 od36 an36 od37 an37 od38 an38 od39 an39 od40 an40:Option Addr} {sl1 sl2 sl3 sl4 sl5 sl6 sl7 sl8 sl9 sl10 sl11 sl12 sl13 sl14 sl15 sl16 sl17 sl18 sl19 sl20 sl21 sl22 sl23 sl24 sl25 sl26 sl27 sl28 sl29 sl30 sl31 sl32 sl33 sl34 sl35 sl36 sl37 sl38 sl39 sl40:Array (Option Value)} {oc1 kV1 dc1 pm1 ct1 cd1 oc2 kV2 dc2 pm2 ct2 cd2 oc3 kV3 dc3 pm3 ct3 cd3 oc4 kV4 dc4 pm4 ct4 cd4 oc5 kV5 dc5 pm5 ct5 cd5 oc6 kV6 dc6 pm6 ct6 cd6 oc7 kV7 dc7 pm7 ct7 cd7 oc8 kV8 dc8 pm8 ct8 cd8 oc9 kV9 dc9 pm9 ct9 cd9 oc10 kV10 dc10 pm10 ct10 cd10 oc11 kV11 dc11 pm11 ct11 cd11 oc12 kV12 dc12 pm12 ct12 cd12 oc13 kV13 dc13 pm13 ct13 cd13 oc14 kV14 dc14 pm14 ct14 cd14 oc15 kV15 dc15 pm15 ct15 cd15 oc16 kV16 dc16 pm16 ct16 cd16 oc17 kV17 dc17 pm17 ct17 cd17 oc18 kV18 dc18 pm18 ct18 cd18 oc19 kV19 dc19 pm19 ct19 cd19 oc20 kV20 dc20 pm20 ct20 cd20 oc21 kV21 dc21 pm21 ct21 cd21 oc22 kV22 dc22 pm22 ct22 cd22 oc23 kV23 dc23 pm23 ct23 oc24 kV24 dc24 pm24 ct24 cd24 oc25 kV25 dc25 pm25 ct25 cd25 oc26 kV26 dc26 pm26 ct26 cd26 oc27 kV27 dc27 pm27 ct27 cd27 oc28 kV28 dc28 pm28 ct28 cd28 oc29 kV29 dc29 pm29 ct29 cd29 oc30 kV30 dc30 pm30 ct30 cd30 oc31 kV31 dc31 pm31 ct31 cd31 oc32 kV32 dc32 pm32 ct32 cd32 oc33 kV33 dc33 pm33 ct33 cd33 oc34 kV34 dc34 pm34 ct34 cd34 oc35 kV35 dc35 pm35 ct35 cd35 oc36 kV36 dc36 pm36 ct36 cd36 oc37 kV37 dc37 pm37 ct37 cd37 oc38 kV38 dc38 pm38 ct38 cd38 oc39 kV39 dc39 pm39 ct39 cd39 oc40 kV40 dc40 pm40 ct40 cd40:Value} {tk0 tk1 tk2 tk3 tk4 tk5 tk6 tk7:Tok} {odq:Option Addr} {ocq:Value} {vq:Array Value} {slq:Array (Option Value)}
  (m0:nsIn K mainGlobals "Signs" = some (some (.ref C)))
  (e0:nsIn K mainGlobals "NoTerm" = some (some (.ref C_NoTerm)))
  (x0:excIn K C_NoTerm zmB "ValueError.__new__" = true)
  (a1:nsIn K mainGlobals "_law_cell" = some (some (.ref f1)))
  (l1:K.lookup f1=some ⟨oc1,od1,.func (PySem.W.fnOf "_law_cell" "_law_cell" (zam zbn) (zak zbn) (zad zbn) .none kV1 dc1 pm1 an1 cd1 ct1),sl1⟩)
  (c1:codeIn K cd1 "_law_cell" = true)
  (k1:keepIn K (.ref f1)=true)
  (a2:nsIn K mainGlobals "_law_pot" = some (some (.ref f2)))
  (l2:K.lookup f2=some ⟨oc2,od2,.func (PySem.W.fnOf "_law_pot" "_law_pot" (zam zbw) (zak zbw) (zad zbw) .none kV2 dc2 pm2 an2 cd2 ct2),sl2⟩)
  (c2:codeIn K cd2 "_law_pot" = true)
  (k2:keepIn K (.ref f2)=true)
  (a3:nsIn K mainGlobals "_law_take" = some (some (.ref f3)))
  (l3:K.lookup f3=some ⟨oc3,od3,.func (PySem.W.fnOf "_law_take" "_law_take" (zam zbm) (zak zbm) (zad zbm) .none kV3 dc3 pm3 an3 cd3 ct3),sl3⟩)
  (c3:codeIn K cd3 "_law_take" = true)
  (k3:keepIn K (.ref f3)=true)
  (a4:nsIn K mainGlobals "_law_word" = some (some (.ref f4)))
  (l4:K.lookup f4=some ⟨oc4,od4,.func (PySem.W.fnOf "_law_word" "_law_word" (zam zbl) (zak zbl) (zad zbl) .none kV4 dc4 pm4 an4 cd4 ct4),sl4⟩)
  (c4:codeIn K cd4 "_law_word" = true)
  (k4:keepIn K (.ref f4)=true)
  (a5:nsIn K mainGlobals "_law_names" = some (some (.ref f5)))
  (l5:K.lookup f5=some ⟨oc5,od5,.func (PySem.W.fnOf "_law_names" "_law_names" (zam za7) (zak za7) (zad za7) .none kV5 dc5 pm5 an5 cd5 ct5),sl5⟩)
  (c5:codeIn K cd5 "_law_names" = true)
  (k5:keepIn K (.ref f5)=true)
  (a6:nsIn K mainGlobals "_law_signs" = some (some (.ref f6)))
  (l6:K.lookup f6=some ⟨oc6,od6,.func (PySem.W.fnOf "_law_signs" "_law_signs" (zam zaK) (zak zaK) (zad zaK) .none kV6 dc6 pm6 an6 cd6 ct6),sl6⟩)
  (c6:codeIn K cd6 "_law_signs" = true)
  (k6:keepIn K (.ref f6)=true)
  (a7:nsIn K mainGlobals "_law_drawn" = some (some (.ref f7)))
  (l7:K.lookup f7=some ⟨oc7,od7,.func (PySem.W.fnOf "_law_drawn" "_law_drawn" (zam za9) (zak za9) (zad za9) .none kV7 dc7 pm7 an7 cd7 ct7),sl7⟩)
  (c7:codeIn K cd7 "_law_drawn" = true)
  (k7:keepIn K (.ref f7)=true)
  (a8:nsIn K mainGlobals "_law_leaf" = some (some (.ref f8)))
  (l8:K.lookup f8=some ⟨oc8,od8,.func (PySem.W.fnOf "_law_leaf" "_law_leaf" (zam za8) (zak za8) (zad za8) .none kV8 dc8 pm8 an8 cd8 ct8),sl8⟩)
  (c8:codeIn K cd8 "_law_leaf" = true)
  (k8:keepIn K (.ref f8)=true)
  (a9:nsIn K mainGlobals "_law_heads" = some (some (.ref f9)))
  (l9:K.lookup f9=some ⟨oc9,od9,.func (PySem.W.fnOf "_law_heads" "_law_heads" (zam zaL) (zak zaL) (zad zaL) .none kV9 dc9 pm9 an9 cd9 ct9),sl9⟩)
  (c9:codeIn K cd9 "_law_heads" = true)
  (k9:keepIn K (.ref f9)=true)
  (a10:nsIn K mainGlobals "_law_term" = some (some (.ref f10)))
  (l10:K.lookup f10=some ⟨oc10,od10,.func (PySem.W.fnOf "_law_term" "_law_term" (zam zaZ) (zak zaZ) (zad zaZ) .none kV10 dc10 pm10 an10 cd10 ct10),sl10⟩)
  (c10:codeIn K cd10 "_law_term" = true)
  (k10:keepIn K (.ref f10)=true)
  (a11:findIn K (.ref C) "many" = some (some (.ref f11)))
  (l11:K.lookup f11=some ⟨oc11,od11,.func (PySem.W.fnOf "many" "Signs.many" (zam zba) (zak zba) (zad zba) .none kV11 dc11 pm11 an11 cd11 ct11),sl11⟩)
  (c11:codeIn K cd11 "Signs.many" = true)
  (k11:keepIn K (.ref f11)=true)
  (n11:isFn K (.ref f11)=true)
  (a12:findIn K (.ref C) "nought" = some (some (.ref f12)))
  (l12:K.lookup f12=some ⟨oc12,od12,.func (PySem.W.fnOf "nought" "Signs.nought" (zam zaO) (zak zaO) (zad zaO) .none kV12 dc12 pm12 an12 cd12 ct12),sl12⟩)
  (c12:codeIn K cd12 "Signs.nought" = true)
  (k12:keepIn K (.ref f12)=true)
  (n12:isFn K (.ref f12)=true)
  (a13:nsIn K mainGlobals "is_wish" = some (some (.ref f13)))
  (l13:K.lookup f13=some ⟨oc13,od13,.func (PySem.W.fnOf "is_wish" "is_wish" (zam zbE) (zak zbE) (zad zbE) .none kV13 dc13 pm13 an13 cd13 ct13),sl13⟩)
  (c13:codeIn K cd13 "is_wish" = true)
  (k13:keepIn K (.ref f13)=true)
  (a14:nsIn K mainGlobals "is_built" = some (some (.ref f14)))
  (l14:K.lookup f14=some ⟨oc14,od14,.func (PySem.W.fnOf "is_built" "is_built" (zam zbu) (zak zbu) (zad zbu) .none kV14 dc14 pm14 an14 cd14 ct14),sl14⟩)
  (c14:codeIn K cd14 "is_built" = true)
  (k14:keepIn K (.ref f14)=true)
  (a15:nsIn K mainGlobals "check_term" = some (some (.ref f15)))
  (l15:K.lookup f15=some ⟨oc15,od15,.func (PySem.W.fnOf "check_term" "check_term" (zam zaW) (zak zaW) (zad zaW) .none kV15 dc15 pm15 an15 cd15 ct15),sl15⟩)
  (c15:codeIn K cd15 "check_term" = true)
  (k15:keepIn K (.ref f15)=true)
  (a16:nsIn K mainGlobals "walked" = some (some (.ref f16)))
  (l16:K.lookup f16=some ⟨oc16,od16,.func (PySem.W.fnOf "walked" "walked" (zam zck) (zak zck) (zad zck) .none kV16 dc16 pm16 an16 cd16 ct16),sl16⟩)
  (c16:codeIn K cd16 "walked" = true)
  (k16:keepIn K (.ref f16)=true)
  (a17:nsIn K mainGlobals "order_mark" = some (some (.ref f17)))
  (l17:K.lookup f17=some ⟨oc17,od17,.func (PySem.W.fnOf "order_mark" "order_mark" (zam za5) (zak za5) (zad za5) .none kV17 dc17 pm17 an17 cd17 ct17),sl17⟩)
  (c17:codeIn K cd17 "order_mark" = true)
  (k17:keepIn K (.ref f17)=true)
  (a18:nsIn K mainGlobals "order_key" = some (some (.ref f18)))
  (l18:K.lookup f18=some ⟨oc18,od18,.func (PySem.W.fnOf "order_key" "order_key" (zam za6) (zak za6) (zad za6) .none kV18 dc18 pm18 an18 cd18 ct18),sl18⟩)
  (c18:codeIn K cd18 "order_key" = true)
  (k18:keepIn K (.ref f18)=true)
  (a19:nsIn K mainGlobals "opened" = some (some (.ref f19)))
  (l19:K.lookup f19=some ⟨oc19,od19,.func (PySem.W.fnOf "opened" "opened" (zam zcm) (zak zcm) (zad zcm) .none kV19 dc19 pm19 an19 cd19 ct19),sl19⟩)
  (c19:codeIn K cd19 "opened" = true)
  (k19:keepIn K (.ref f19)=true)
  (a20:nsIn K mainGlobals "flat_sum" = some (some (.ref f20)))
  (l20:K.lookup f20=some ⟨oc20,od20,.func (PySem.W.fnOf "flat_sum" "flat_sum" (zam zbv) (zak zbv) (zad zbv) .none kV20 dc20 pm20 an20 cd20 ct20),sl20⟩)
  (c20:codeIn K cd20 "flat_sum" = true)
  (k20:keepIn K (.ref f20)=true)
  (a21:nsIn K mainGlobals "flat_of_parts" = some (some (.ref f21)))
  (l21:K.lookup f21=some ⟨oc21,od21,.func (PySem.W.fnOf "flat_of_parts" "flat_of_parts" (zam zaF) (zak zaF) (zad zaF) .none kV21 dc21 pm21 an21 cd21 ct21),sl21⟩)
  (c21:codeIn K cd21 "flat_of_parts" = true)
  (k21:keepIn K (.ref f21)=true)
  (a22:nsIn K mainGlobals "from_within" = some (some (.ref f22)))
  (l22:K.lookup f22=some ⟨oc22,od22,.func (PySem.W.fnOf "from_within" "from_within" (zam zaI) (zak zaI) (zad zaI) .none kV22 dc22 pm22 an22 cd22 ct22),sl22⟩)
  (c22:codeIn K cd22 "from_within" = true)
  (k22:keepIn K (.ref f22)=true)
  (a23:nsIn K mainGlobals "put_in" = some (some (.ref f23)))
  (l23:K.lookup f23=some ⟨oc23,od23,.func (PySem.W.fnOf "put_in" "put_in" (zam zaS) (zak zaS) (zad zaS) .none kV23 dc23 pm23 an23 (.ref cc) ct23),sl23⟩)
  (c23:codeIn K (.ref cc) "put_in" = true)
  (k23:keepIn K (.ref f23)=true)
  (t2:K.lookup cc=some ⟨ocq,odq,.fields vq,slq⟩)
  (t3:vq[11]?=some (.ref Pt))
  (t0:tabIn K "put_in" = some (cc,Pt))
  (t1:K.lookup Pt=none)
  (a24:nsIn K mainGlobals "flat" = some (some (.ref f24)))
  (l24:K.lookup f24=some ⟨oc24,od24,.func (PySem.W.fnOf "flat" "flat" (zam zer) (zak zer) (zad zer) .none kV24 dc24 pm24 an24 cd24 ct24),sl24⟩)
  (c24:codeIn K cd24 "flat" = true)
  (k24:keepIn K (.ref f24)=true)
  (a25:nsIn K mainGlobals "is_name" = some (some (.ref f25)))
  (l25:K.lookup f25=some ⟨oc25,od25,.func (PySem.W.fnOf "is_name" "is_name" (zam zbF) (zak zbF) (zad zbF) .none kV25 dc25 pm25 an25 cd25 ct25),sl25⟩)
  (c25:codeIn K cd25 "is_name" = true)
  (k25:keepIn K (.ref f25)=true)
  (a26:nsIn K mainGlobals "is_whole" = some (some (.ref f26)))
  (l26:K.lookup f26=some ⟨oc26,od26,.func (PySem.W.fnOf "is_whole" "is_whole" (zam zbt) (zak zbt) (zad zbt) .none kV26 dc26 pm26 an26 cd26 ct26),sl26⟩)
  (c26:codeIn K cd26 "is_whole" = true)
  (k26:keepIn K (.ref f26)=true)
  (a27:nsIn K mainGlobals "checked_pairs" = some (some (.ref f27)))
  (l27:K.lookup f27=some ⟨oc27,od27,.func (PySem.W.fnOf "checked_pairs" "checked_pairs" (zam zaA) (zak zaA) (zad zaA) .none kV27 dc27 pm27 an27 cd27 ct27),sl27⟩)
  (c27:codeIn K cd27 "checked_pairs" = true)
  (k27:keepIn K (.ref f27)=true)
  (a28:nsIn K mainGlobals "check_names" = some (some (.ref f28)))
  (l28:K.lookup f28=some ⟨oc28,od28,.func (PySem.W.fnOf "check_names" "check_names" (zam zaE) (zak zaE) (zad zaE) .none kV28 dc28 pm28 an28 cd28 ct28),sl28⟩)
  (c28:codeIn K cd28 "check_names" = true)
  (k28:keepIn K (.ref f28)=true)
  (a29:nsIn K mainGlobals "check_parts" = some (some (.ref f29)))
  (l29:K.lookup f29=some ⟨oc29,od29,.func (PySem.W.fnOf "check_parts" "check_parts" (zam zaJ) (zak zaJ) (zad zaJ) .none kV29 dc29 pm29 an29 cd29 ct29),sl29⟩)
  (c29:codeIn K cd29 "check_parts" = true)
  (k29:keepIn K (.ref f29)=true)
  (a30:nsIn K mainGlobals "check_noughts" = some (some (.ref f30)))
  (l30:K.lookup f30=some ⟨oc30,od30,.func (PySem.W.fnOf "check_noughts" "check_noughts" (zam zaB) (zak zaB) (zad zaB) .none kV30 dc30 pm30 an30 cd30 ct30),sl30⟩)
  (c30:codeIn K cd30 "check_noughts" = true)
  (k30:keepIn K (.ref f30)=true)
  (a31:findIn K (.ref C) "__init__" = some (some (.ref f31)))
  (l31:K.lookup f31=some ⟨oc31,od31,.func (PySem.W.fnOf "__init__" "Signs.__init__" (zam zaw) (zak zaw) (zad zaw) .none kV31 dc31 pm31 an31 cd31 ct31),sl31⟩)
  (c31:codeIn K cd31 "Signs.__init__" = true)
  (k31:keepIn K (.ref f31)=true)
  (n31:isFn K (.ref f31)=true)
  (a32:nsIn K mainGlobals "pieces" = some (some (.ref f32)))
  (l32:K.lookup f32=some ⟨oc32,od32,.func (PySem.W.fnOf "pieces" "pieces" (zam zcl) (zak zcl) (zad zcl) .none kV32 dc32 pm32 an32 cd32 ct32),sl32⟩)
  (c32:codeIn K cd32 "pieces" = true)
  (k32:keepIn K (.ref f32)=true)
  (a33:nsIn K mainGlobals "write" = some (some (.ref f33)))
  (l33:K.lookup f33=some ⟨oc33,od33,.func (PySem.W.fnOf "write" "write" (zam zc3) (zak zc3) (zad zc3) .none kV33 dc33 pm33 an33 cd33 ct33),sl33⟩)
  (c33:codeIn K cd33 "write" = true)
  (k33:keepIn K (.ref f33)=true)
  (a34:nsIn K mainGlobals "unbracketed" = some (some (.ref f34)))
  (l34:K.lookup f34=some ⟨oc34,od34,.func (PySem.W.fnOf "unbracketed" "unbracketed" (zam zaY) (zak zaY) (zad zaY) .none kV34 dc34 pm34 an34 cd34 ct34),sl34⟩)
  (c34:codeIn K cd34 "unbracketed" = true)
  (k34:keepIn K (.ref f34)=true)
  (a35:nsIn K mainGlobals "is_term" = some (some (.ref f35)))
  (l35:K.lookup f35=some ⟨oc35,od35,.func (PySem.W.fnOf "is_term" "is_term" (zam zbR) (zak zbR) (zad zbR) .none kV35 dc35 pm35 an35 cd35 ct35),sl35⟩)
  (c35:codeIn K cd35 "is_term" = true)
  (k35:keepIn K (.ref f35)=true)
  (a36:nsIn K mainGlobals "read" = some (some (.ref f36)))
  (l36:K.lookup f36=some ⟨oc36,od36,.func (PySem.W.fnOf "read" "read" (zam zeq) (zak zeq) (zad zeq) .none kV36 dc36 pm36 an36 cd36 ct36),sl36⟩)
  (c36:codeIn K cd36 "read" = true)
  (k36:keepIn K (.ref f36)=true)
  (a37:nsIn K mainGlobals "_law_written" = some (some (.ref f37)))
  (l37:K.lookup f37=some ⟨oc37,od37,.func (PySem.W.fnOf "_law_written" "_law_written" (zam zau) (zak zau) (zad zau) .none kV37 dc37 pm37 an37 cd37 ct37),sl37⟩)
  (c37:codeIn K cd37 "_law_written" = true)
  (k37:keepIn K (.ref f37)=true)
  (a38:nsIn K mainGlobals "_law_tupled" = some (some (.ref f38)))
  (l38:K.lookup f38=some ⟨oc38,od38,.func (PySem.W.fnOf "_law_tupled" "_law_tupled" (zam zaz) (zak zaz) (zad zaz) .none kV38 dc38 pm38 an38 cd38 ct38),sl38⟩)
  (c38:codeIn K cd38 "_law_tupled" = true)
  (k38:keepIn K (.ref f38)=true)
  (a39:nsIn K mainGlobals "_law_goes_round" = some (some (.ref f39)))
  (l39:K.lookup f39=some ⟨oc39,od39,.func (PySem.W.fnOf "_law_goes_round" "_law_goes_round" (zam zax) (zak zax) (zad zax) .none kV39 dc39 pm39 an39 cd39 ct39),sl39⟩)
  (c39:codeIn K cd39 "_law_goes_round" = true)
  (k39:keepIn K (.ref f39)=true)
  (a40:nsIn K mainGlobals "law" = some (some (.ref f40)))
  (l40:K.lookup f40=some ⟨oc40,od40,.func (PySem.W.fnOf "law" "law" (zam zeX) (zak zeX) (zad zeX) .none kV40 dc40 pm40 an40 cd40 ct40),sl40⟩)
  (c40:codeIn K cd40 "law" = true)
  (k40:keepIn K (.ref f40)=true)
  (g1:plainGet K C Str.empty=true)
  (g2:hasDictIn K C=true)
  (g3:plainOver K C=true)
  (g4:findIn K (.ref C) "__setattr__" = some (some (.builtin "object.__setattr__")))
  (h0:findIn K (.ref C) "fixed_rows" = some none)
  (h1:findIn K (.ref C) "sum_rows" = some none)
  (h2:findIn K (.ref C) "many_by_name" = some none)
  (h3:findIn K (.ref C) "nought_by_name" = some none)
  (g5:makesIn K C=true)
  (g6:keepIn K (.ref C)=true)
  (v0:nsIn K mainGlobals "WISH_SIGNS" = some (some (.str "abcdefghijklmnopqrstuvwxyz0123456789" tk0)))
  (v1:nsIn K mainGlobals "LETTERS" = some (some (.str "abcdefghijklmnopqrstuvwxyz" tk1)))
  (v2:nsIn K mainGlobals "LONGEST_WISH" = some (some (.int 9 tk2)))
  (v3:nsIn K mainGlobals "DEEPEST" = some (some (.int 1000 tk3)))
  (v4:nsIn K mainGlobals "LONGEST_NAME" = some (some (.int 6 tk4)))
  (v5:nsIn K mainGlobals "MOST_FIXED" = some (some (.int 12 tk5)))
  (v6:nsIn K mainGlobals "MOST_SUMS" = some (some (.int 3 tk6)))
  (v7:nsIn K mainGlobals "MOST_PARTS" = some (some (.int 3 tk7)))
  (z0:nsIn K mainGlobals "len" = some none)
  (z1:nsIn K mainGlobals "range" = some none)
  (z2:nsIn K mainGlobals "int" = some none)
  (z3:nsIn K mainGlobals "abs" = some none)
  (z4:nsIn K mainGlobals "min" = some none)
  (z5:nsIn K mainGlobals "max" = some none)
  (z6:nsIn K mainGlobals "tuple" = some none)
  (z7:nsIn K mainGlobals "list" = some none)
  (z8:nsIn K mainGlobals "dict" = some none)
  (z9:nsIn K mainGlobals "set" = some none)
  (z10:nsIn K mainGlobals "isinstance" = some none)
  (z11:nsIn K mainGlobals "str" = some none)
  (z12:nsIn K mainGlobals "bool" = some none)
  (z13:nsIn K mainGlobals "sorted" = some none)
  (z14:nsIn K mainGlobals "reversed" = some none)
  (z15:nsIn K mainGlobals "all" = some none)
  (z16:nsIn K mainGlobals "any" = some none)
  (z17:nsIn K mainGlobals "zip" = some none)
  (z18:nsIn K mainGlobals "repr" = some none)
  : ∃ (fd:FuncData) (c Pt:Addr),tabIn K "put_in" = some (c,Pt)/\K.lookup Pt=none/\(∀ (s:Shared) (v:Value),BindsTo s fd ⟨[v],[]⟩ [("_law_script",v)]) /\
   ∀ base:Heap,K.In base->base.Ns mainGlobals mg->Bm mg base->(∀ h,K.In h->CodeHd h c Pt)->FnOkG l.prog w K mg base CX0 17 fa fd ["_law_script"] (spLaw K Pt):=by
 have e:=hfa.symm.trans (PySem.W.mg_of X G a40)
 cases e
 have T:Txt mg:=⟨PySem.W.mg_none_of X G z0,PySem.W.mg_none_of X G z1,PySem.W.mg_none_of X G z2,PySem.W.mg_none_of X G z3,PySem.W.mg_none_of X G z4,PySem.W.mg_none_of X G z5,PySem.W.mg_none_of X G z6,PySem.W.mg_none_of X G z7,PySem.W.mg_none_of X G z8,PySem.W.mg_none_of X G z9,PySem.W.mg_none_of X G z10,PySem.W.mg_none_of X G z11,PySem.W.mg_none_of X G z12,PySem.W.mg_none_of X G z13,PySem.W.mg_none_of X G z14,PySem.W.mg_none_of X G z15,PySem.W.mg_none_of X G z16,PySem.W.mg_none_of X G z17,PySem.W.mg_none_of X G z18,⟨_,PySem.W.mg_of X G v0,⟨_,rfl⟩⟩,⟨_,PySem.W.mg_of X G v1,⟨_,rfl⟩⟩,⟨_,PySem.W.mg_of X G v2,⟨_,rfl⟩⟩,⟨_,PySem.W.mg_of X G v3,⟨_,rfl⟩⟩,⟨_,PySem.W.mg_of X G v4,⟨_,rfl⟩⟩,⟨_,PySem.W.mg_of X G v5,⟨_,rfl⟩⟩,⟨_,PySem.W.mg_of X G v6,⟨_,rfl⟩⟩,⟨_,PySem.W.mg_of X G v7,⟨_,rfl⟩⟩⟩
 have hm_NoTerm:=PySem.W.mg_of X G e0
 have hx_NoTerm:ExcIn K C_NoTerm:=x0
 have cl:Cls K C:=⟨g1,g2,g3,g4⟩
 have co:ClsOk K C:=⟨cl,h0,h1,h2,h3⟩
 have F1:=zat (st:=zbn) l1 c1 k1
 have b1:=F1.binds (ps:=zde) fun _ _ _ _ _ _ us hl=>by apply len2 hl;intros;rfl
 have F2:=zat (st:=zbw) l2 c2 k2
 have b2:=F2.binds (ps:=zdJ) fun _ _ _ _ _ _ us hl=>by apply len2 hl;intros;rfl
 have F3:=zat (st:=zbm) l3 c3 k3
 have b3:=F3.binds (ps:=zdc) fun _ _ _ _ _ _ us hl=>by apply len2 hl;intros;rfl
 have F4:=zat (st:=zbl) l4 c4 k4
 have b4:=F4.binds (ps:=zdb) fun _ _ _ _ _ _ us hl=>by apply len2 hl;intros;rfl
 have F5:=zat (st:=za7) l5 c5 k5
 have b5:=F5.binds (ps:=zcN) fun _ _ _ _ _ _ us hl=>by apply len2 hl;intros;rfl
 have F6:=zat (st:=zaK) l6 c6 k6
 have b6:=F6.binds (ps:=zcM) fun _ _ _ _ _ _ us hl=>by apply len1 hl;intros;rfl
 have F7:=zat (st:=za9) l7 c7 k7
 have b7:=F7.binds (ps:=zcP) fun _ _ _ _ _ _ us hl=>by apply len1 hl;intros;rfl
 have F8:=zat (st:=za8) l8 c8 k8
 have b8:=F8.binds (ps:=zdd) fun _ _ _ _ _ _ us hl=>by apply len3 hl;intros;rfl
 have F9:=zat (st:=zaL) l9 c9 k9
 have b9:=F9.binds (ps:=zcO) fun _ _ _ _ _ _ us hl=>by apply len2 hl;intros;rfl
 have F10:=zat (st:=zaZ) l10 c10 k10
 have b10:=F10.binds (ps:=zbA) fun _ _ _ _ _ _ us hl=>by apply len5 hl;intros;rfl
 have F11:=zat (st:=zba) l11 c11 k11
 have b11:=F11.binds (ps:=zcQ) fun _ _ _ _ _ _ us hl=>by apply len2 hl;intros;rfl
 have F12:=zat (st:=zaO) l12 c12 k12
 have b12:=F12.binds (ps:=zca) fun _ _ _ _ _ _ us hl=>by apply len2 hl;intros;rfl
 have F13:=zat (st:=zbE) l13 c13 k13
 have b13:=F13.binds (ps:=zeO) fun _ _ _ _ _ _ us hl=>by apply len1 hl;intros;rfl
 have F14:=zat (st:=zbu) l14 c14 k14
 have b14:=F14.binds (ps:=zdH) fun _ _ _ _ _ _ us hl=>by apply len2 hl;intros;rfl
 have F15:=zat (st:=zaW) l15 c15 k15
 have b15:=F15.binds (ps:=zcL) fun _ _ _ _ _ _ us hl=>by apply len2 hl;intros;rfl
 have F16:=zat (st:=zck) l16 c16 k16
 have b16:=F16.binds (ps:=zf3) fun _ _ _ _ _ _ us hl=>by apply len1 hl;intros;rfl
 have F17:=zat (st:=za5) l17 c17 k17
 have b17:=F17.binds (ps:=zcK) fun _ _ _ _ _ _ us hl=>by apply len1 hl;intros;rfl
 have F18:=zat (st:=za6) l18 c18 k18
 have b18:=F18.binds (ps:=zda) fun _ _ _ _ _ _ us hl=>by apply len1 hl;intros;rfl
 have F19:=zat (st:=zcm) l19 c19 k19
 have b19:=F19.binds (ps:=zf6) fun _ _ _ _ _ _ us hl=>by apply len2 hl;intros;rfl
 have F20:=zat (st:=zbv) l20 c20 k20
 have b20:=F20.binds (ps:=zdI) fun _ _ _ _ _ _ us hl=>by apply len3 hl;intros;rfl
 have F21:=zat (st:=zaF) l21 c21 k21
 have b21:=F21.binds (ps:=zbX) fun _ _ _ _ _ _ us hl=>by apply len3 hl;intros;rfl
 have F22:=zat (st:=zaI) l22 c22 k22
 have b22:=F22.binds (ps:=zcq) fun _ _ _ _ _ _ us hl=>by apply len3 hl;intros;rfl
 have F23:=zat (st:=zaS) l23 c23 k23
 have b23:=F23.binds (ps:=zf4) fun _ _ _ _ _ _ us hl=>by apply len3 hl;intros;rfl
 have F24:=zat (st:=zer) l24 c24 k24
 have b24:=F24.binds (ps:=zlp) fun _ _ _ _ _ _ us hl=>by apply len2 hl;intros;rfl
 have F25:=zat (st:=zbF) l25 c25 k25
 have b25:=F25.binds (ps:=zeQ) fun _ _ _ _ _ _ us hl=>by apply len1 hl;intros;rfl
 have F26:=zat (st:=zbt) l26 c26 k26
 have b26:=F26.binds (ps:=zdG) fun _ _ _ _ _ _ us hl=>by apply len1 hl;intros;rfl
 have F27:=zat (st:=zaA) l27 c27 k27
 have b27:=F27.binds (ps:=zbY) fun _ _ _ _ _ _ us hl=>by apply len3 hl;intros;rfl
 have F28:=zat (st:=zaE) l28 c28 k28
 have b28:=F28.binds (ps:=zcs) fun _ _ _ _ _ _ us hl=>by apply len1 hl;intros;rfl
 have F29:=zat (st:=zaJ) l29 c29 k29
 have b29:=F29.binds (ps:=zcr) fun _ _ _ _ _ _ us hl=>by apply len1 hl;intros;rfl
 have F30:=zat (st:=zaB) l30 c30 k30
 have b30:=F30.binds (ps:=zbZ) fun _ _ _ _ _ _ us hl=>by apply len2 hl;intros;rfl
 have F31:=zat (st:=zaw) l31 c31 k31
 have b31:=F31.binds (ps:=zbI) fun _ _ _ _ _ _ us hl=>by apply len3 hl;intros;rfl
 have F32:=zat (st:=zcl) l32 c32 k32
 have b32:=F32.binds (ps:=zf5) fun _ _ _ _ _ _ us hl=>by apply len1 hl;intros;rfl
 have F33:=zat (st:=zc3) l33 c33 k33
 have b33:=F33.binds (ps:=zhY) fun _ _ _ _ _ _ us hl=>by apply len2 hl;intros;rfl
 have F34:=zat (st:=zaY) l34 c34 k34
 have b34:=F34.binds (ps:=zcp) fun _ _ _ _ _ _ us hl=>by apply len1 hl;intros;rfl
 have F35:=zat (st:=zbR) l35 c35 k35
 have b35:=F35.binds (ps:=zeP) fun _ _ _ _ _ _ us hl=>by apply len2 hl;intros;rfl
 have F36:=zat (st:=zeq) l36 c36 k36
 have b36:=F36.binds (ps:=zlo) fun _ _ _ _ _ _ us hl=>by apply len2 hl;intros;rfl
 have F37:=zat (st:=zau) l37 c37 k37
 have b37:=F37.binds (ps:=za3) fun _ _ _ _ _ _ us hl=>by apply len1 hl;intros;rfl
 have F38:=zat (st:=zaz) l38 c38 k38
 have b38:=F38.binds (ps:=zbe) fun _ _ _ _ _ _ us hl=>by apply len1 hl;intros;rfl
 have F39:=zat (st:=zax) l39 c39 k39
 have b39:=F39.binds (ps:=zbB) fun _ _ _ _ _ _ us hl=>by apply len2 hl;intros;rfl
 have F40:=zat (st:=zeX) l40 c40 k40
 refine ⟨PySem.W.fnOf "law" "law" (zam zeX) (zak zeX) (zad zeX) .none kV40 dc40 pm40 an40 cd40 ct40,cc,Pt,t0,t1,fun s v=>.of_eq rfl,fun base _ _ hB hC=>?_⟩
 have O__law_cell:Own l.prog w K mg base CX0 1 "_law_cell" (zjR K):=⟨f1,_,_,znS F1 T,PySem.W.mg_of X G a1,k1,b1⟩
 have O__law_pot:Own l.prog w K mg base CX0 2 "_law_pot" (spPot K):=⟨f2,_,_,zoY F2 T O__law_cell,PySem.W.mg_of X G a2,k2,b2⟩
 have O__law_take:Own l.prog w K mg base CX0 1 "_law_take" zcw:=⟨f3,_,_,znL F3 T,PySem.W.mg_of X G a3,k3,b3⟩
 have O__law_word:Own l.prog w K mg base CX0 1 "_law_word" zjK:=⟨f4,_,_,znI F4 T,PySem.W.mg_of X G a4,k4,b4⟩
 have O__law_names:Own l.prog w K mg base CX0 2 "_law_names" zhr:=⟨f5,_,_,zl3 F5 T O__law_take O__law_word,PySem.W.mg_of X G a5,k5,b5⟩
 have O__law_signs:Own l.prog w K mg base CX0 3 "_law_signs" zhm:=⟨f6,_,_,zlY F6 T O__law_take O__law_names,PySem.W.mg_of X G a6,k6,b6⟩
 have O__law_drawn:Own l.prog w K mg base CX0 2 "_law_drawn" zht:=⟨f7,_,_,zl6 F7 T O__law_take,PySem.W.mg_of X G a7,k7,b7⟩
 have O__law_leaf:Own l.prog w K mg base CX0 2 "_law_leaf" ze0:=⟨f8,_,_,znQ F8 T O__law_take,PySem.W.mg_of X G a8,k8,b8⟩
 have O__law_heads:Own l.prog w K mg base CX0 1 "_law_heads" zei:=⟨f9,_,_,zl4 F9 T,PySem.W.mg_of X G a9,k9,b9⟩
 have O__law_term:Own l.prog w K mg base CX0 15 "_law_term" (zeg 11):=zlQ F10 T O__law_take O__law_leaf O__law_heads (PySem.W.mg_of X G a10) k10 b10 11
 have O_Signs_many:OwnM l.prog w K mg base CX0 1 C "many" (zjP K C):=⟨f11,_,_,znP F11 T,⟨a11,n11,k11⟩,b11,cl⟩
 have O_Signs_nought:OwnM l.prog w K mg base CX0 1 C "nought" (zdX K C):=⟨f12,_,_,zkj F12 T,⟨a12,n12,k12⟩,b12,cl⟩
 have O_is_wish:Own l.prog w K mg base CX0 1 "is_wish" zjL:=⟨f13,_,_,znJ F13 T,PySem.W.mg_of X G a13,k13,b13⟩
 have O_is_built:Own l.prog w K mg base CX0 2 "is_built" (zhu K C):=⟨f14,_,_,zl8 F14 T O_is_wish O_Signs_many O_Signs_nought,PySem.W.mg_of X G a14,k14,b14⟩
 have O_check_term:Own l.prog w K mg base CX0 3 "check_term" (zek K C):=⟨f15,_,_,zl7 F15 T O_is_built,PySem.W.mg_of X G a15,k15,b15⟩
 have O_walked:Own l.prog w K mg base CX0 1 "walked" zdW:=⟨f16,_,_,zkg F16 T,PySem.W.mg_of X G a16,k16,b16⟩
 have O_order_mark:Own l.prog w K mg base CX0 1 "order_mark" zjO:=⟨f17,_,_,znO F17 T,PySem.W.mg_of X G a17,k17,b17⟩
 have O_order_key:Own l.prog w K mg base CX0 2 "order_key" spKey:=⟨f18,_,_,zo0 F18 T O_order_mark O_walked,PySem.W.mg_of X G a18,k18,b18⟩
 have O_opened:Own l.prog w K mg base CX0 1 "opened" zeh:=⟨f19,_,_,zi3 F19 T,PySem.W.mg_of X G a19,k19,b19⟩
 have O_flat_sum:Own l.prog w K mg base CX0 5 "flat_sum" zej:=⟨f20,_,_,zi5 F20 T O_opened O_order_key,PySem.W.mg_of X G a20,k20,b20⟩
 have O_flat_of_parts:Own l.prog w K mg base CX0 6 "flat_of_parts" (zbQ K C):=⟨f21,_,_,zi4 F21 T O_Signs_nought O_flat_sum,PySem.W.mg_of X G a21,k21,b21⟩
 have O_from_within:Own l.prog w K mg base CX0 8 "from_within" (spFW K C):=⟨f22,_,_,zpE F22 T O_walked O_flat_of_parts,PySem.W.mg_of X G a22,k22,b22⟩
 have O_put_in:Own l.prog w K mg base CX0 9 "put_in" (zho K C Pt):=⟨f23,_,_,zl0 l23 c23 hC hB O_from_within,PySem.W.mg_of X G a23,k23,b23⟩
 have O_flat:Own l.prog w K mg base CX0 10 "flat" (zhs K C Pt):=⟨f24,_,_,zl5 F24 T O_check_term O_put_in,PySem.W.mg_of X G a24,k24,b24⟩
 have O_is_name:Own l.prog w K mg base CX0 1 "is_name" zjN:=⟨f25,_,_,znN F25 T,PySem.W.mg_of X G a25,k25,b25⟩
 have O_is_whole:Own l.prog w K mg base CX0 1 "is_whole" zhl:=⟨f26,_,_,zlX F26 T,PySem.W.mg_of X G a26,k26,b26⟩
 have O_checked_pairs:Own l.prog w K mg base CX0 1 "checked_pairs" zhq:=⟨f27,_,_,zl2 F27 T,PySem.W.mg_of X G a27,k27,b27⟩
 have O_check_names:Own l.prog w K mg base CX0 2 "check_names" zfz:=⟨f28,_,_,zkk F28 T O_is_name,PySem.W.mg_of X G a28,k28,b28⟩
 have O_check_parts:Own l.prog w K mg base CX0 2 "check_parts" zhp:=⟨f29,_,_,zl1 F29 T O_is_whole,PySem.W.mg_of X G a29,k29,b29⟩
 have O_check_noughts:Own l.prog w K mg base CX0 1 "check_noughts" zdy:=⟨f30,_,_,zhD F30 T,PySem.W.mg_of X G a30,k30,b30⟩
 have O_Signs___init__:OwnC l.prog w K mg base CX0 3 "Signs" C (zjQ K C):=⟨f31,_,_,znR F31 T co O_checked_pairs O_check_names O_check_parts O_check_noughts,PySem.W.mg_of X G m0,⟨g5,a31,n31,g6⟩,b31⟩
 have O_pieces:Own l.prog w K mg base CX0 1 "pieces" zfy:=⟨f32,_,_,zki F32 T,PySem.W.mg_of X G a32,k32,b32⟩
 have O_write:Own l.prog w K mg base CX0 4 "write" (zhk K C):=⟨f33,_,_,zlW F33 T O_check_term O_pieces,PySem.W.mg_of X G a33,k33,b33⟩
 have O_unbracketed:Own l.prog w K mg base CX0 1 "unbracketed" spUnb:=⟨f34,_,_,zoX F34 T,PySem.W.mg_of X G a34,k34,b34⟩
 have O_is_term:Own l.prog w K mg base CX0 4 "is_term" (zfA K C):=⟨f35,_,_,zkl F35 T hm_NoTerm hx_NoTerm O_check_term,PySem.W.mg_of X G a35,k35,b35⟩
 have O_read:Own l.prog w K mg base CX0 5 "read" (zjM K C):=⟨f36,_,_,znM F36 T O_unbracketed O_is_term,PySem.W.mg_of X G a36,k36,b36⟩
 have O__law_written:Own l.prog w K mg base CX0 13 "_law_written" (zcd 11):=zhA F37 T (PySem.W.mg_of X G a37) k37 b37 11
 have O__law_tupled:Own l.prog w K mg base CX0 13 "_law_tupled" (zcV 11):=zi0 F38 T (PySem.W.mg_of X G a38) k38 b38 11
 have O__law_goes_round:OwnG l.prog w K mg base CX0 14 "_law_goes_round" (zhn K C):=⟨f39,_,_,zlZ F39 T O_write O__law_written O_read O__law_tupled,PySem.W.mg_of X G a39,k39,b39⟩
 exact zoZ F40 T O__law_pot O__law_signs O_Signs___init__ O__law_drawn O__law_term O_flat O__law_goes_round
end Lw
open PySem PySem.W PyProof.Rows
set_option maxRecDepth 100000 in
set_option maxHeartbeats 0 in
theorem PySem.Challenge.cw_likefill_k17_whole_text_and_back_holds : PySem.Challenge.rw_likefill_k17_whole_text_and_back.Holds := by
 w_on
 refine holds_law (by kernel_rfl) fun said=>?_
 refine holds_open (q:=Lw.q0) (loose:=[]) (Xt:=Lw.Xt0) (XP:=XL Lw.q0 []) (YP:=InK Lw.K0) Lw.left0 (InK.of Lw.keys0) InK.keeps (fun s e=>xl_of s (Bool.and_eq_true_iff.mp e).1) XL.keeps (by rfl) (by rfl) (by rfl) (fun s e=>recFacts_of (Bool.and_eq_true_iff.mp e).2) (by rfl) said (by decide +kernel) ⟨rfl,rfl,rfl,rfl,rfl,by decide +kernel⟩ (by w_witness2) ?_
 k_fill
 refine Lw.walkT (l:=PySem.Challenge.rw_likefill_k17_whole_text_and_back) rfl rfl (fun w h Y=>Y) rfl ?F
 case F =>
  intro w mg fa h KX G hmg
  refine' Lw.zpp KX G hmg ?_ ?_ ?x0 ?_ ?_ ?_ ?_ ?_ ?_ ?_ ?_ ?_ ?_ ?_ ?_ ?_ ?_ ?_ ?_ ?_ ?_ ?_ ?_ ?_ ?_ ?_ ?_ ?_ ?_ ?_ ?_ ?_ ?_ ?_ ?_ ?_ ?_ ?_ ?_ ?_ ?_ ?_ ?_ ?_ ?_ ?_ ?_ ?_ ?_ ?_ ?_ ?_ ?_ ?_ ?_ ?_ ?_ ?_ ?_ ?_ ?_ ?_ ?_ ?_ ?_ ?_ ?_ ?_ ?_ ?_ ?_ ?_ ?_ ?_ ?_ ?_ ?_ ?_ ?_ ?_ ?_ ?_ ?_ ?_ ?_ ?_ ?_ ?_ ?_ ?_ ?_ ?_ ?_ ?_ ?_ ?_ ?_ ?_ ?t3 ?t0 ?t1 ?_ ?_ ?_ ?_ ?_ ?_ ?_ ?_ ?_ ?_ ?_ ?_ ?_ ?_ ?_ ?_ ?_ ?_ ?_ ?_ ?_ ?_ ?_ ?_ ?_ ?_ ?_ ?_ ?_ ?_ ?_ ?_ ?_ ?_ ?_ ?_ ?_ ?_ ?_ ?_ ?_ ?_ ?_ ?_ ?_ ?_ ?_ ?_ ?_ ?_ ?_ ?_ ?_ ?_ ?_ ?_ ?_ ?_ ?_ ?_ ?_ ?_ ?_ ?_ ?_ ?_ ?_ ?_ ?_ ?_ ?_ ?_ ?_ ?_ ?_ ?_ ?_ ?_ ?_ ?_ ?_ ?_ ?_ ?_ ?_ ?_ ?_ ?_ ?_ ?_ ?_ ?_ ?_ ?_ ?_ ?_ ?_ ?_ ?_ ?_ ?_ ?_ ?_ ?_ ?_ ?_
  all_goals try k_is
  (case t3=>rfl);(case t0=>kernel_rfl);(case t1=>kernel_rfl);(case x0=>k_exc)
end
