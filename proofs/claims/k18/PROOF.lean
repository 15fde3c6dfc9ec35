import PyProof.Rows.All
import Wide.All
import OpenK.AllK
import Wide.FinOn
import Lean
import PyProof.EqAt
import PyProof.EqKinds
import PyProof.TupleCall
import PyProof.NeKinds
import KE.LcSums
import PyProof.ZipIter
import PyProof.Rows.SumAny
import PyProof.ExcClass3
import PyProof.ExcBaseAll.ValueError
import OpenK.KOwn
import PyProof.EnumFor
import PyProof.EnumMake
import PyProof.TupleIter
import KE.KIsAll
import PyProof.ExcArgsOwn
import PyProof.NsDelKeeps
import KE.KDictOf
import PyProof.AttrMissHeap
import PyProof.AutoSeq1
import KE.KRevIter
import PyProof.TupleOfSeq
import PyProof.CollectIter
import PyProof.TupleOfStr
import PyProof.SliceStr2
import PyProof.StrWalks
import KE.KSortTup
import PyProof.Rows.SetFrom
import PyProof.ReprRoads
import PyProof.CallFns
import PyProof.StrCalls2
import PyProof.StrBlock
import PySem.Challenge.RW_likefill_k18_whole_texts_of_no_term
set_option Elab.async false
set_option linter.all false
set_option maxRecDepth 100000
set_option maxHeartbeats 4000000
noncomputable abbrev cZ:=List (PySem.Addr×PySem.Obj)
noncomputable abbrev cY:=PySem.Value->PySem.Shared->Prop
noncomputable abbrev cL:=List (PySem.Str×Int)
noncomputable abbrev cQ:=List (PySem.Str×PySem.Str)
noncomputable abbrev cE:=List PySem.Value
noncomputable abbrev aW:=List PySem.Str
noncomputable abbrev eJ:=PySem.Str->Option PySem.Value
noncomputable abbrev iW:=List PySem.Expr
noncomputable abbrev uH:=Array PySem.Value
noncomputable abbrev HG:=Nat->PySem.Heap->Prop
theorem aI {a b:Prop}(x:a)(y:b):a/\b:=⟨x,y⟩
namespace L2
open PySem
noncomputable def tX (s:Stmt)(j:Nat):Stmt:=match s with
 | .ClassDef _ _ _ body _ _ _ _ _ _ _=>body.getD j (.Pass ⟨0,0,0,0⟩)
 | _=>.Pass ⟨0,0,0,0⟩
noncomputable def aT (s:Stmt):Arguments:=match s with
 | .FunctionDef _ a _ _ _ _ _ _ _ _=>a
 | _=>{ posonlyargs:=[],args:=[],vararg:=none,kwonlyargs:=[],kw_defaults:=[],kwarg:=none,defaults:=[] }
noncomputable def aM (s:Stmt):List Stmt:=match s with
 | .FunctionDef _ _ b _ _ _ _ _ _ _=>b
 | _=>[]
noncomputable def aD (s:Stmt):Scope:=match s with
 | .FunctionDef _ _ _ _ _ _ sc _ _ _=>sc
 | _=>{ kind:=.function,names:=[],isGenerator:=false,isCoroutine:=false }
end L2
namespace Lw
open PySem L2
noncomputable def top (i:Nat):Stmt:=PySem.Challenge.pw_likefill_k18_whole_texts_of_no_term.main.body.getD i (.Pass ⟨0,0,0,0⟩)
noncomputable abbrev eH:Stmt:=top 36
noncomputable abbrev eV:Stmt:=top 37
noncomputable abbrev eG:Stmt:=top 38
noncomputable abbrev eE:Stmt:=top 39
noncomputable abbrev dW:Stmt:=top 40
noncomputable abbrev cN:Stmt:=top 41
noncomputable abbrev dX:Stmt:=top 42
noncomputable abbrev dR:Stmt:=top 43
noncomputable abbrev cP:Stmt:=top 44
noncomputable abbrev dA:Stmt:=top 45
noncomputable abbrev iJ:Stmt:=top 54
noncomputable abbrev fA:Stmt:=top 15
noncomputable abbrev eU:Stmt:=top 16
noncomputable abbrev c0:Stmt:=top 17
noncomputable abbrev fB:Stmt:=top 29
noncomputable abbrev eT:Stmt:=top 30
noncomputable abbrev bZ:Stmt:=top 31
noncomputable abbrev cG:Stmt:=top 32
noncomputable abbrev cR:Stmt:=top 33
noncomputable abbrev cA:Stmt:=top 34
noncomputable abbrev bV:Stmt:=tX (top 28) 0
noncomputable abbrev dY:Stmt:=tX (top 28) 3
noncomputable abbrev cV:Stmt:=tX (top 28) 4
noncomputable abbrev fV:Stmt:=top 18
noncomputable abbrev lF:Stmt:=top 20
noncomputable abbrev dI:Stmt:=top 21
noncomputable abbrev cH:Stmt:=top 46
noncomputable abbrev bF:Stmt:=top 47
noncomputable abbrev bR:Stmt:=top 48
noncomputable abbrev cI:Stmt:=top 49
noncomputable abbrev dB:Stmt:=top 50
noncomputable abbrev dC:Stmt:=top 51
noncomputable abbrev eF:Stmt:=top 52
noncomputable abbrev eW:Stmt:=top 53
end Lw
namespace Lw
open PySem PySem.W L2
noncomputable def eO (P:Params)(x:Str)(t:Tok)(v:Value):DictEntry:=⟨PyData.keyHash P x,.str x t,v⟩
noncomputable def eR (P:Params)(x:Str)(t:Tok)(a:Addr):DictEntry:=eO P x t (.ref a)
noncomputable def dO (es:List DictEntry)(n:Nat):Obj:=⟨.type "dict",none,.dict es.toArray n,#[]⟩
noncomputable def fO (x q:Str)(st:Stmt)(m:Str)(t:Tok)(c:Addr):Obj:=⟨.type "function",none,.func (fnOf x q (aT st) (aM st) (aD st) .none .none .none (.str m t) none (.ref c) .none),#[]⟩
noncomputable def cO (x q:Str)(t1 t2 t3:Tok)(l n f:Int)(r1:Addr)(b:Bool)(i6:Int)(r2:Addr)(u v w:Value)(r3:Addr)(i7:Int)(t4:Tok):Obj :=
 ⟨.type "code",none,.fields #[.str x t1,.str q t2,.str "/claim/cut.py" t3,.int l 0,.int n 0,.int 0 0,.int 0 0,.int f 0,.ref r1,.bool b,.int i6 0,.ref r2,u,v,w,.ref r3,.int i7 0,.int l 0,.str "/claim/cut.py" t4],#[]⟩
noncomputable def K0 (P:Params):PySem.W.Frag :=
 (nat_lit 3,dO [eO P "__name__" 165 (.str "law_likefill_k18_whole_texts_of_no_term" 517),eO P "__doc__" 166 .none,eO P "__package__" 167 .none,eO P "__loader__" 168 (.builtin "__main__.__loader__#opaque"),eO P "__spec__" 169 .none,eR P "__annotations__" 170 6,eR P "__builtins__" 171 4,eO P "__file__" 173 (.str "/claim/cut.py" 172),eO P "__cached__" 174 .none,eR P "LikeError" 206 24,eR P "NoSigns" 222 37,eR P "NoTerm" 238 49,eR P "NoText" 254 61,eR P "NoFilling" 270 73,eR P "NoStep" 286 85,eR P "NoCounts" 302 97,eR P "NoRow" 318 109,eR P "NoSide" 334 121,eR P "TooMuch" 350 133,eO P "WISH_SIGNS" 354 (.str "abcdefghijklmnopqrstuvwxyz0123456789" 353),eO P "LONGEST_WISH" 356 (.int 9 355),eO P "DEEPEST" 358 (.int 1000 357),eR P "is_wish" 364 140,eR P "is_built" 372 147,eR P "check_term" 378 152,eR P "is_term" 386 159,eR P "read" 397 166,eR P "unbracketed" 407 173,eO P "LETTERS" 411 (.str "abcdefghijklmnopqrstuvwxyz" 410),eO P "LONGEST_NAME" 413 (.int 6 412),eO P "MOST_FIXED" 415 (.int 12 414),eO P "MOST_SUMS" 417 (.int 3 416),eO P "MOST_PARTS" 419 (.int 3 418),eR P "Signs" 479 216,eR P "is_name" 485 225,eR P "is_whole" 492 232,eR P "checked_pairs" 498 237,eR P "check_names" 504 242,eR P "check_parts" 510 247,eR P "check_noughts" 516 252,eR P "_law_cell" 526 259,eR P "_law_pot" 535 266,eR P "_law_take" 544 273,eR P "_law_word" 554 280,eR P "_law_names" 566 287,eR P "_law_signs" 572 292,eR P "_law_drawn" 583 299,eR P "_law_leaf" 589 304,eR P "_law_heads" 595 309,eR P "_law_term" 613 316,eR P "_law_is_wish" 619 321,eR P "_law_is_term" 625 326,eR P "_law_written" 631 331,eR P "_law_done" 647 338,eR P "_law_part" 659 345,eR P "_law_class" 665 350,eR P "_law_told" 675 357,eR P "_law_due" 685 364,eR P "law" 700 371] 59) ::
 (nat_lit 23,dO [eO P "__module__" 196 (.str "likefill.errors" 187),eO P "__firstlineno__" 200 (.int 2 199),eR P "__static_attributes__" 201 22,eR P "__weakref__" 203 25,eO P "__doc__" 204 .none] 3) ::
 (nat_lit 24,⟨.type "type",none,.cls ⟨"LikeError",[(.type "ValueError")],[(.ref 24),(.type "ValueError"),(.type "Exception"),(.type "BaseException"),(.type "object")],23,"LikeError",true,[],[(.ref 37),(.ref 49),(.ref 61),(.ref 73),(.ref 85),(.ref 97),(.ref 109),(.ref 121),(.ref 133)],false,none,false⟩,#[some (.ref 15),none,some (.str "LikeError" 189),some (.str "LikeError" 197),some (.builtin "ValueError.__new__"),some (.bool true)]⟩) ::
 (nat_lit 36,dO [eO P "__module__" 214 (.str "likefill.errors" 187),eO P "__firstlineno__" 218 (.int 4 217),eR P "__static_attributes__" 219 35,eO P "__doc__" 220 .none] 2) ::
 (nat_lit 37,⟨.type "type",none,.cls ⟨"NoSigns",[(.ref 24)],[(.ref 37),(.ref 24),(.type "ValueError"),(.type "Exception"),(.type "BaseException"),(.type "object")],36,"NoSigns",true,[],[],false,none,false⟩,#[some (.ref 28),none,some (.str "NoSigns" 207),some (.str "NoSigns" 215),some (.builtin "ValueError.__new__"),some (.bool true)]⟩) ::
 (nat_lit 48,dO [eO P "__module__" 230 (.str "likefill.errors" 187),eO P "__firstlineno__" 234 (.int 6 233),eR P "__static_attributes__" 235 47,eO P "__doc__" 236 .none] 2) ::
 (nat_lit 49,⟨.type "type",none,.cls ⟨"NoTerm",[(.ref 24)],[(.ref 49),(.ref 24),(.type "ValueError"),(.type "Exception"),(.type "BaseException"),(.type "object")],48,"NoTerm",true,[],[],false,none,false⟩,#[some (.ref 40),none,some (.str "NoTerm" 223),some (.str "NoTerm" 231),some (.builtin "ValueError.__new__"),some (.bool true)]⟩) ::
 (nat_lit 60,dO [eO P "__module__" 246 (.str "likefill.errors" 187),eO P "__firstlineno__" 250 (.int 8 249),eR P "__static_attributes__" 251 59,eO P "__doc__" 252 .none] 2) ::
 (nat_lit 61,⟨.type "type",none,.cls ⟨"NoText",[(.ref 24)],[(.ref 61),(.ref 24),(.type "ValueError"),(.type "Exception"),(.type "BaseException"),(.type "object")],60,"NoText",true,[],[],false,none,false⟩,#[some (.ref 52),none,some (.str "NoText" 239),some (.str "NoText" 247),some (.builtin "ValueError.__new__"),some (.bool true)]⟩) ::
 (nat_lit 72,dO [eO P "__module__" 262 (.str "likefill.errors" 187),eO P "__firstlineno__" 266 (.int 10 265),eR P "__static_attributes__" 267 71,eO P "__doc__" 268 .none] 2) ::
 (nat_lit 73,⟨.type "type",none,.cls ⟨"NoFilling",[(.ref 24)],[(.ref 73),(.ref 24),(.type "ValueError"),(.type "Exception"),(.type "BaseException"),(.type "object")],72,"NoFilling",true,[],[],false,none,false⟩,#[some (.ref 64),none,some (.str "NoFilling" 255),some (.str "NoFilling" 263),some (.builtin "ValueError.__new__"),some (.bool true)]⟩) ::
 (nat_lit 84,dO [eO P "__module__" 278 (.str "likefill.errors" 187),eO P "__firstlineno__" 282 (.int 12 281),eR P "__static_attributes__" 283 83,eO P "__doc__" 284 .none] 2) ::
 (nat_lit 85,⟨.type "type",none,.cls ⟨"NoStep",[(.ref 24)],[(.ref 85),(.ref 24),(.type "ValueError"),(.type "Exception"),(.type "BaseException"),(.type "object")],84,"NoStep",true,[],[],false,none,false⟩,#[some (.ref 76),none,some (.str "NoStep" 271),some (.str "NoStep" 279),some (.builtin "ValueError.__new__"),some (.bool true)]⟩) ::
 (nat_lit 96,dO [eO P "__module__" 294 (.str "likefill.errors" 187),eO P "__firstlineno__" 298 (.int 14 297),eR P "__static_attributes__" 299 95,eO P "__doc__" 300 .none] 2) ::
 (nat_lit 97,⟨.type "type",none,.cls ⟨"NoCounts",[(.ref 24)],[(.ref 97),(.ref 24),(.type "ValueError"),(.type "Exception"),(.type "BaseException"),(.type "object")],96,"NoCounts",true,[],[],false,none,false⟩,#[some (.ref 88),none,some (.str "NoCounts" 287),some (.str "NoCounts" 295),some (.builtin "ValueError.__new__"),some (.bool true)]⟩) ::
 (nat_lit 108,dO [eO P "__module__" 310 (.str "likefill.errors" 187),eO P "__firstlineno__" 314 (.int 16 313),eR P "__static_attributes__" 315 107,eO P "__doc__" 316 .none] 2) ::
 (nat_lit 109,⟨.type "type",none,.cls ⟨"NoRow",[(.ref 24)],[(.ref 109),(.ref 24),(.type "ValueError"),(.type "Exception"),(.type "BaseException"),(.type "object")],108,"NoRow",true,[],[],false,none,false⟩,#[some (.ref 100),none,some (.str "NoRow" 303),some (.str "NoRow" 311),some (.builtin "ValueError.__new__"),some (.bool true)]⟩) ::
 (nat_lit 120,dO [eO P "__module__" 326 (.str "likefill.errors" 187),eO P "__firstlineno__" 330 (.int 18 329),eR P "__static_attributes__" 331 119,eO P "__doc__" 332 .none] 2) ::
 (nat_lit 121,⟨.type "type",none,.cls ⟨"NoSide",[(.ref 24)],[(.ref 121),(.ref 24),(.type "ValueError"),(.type "Exception"),(.type "BaseException"),(.type "object")],120,"NoSide",true,[],[],false,none,false⟩,#[some (.ref 112),none,some (.str "NoSide" 319),some (.str "NoSide" 327),some (.builtin "ValueError.__new__"),some (.bool true)]⟩) ::
 (nat_lit 132,dO [eO P "__module__" 342 (.str "likefill.errors" 187),eO P "__firstlineno__" 346 (.int 20 345),eR P "__static_attributes__" 347 131,eO P "__doc__" 348 .none] 2) ::
 (nat_lit 133,⟨.type "type",none,.cls ⟨"TooMuch",[(.ref 24)],[(.ref 133),(.ref 24),(.type "ValueError"),(.type "Exception"),(.type "BaseException"),(.type "object")],132,"TooMuch",true,[],[],false,none,false⟩,#[some (.ref 124),none,some (.str "TooMuch" 335),some (.str "TooMuch" 343),some (.builtin "ValueError.__new__"),some (.bool true)]⟩) ::
 (nat_lit 139,cO "is_wish" "is_wish" 359 360 361 26 1 3 136 true 181 137 .none .none .none 138 362 363) ::
 (nat_lit 140,fO "is_wish" "is_wish" fA "likefill.terms" 351 139) ::
 (nat_lit 146,cO "is_built" "is_built" 365 366 367 30 2 3 141 true 181 142 .none (.ref 143) (.ref 144) 145 370 371) ::
 (nat_lit 147,fO "is_built" "is_built" eU "likefill.terms" 351 146) ::
 (nat_lit 151,cO "check_term" "check_term" 373 374 375 38 2 3 148 true 181 149 .none .none .none 150 376 377) ::
 (nat_lit 152,fO "check_term" "check_term" c0 "likefill.terms" 351 151) ::
 (nat_lit 158,cO "is_term" "is_term" 379 380 381 46 2 3 153 true 181 154 .none (.ref 155) (.ref 156) 157 384 385) ::
 (nat_lit 159,fO "is_term" "is_term" fV "likefill.terms" 351 158) ::
 (nat_lit 165,cO "read" "read" 389 390 391 53 2 3 160 true 181 161 .none (.ref 162) (.ref 163) 164 395 396) ::
 (nat_lit 166,fO "read" "read" lF "likefill.texts" 387 165) ::
 (nat_lit 172,cO "unbracketed" "unbracketed" 398 399 400 60 1 3 167 true 181 168 .none (.ref 169) (.ref 170) 171 405 406) ::
 (nat_lit 173,fO "unbracketed" "unbracketed" dI "likefill.texts" 387 172) ::
 (nat_lit 184,cO "__init__" "Signs.__init__" 432 433 434 85 3 3 181 true 181 182 .none .none .none 183 435 436) ::
 (nat_lit 185,fO "__init__" "Signs.__init__" bV "likefill.signs" 408 184) ::
 (nat_lit 205,cO "many" "Signs.many" 452 453 454 102 2 3 200 true 181 201 .none (.ref 202) (.ref 203) 204 457 458) ::
 (nat_lit 206,fO "many" "Signs.many" dY "likefill.signs" 408 205) ::
 (nat_lit 212,cO "nought" "Signs.nought" 460 461 462 105 2 3 207 true 181 208 .none (.ref 209) (.ref 210) 211 465 466) ::
 (nat_lit 213,fO "nought" "Signs.nought" cV "likefill.signs" 408 212) ::
 (nat_lit 215,dO [eO P "__module__" 427 (.str "likefill.signs" 408),eO P "__firstlineno__" 431 (.int 83 430),eR P "__init__" 437 185,eR P "fixed" 444 192,eR P "sums" 451 199,eR P "many" 459 206,eR P "nought" 467 213,eR P "__static_attributes__" 472 214,eR P "__dict__" 474 217,eR P "__weakref__" 476 218,eO P "__doc__" 477 .none] 4) ::
 (nat_lit 216,⟨.type "type",none,.cls ⟨"Signs",[(.type "object")],[(.ref 216),(.type "object")],215,"Signs",true,[],[],false,none,false⟩,#[none,none,some (.str "Signs" 420),some (.str "Signs" 428),some (.builtin "object.__new__"),some (.bool true)]⟩) ::
 (nat_lit 224,cO "is_name" "is_name" 480 481 482 107 1 3 221 true 181 222 .none .none .none 223 483 484) ::
 (nat_lit 225,fO "is_name" "is_name" fB "likefill.signs" 408 224) ::
 (nat_lit 231,cO "is_whole" "is_whole" 486 487 488 111 1 3 226 true 181 227 .none (.ref 228) (.ref 229) 230 490 491) ::
 (nat_lit 232,fO "is_whole" "is_whole" eT "likefill.signs" 408 231) ::
 (nat_lit 236,cO "checked_pairs" "checked_pairs" 493 494 495 113 3 3 233 true 181 234 .none .none .none 235 496 497) ::
 (nat_lit 237,fO "checked_pairs" "checked_pairs" bZ "likefill.signs" 408 236) ::
 (nat_lit 241,cO "check_names" "check_names" 499 500 501 120 1 3 238 true 181 239 .none .none .none 240 502 503) ::
 (nat_lit 242,fO "check_names" "check_names" cG "likefill.signs" 408 241) ::
 (nat_lit 246,cO "check_parts" "check_parts" 505 506 507 126 1 3 243 true 181 244 .none .none .none 245 508 509) ::
 (nat_lit 247,fO "check_parts" "check_parts" cR "likefill.signs" 408 246) ::
 (nat_lit 251,cO "check_noughts" "check_noughts" 511 512 513 132 2 3 248 true 181 249 .none .none .none 250 514 515) ::
 (nat_lit 252,fO "check_noughts" "check_noughts" cA "likefill.signs" 408 251) ::
 (nat_lit 258,cO "_law_cell" "_law_cell" 519 520 521 140 2 3 253 true 181 254 .none (.ref 255) (.ref 256) 257 524 525) ::
 (nat_lit 259,fO "_law_cell" "_law_cell" eH "law_likefill_k18_whole_texts_of_no_term" 517 258) ::
 (nat_lit 265,cO "_law_pot" "_law_pot" 527 528 529 144 2 3 260 true 181 261 .none (.ref 262) (.ref 263) 264 533 534) ::
 (nat_lit 266,fO "_law_pot" "_law_pot" eV "law_likefill_k18_whole_texts_of_no_term" 517 265) ::
 (nat_lit 272,cO "_law_take" "_law_take" 536 537 538 147 2 3 267 true 181 268 .none (.ref 269) (.ref 270) 271 542 543) ::
 (nat_lit 273,fO "_law_take" "_law_take" eG "law_likefill_k18_whole_texts_of_no_term" 517 272) ::
 (nat_lit 279,cO "_law_word" "_law_word" 545 546 547 154 2 3 274 true 181 275 .none (.ref 276) (.ref 277) 278 552 553) ::
 (nat_lit 280,fO "_law_word" "_law_word" eE "law_likefill_k18_whole_texts_of_no_term" 517 279) ::
 (nat_lit 286,cO "_law_names" "_law_names" 555 556 557 160 2 3 281 true 181 282 .none (.ref 283) (.ref 284) 285 564 565) ::
 (nat_lit 287,fO "_law_names" "_law_names" dW "law_likefill_k18_whole_texts_of_no_term" 517 286) ::
 (nat_lit 291,cO "_law_signs" "_law_signs" 567 568 569 169 1 3 288 true 181 289 .none .none .none 290 570 571) ::
 (nat_lit 292,fO "_law_signs" "_law_signs" cN "law_likefill_k18_whole_texts_of_no_term" 517 291) ::
 (nat_lit 298,cO "_law_drawn" "_law_drawn" 573 574 575 183 1 3 293 true 181 294 .none (.ref 295) (.ref 296) 297 581 582) ::
 (nat_lit 299,fO "_law_drawn" "_law_drawn" dX "law_likefill_k18_whole_texts_of_no_term" 517 298) ::
 (nat_lit 303,cO "_law_leaf" "_law_leaf" 584 585 586 191 3 3 300 true 181 301 .none .none .none 302 587 588) ::
 (nat_lit 304,fO "_law_leaf" "_law_leaf" dR "law_likefill_k18_whole_texts_of_no_term" 517 303) ::
 (nat_lit 308,cO "_law_heads" "_law_heads" 590 591 592 195 2 3 305 true 181 306 .none .none .none 307 593 594) ::
 (nat_lit 309,fO "_law_heads" "_law_heads" cP "law_likefill_k18_whole_texts_of_no_term" 517 308) ::
 (nat_lit 315,cO "_law_term" "_law_term" 596 597 598 200 5 3 310 true 181 311 .none (.ref 312) (.ref 313) 314 611 612) ::
 (nat_lit 316,fO "_law_term" "_law_term" dA "law_likefill_k18_whole_texts_of_no_term" 517 315) ::
 (nat_lit 320,cO "_law_is_wish" "_law_is_wish" 614 615 616 214 1 3 317 true 181 318 .none .none .none 319 617 618) ::
 (nat_lit 321,fO "_law_is_wish" "_law_is_wish" cH "law_likefill_k18_whole_texts_of_no_term" 517 320) ::
 (nat_lit 325,cO "_law_is_term" "_law_is_term" 620 621 622 218 2 3 322 true 181 323 .none .none .none 324 623 624) ::
 (nat_lit 326,fO "_law_is_term" "_law_is_term" bF "law_likefill_k18_whole_texts_of_no_term" 517 325) ::
 (nat_lit 330,cO "_law_written" "_law_written" 626 627 628 226 1 3 327 true 181 328 .none .none .none 329 629 630) ::
 (nat_lit 331,fO "_law_written" "_law_written" bR "law_likefill_k18_whole_texts_of_no_term" 517 330) ::
 (nat_lit 337,cO "_law_done" "_law_done" 632 633 634 230 4 3 332 true 181 333 .none (.ref 334) (.ref 335) 336 645 646) ::
 (nat_lit 338,fO "_law_done" "_law_done" cI "law_likefill_k18_whole_texts_of_no_term" 517 337) ::
 (nat_lit 344,cO "_law_part" "_law_part" 648 649 650 246 2 3 339 true 181 340 .none (.ref 341) (.ref 342) 343 657 658) ::
 (nat_lit 345,fO "_law_part" "_law_part" dB "law_likefill_k18_whole_texts_of_no_term" 517 344) ::
 (nat_lit 349,cO "_law_class" "_law_class" 660 661 662 261 1 3 346 true 181 347 .none .none .none 348 663 664) ::
 (nat_lit 350,fO "_law_class" "_law_class" dC "law_likefill_k18_whole_texts_of_no_term" 517 349) ::
 (nat_lit 356,cO "_law_told" "_law_told" 666 667 668 268 2 3 351 true 181 352 .none (.ref 353) (.ref 354) 355 673 674) ::
 (nat_lit 357,fO "_law_told" "_law_told" eF "law_likefill_k18_whole_texts_of_no_term" 517 356) ::
 (nat_lit 363,cO "_law_due" "_law_due" 676 677 678 275 2 3 358 true 181 359 .none (.ref 360) (.ref 361) 362 683 684) ::
 (nat_lit 364,fO "_law_due" "_law_due" eW "law_likefill_k18_whole_texts_of_no_term" 517 363) ::
 (nat_lit 370,cO "law" "law" 686 687 688 280 1 3 365 true 181 366 .none (.ref 367) (.ref 368) 369 698 699) ::
 (nat_lit 371,fO "law" "law" iJ "law_likefill_k18_whole_texts_of_no_term" 517 370) :: []
noncomputable def as0:List Addr:=[3,23,24,36,37,48,49,60,61,72,73,84,85,96,97,108,109,120,121,132,133,139,140,146,147,151,152,158,159,165,166,172,173,184,185,205,206,212,213,215,216,224,225,231,232,236,237,241,242,246,247,251,252,258,259,265,266,272,273,279,280,286,287,291,292,298,299,303,304,308,309,315,316,320,321,325,326,330,331,337,338,344,345,349,350,356,357,363,364,370,371]
noncomputable def without (ks:List Nat):Nat->List Stmt->List Stmt
 | _,[]=>[]
 | i,s :: r=>if i ∈ ks then without ks (i + 1) r else s :: without ks (i + 1) r
noncomputable def q0:Program:={ PySem.Challenge.pw_likefill_k18_whole_texts_of_no_term with main:={ PySem.Challenge.pw_likefill_k18_whole_texts_of_no_term.main with body:=without [0,11,19,22,35] 0 PySem.Challenge.pw_likefill_k18_whole_texts_of_no_term.main.body } }
noncomputable def LX:Shared->Bool:=fun s=>xlAt q0 [] s && recOk (RowW.records PySem.Challenge.rw_likefill_k18_whole_texts_of_no_term.row.toRowW) s
theorem GT {p q:Program}{Xt:Shared->Bool}{α:Type}{Yf:Shared->α}{Ya:World->α}{N:Nat}
  (e:opening p=plainProg p.main.scope.names) (n:Nat.ble 600 N=true) (fm:∀ s,fenceModules? p s=some s)
  (h:∀ w os,(topFrom treeTable p w N ⟨boot_heap w.params,⟨[]⟩,boot_drawn,boot_toks,os⟩).map (fun s=>(openSeen q [] (importedModules p.main.body) Xt true s,Yf s))=some (openGood q [],Ya w)):LeftO p q [] Xt Yf Ya N:=fun w=>by
 obtain ⟨s,e1,e2⟩:=Option.map_eq_some_iff.mp (boot_open e n fm w)
 obtain ⟨h1,h2,h3,h4,os⟩:=s
 cases e2
 unfold openEnds
 rw [e1]
 exact h w os
theorem left0:LeftO PySem.Challenge.rw_likefill_k18_whole_texts_of_no_term.row.prog q0 [] LX (fun s=>as0.map s.heap.get?) (fun w=>(K0 w.params).map fun p=>some p.2) 7100 :=
 GT (by kernel_rfl) (by kernel_rfl) (fun s=>by kernel_rfl) (fun w os=>by unfold topFrom;rw [PySem.W.Fast.te14082659384304107361,PySem.W.Fast.te4187177175401517315,PySem.W.Fast.te14364793385576792824];kernel_rfl)
theorem keys0:∀ P,as0=(K0 P).map (·.1):=fun P=>by kernel_rfl
end Lw
namespace L2
open PySem PySem.Spec PyProof.Rows
noncomputable abbrev eZ:=Sum Int Str
noncomputable def keyIs:eZ->Value->Bool
 | .inl k,v=>Value.isInt k v
 | .inr x,v=>Value.isStrOf x v
noncomputable def keyH (w:World):eZ->Int
 | .inl k=>hashInt k
 | .inr x=>hashStr w x
theorem dE:∀ {k:eZ} {v:Value},keyIs k v=true->(∃ i t,k=Sum.inl i/\v=Value.int i t)∨(∃ x t,k=Sum.inr x/\v=Value.str x t)
 | .inl i,v,h=>by
  obtain ⟨t,e⟩:=Value.isInt_shape (k:=i) (v:=v) h
  exact .inl ⟨i,t,rfl,e⟩
 | .inr x,v,h=>by
  obtain ⟨t,e⟩:=Value.isStrOf_shape (x:=x) (v:=v) h
  exact .inr ⟨x,t,rfl,e⟩
theorem AV (i:Int)(t:Tok):keyIs (.inl i) (.int i t)=true:=by simp [keyIs,Value.isInt]
theorem rH (x:Str)(t:Tok):keyIs (.inr x) (.str x t)=true:=by simp [keyIs,Value.isStrOf]
theorem JW (a b:Int):decide ((Sum.inl a:eZ)=Sum.inl b)=(a == b):=by
 by_cases e:a=b
 ·subst e;simp
 ·have h:¬ (Sum.inl a:eZ)=Sum.inl b:=fun q=>e (Sum.inl.inj q)
  rw [decide_eq_false h]
  exact (beq_eq_false_iff_ne.mpr e).symm
theorem JT (a b:Str):decide ((Sum.inr a:eZ)=Sum.inr b)=decide (a=b):=by
 by_cases e:a=b
 ·subst e;simp
 ·have h:¬ (Sum.inr a:eZ)=Sum.inr b:=fun q=>e (Sum.inr.inj q)
  rw [decide_eq_false h,decide_eq_false e]
theorem JV (a:Int)(b:Str):decide ((Sum.inl a:eZ)=Sum.inr b)=false:=decide_eq_false (fun q=>nomatch q)
theorem JU (a:Str)(b:Int):decide ((Sum.inr a:eZ)=Sum.inl b)=false:=decide_eq_false (fun q=>nomatch q)
noncomputable def cB (prog:Program)(w:World):PySem.KeyKind prog w eZ where
 is:=keyIs
 hash:=keyH w
 inj:=fun v a b ha hb=>by
  rcases dE ha with ⟨i,t,rfl,rfl⟩ | ⟨x,t,rfl,rfl⟩
  ·rcases dE hb with ⟨j,u,rfl,e⟩ | ⟨y,u,rfl,e⟩
   ·injection e with e1 _;rw [e1]
   ·exact nomatch e
  ·rcases dE hb with ⟨j,u,rfl,e⟩ | ⟨y,u,rfl,e⟩
   ·exact nomatch e
   ·injection e with e1 _;rw [e1]
 byValue:=fun k v h=>by
  rcases dE h with ⟨i,t,rfl,rfl⟩ | ⟨x,t,rfl,rfl⟩ <;> rfl
 pyHash:=fun hv h=>by
  rcases dE hv with ⟨i,t,rfl,rfl⟩ | ⟨x,t,rfl,rfl⟩
  ·exact wpAny_pyHash_int h
  ·exact wpAny_pyHash_str h
 eqBool:=fun hu hv h=>by
  rcases dE hu with ⟨i,t,rfl,rfl⟩ | ⟨x,t,rfl,rfl⟩
  ·rcases dE hv with ⟨j,u,rfl,rfl⟩ | ⟨y,u,rfl,rfl⟩
   ·rw [JW] at h;exact wpAny_eqBool_int h
   ·rw [JV] at h;exact SeqAt.EqAt.int_str i t y u _ _ _ _ h
  ·rcases dE hv with ⟨j,u,rfl,rfl⟩ | ⟨y,u,rfl,rfl⟩
   ·rw [JU] at h;exact SeqAt.EqAt.str_int x t j u _ _ _ _ h
   ·rw [JT] at h;exact wpAny_eqBool_str h
 «strs»:=fun k x t v h=>by
  rcases dE h with ⟨i,u,rfl,e⟩ | ⟨y,u,rfl,e⟩
  ·exact nomatch e
  ·injection e with e1 _
   subst e1
   cases v <;> rfl
theorem vB (prog:Program)(w:World)(i:Int)(t:Tok):(cB prog w).is (.inl i) (.int i t)=true:=AV i t
theorem vA (prog:Program)(w:World)(x:Str)(t:Tok):(cB prog w).is (.inr x) (.str x t)=true:=rH x t
inductive V where
 | non | bl (b:Bool) | int (i:Int) | str (x:Str) | byt (b:Array UInt8) | flt (b:UInt64) | ref (a:Addr) | ty (n:String)
 deriving DecidableEq
noncomputable def aQ:V->Value->Prop
 | .non,u=>u=Value.none
 | .bl b,u=>u=Value.bool b
 | .int i,u=>∃ t,u=Value.int i t
 | .str x,u=>∃ t,u=Value.str x t
 | .byt b,u=>∃ t,u=Value.bytes b t
 | .flt b,u=>∃ t,u=Value.float b t
 | .ref a,u=>u=Value.ref a
 | .ty n,u=>u=Value.type n
noncomputable abbrev aV:List V->cE->Prop:=Paired aQ
theorem aV.length {xs:List V}{us:cE}(r:aV xs us):xs.length=us.length:=Paired.length r
theorem aV.get:∀ {xs:List V} {us:cE} {i:Nat} {x:V},aV xs us->xs[i]?=some x->∃ u,us[i]?=some u/\aQ x u
 | _,_,_,_,.nil,e=>by simp at e
 | _,_,0,_,.cons r _,e=>by simp at e;subst e;exact ⟨_,rfl,r⟩
 | _,_,i + 1,x,.cons _ t,e=>by
  obtain ⟨u,h1,h2⟩:=aV.get (i:=i) (x:=x) t (by simpa using e)
  exact ⟨u,by simpa using h1,h2⟩
theorem aV.set {x:V}{u:Value}(r:aQ x u):∀ {xs:List V} {us:cE} (i:Nat),aV xs us->aV (xs.set i x) (us.set i u)
 | _,_,_,.nil=>.nil
 | _,_,0,.cons _ t=>.cons r t
 | _,_,i + 1,.cons q t=>.cons q (aV.set r i t)
theorem aV.append:∀ {xs ys:List V} {us ws:cE},aV xs us->aV ys ws->aV (xs ++ ys) (us ++ ws)
 | _,_,_,_,.nil,s=>s
 | _,_,_,_,.cons r t,s=>.cons r (aV.append t s)
theorem aV.take:∀ {xs:List V} {us:cE} (n:Nat),aV xs us->aV (xs.take n) (us.take n)
 | _,_,0,_=>.nil
 | _,_,_ + 1,.nil=>.nil
 | _,_,n + 1,.cons r t=>.cons r (aV.take n t)
theorem aV.drop:∀ {xs:List V} {us:cE} (n:Nat),aV xs us->aV (xs.drop n) (us.drop n)
 | _,_,0,r=>r
 | _,_,_ + 1,.nil=>.nil
 | _,_,n + 1,.cons _ t=>aV.drop n t
noncomputable def mT:Option V->Option Value->Prop
 | some v,some u=>aQ v u
 | none,none=>True
 | _,_=>False
noncomputable def KV {κ:Type}:List (κ×V)->List (κ×Value)->Prop:=Paired fun (p:κ×V) (q:κ×Value)=>p.1=q.1/\aQ p.2 q.2
noncomputable def kV:eZ->V
 | .inl i=>.int i
 | .inr x=>.str x
inductive HO where
 /-- a list -/
 | lst (xs:List V)
 /-- a tuple (never changes) -/
 | tup (xs:List V)
 /-- a dict whose keys are ints and texts;one whose keys are tuples of ints and texts (the empty one is both) -/
 | dK (kvs:List (eZ×V)) | dT (kvs:List (List eZ×V))
 /-- a set of ints: its members,its size -/
 | set (S:Int->Bool) (n:Nat)
 /-- an instance of the class at C,its dict at dx,its attributes -/
 | ins (C dx:Addr) (fs:List (Str×V))
 /-- the dict of the instance at x -/
 | own (x:Addr)
 /-- the dict of an exception -/
 | xd (fs:List (Str×V))
 /-- a bound method,f of x -/
 | met (f x:Addr)
 /-- a range object lo,lo + 1,.. below hi -/
 | rng (lo hi:Int)
 /-- a thing that is known to the object (the script;a dict while a loop walks it): read,never written while it is so -/
 | frz (o:Obj) (u:HO)
 /-- a code object's table -/
 | tbl (ps:uH)
 /-- any other thing,by what is true of its one object (a def of one's own: SetO a S n:=HO.ext fun h=>..) -/
 | ext (φ:Heap->Prop)
noncomputable abbrev Hp:=Addr->Option HO
noncomputable def upd (H:Hp)(a:Addr)(o:HO):Hp:=fun b=>if b=a then some o else H b
theorem upd_same {H:Hp}{a:Addr}{o:HO}:upd H a o a=some o:=by unfold upd;rw [if_pos rfl]
theorem aE {H:Hp}{a b:Addr}{o:HO}(h:b≠a):upd H a o b=H b:=by unfold upd;rw [if_neg h]
theorem upd_upd {H:Hp}{a:Addr}{o u:HO}:upd (upd H a o) a u=upd H a u:=by
 funext b;unfold upd;split <;> rfl
theorem aG {H:Hp}{a b:Addr}{o:HO}(h:H a=some o)(h':H b=none):a≠b:=by
 intro e;subst e;rw [h] at h';cases h'
section
variable (P:Program)(w:World)
noncomputable def bY (H:Hp)(h:Heap)(a:Addr):HO->Prop
 | .lst xs=>xs.length<=sizeLine/\∃ (its:cE) (n:Nat),aV xs its/\h.get? a=some { cls:=.type "list",data:=.seq its.toArray n }
 | .tup xs=>xs.length<=sizeLine/\∃ its:cE,aV xs its/\IsTup h a its.toArray
 | .dK kvs=>kvs.length<=sizeLine/\(a == sysModules)=false/\∃ vs,KV kvs vs/\h.DictOf (cB P w) a vs
 | .dT kvs=>kvs.length<=sizeLine/\(a == sysModules)=false/\∃ xs:List (List eZ×Addr×Value),
   Paired (fun (p:List eZ×V) (q:List eZ×Addr×Value)=>p.1=q.1/\H q.2.1=some (.tup (p.1.map kV))/\aQ p.2 q.2.2) kvs xs /\
   ∃ o es ep,h.get? a=some o/\o.ExactDict/\o.data = .dict es ep/\es.toList=xs.map (entryOfKey (tupleKind (cB P w)))/\(xs.map (·.1)).Nodup
 | .set S n=>h.SetOf (intKind P w) a S n
 | .ins C dx fs=>H dx=some (.own a)/\fs.length<=1000/\dx≠a/\h.get? a=some (PySem.W.instObj C dx) /\
   ∃ mA,h.Ns1 dx mA/\(∀ f,mT (fs.lookup f) (mA f))/\PySem.Within mA (fs.map (·.1))
 | .own _=>∃ o,h.get? a=some o
 | .xd fs=>∃ mA,h.Ns1 a mA/\∀ f,mT (fs.lookup f) (mA f)
 | .rng lo hi=>∃ t u v,h.get? a=some { cls:=.type "range",data:=.fields #[.int lo t,.int hi u,.int 1 v] }
 | .frz o u=>h.get? a=some o/\bY H h a u
 | .tbl ps=>h.get? a=some { cls:=.none,data:=.fields ps }
 | .met f x=>h.get? a=some (PySem.W.methodObj (.ref f) (.ref x))
 | .ext φ=>φ h/\(∃ o,h.get? a=some o)/\∀ h1 h2:Heap,φ h1->(∀ o,h1.get? a=some o->h2.get? a=some o)->φ h2
noncomputable def iG (H:Hp)(h:Heap):Prop:=∀ a o,H a=some o->bY P w H h a o
end
section
variable {P:Program}{w:World}{H H':Hp}{h h':Heap}{a:Addr}{o:HO}
theorem bY.lt (x:bY P w H h a o):a < h.objs.size:=by
 cases o with
 | lst xs=>obtain ⟨_,_,_,_,e⟩:=x;exact Heap.lt_size e
 | tup xs=>obtain ⟨_,_,_,p⟩:=x;exact p.lt
 | dK kvs=>obtain ⟨_,_,_,_,o,_,_,e,_⟩:=x;exact Heap.lt_size e
 | dT kvs=>obtain ⟨_,_,_,_,o,_,_,e,_⟩:=x;exact Heap.lt_size e
 | set S n=>obtain ⟨o,_,_,_,e,_⟩:=x;exact Heap.lt_size e
 | ins C dx fs=>obtain ⟨_,_,_,e,_⟩:=x;exact Heap.lt_size e
 | own y=>obtain ⟨_,e⟩:=x;exact Heap.lt_size e
 | xd fs=>obtain ⟨_,⟨_,_,_,e,_⟩,_⟩:=x;exact Heap.lt_size e
 | rng lo hi=>obtain ⟨_,_,_,e⟩:=x;exact Heap.lt_size e
 | frz ob u=>obtain ⟨e,_⟩:=x;exact Heap.lt_size e
 | tbl ps=>exact Heap.lt_size (show h.get? a=some _ from x)
 | met f y=>exact Heap.lt_size (show h.get? a=some _ from x)
 | ext φ=>obtain ⟨_,⟨_,e⟩,_⟩:=x;exact Heap.lt_size e
theorem Paired.mapP {α β:Type}{F G:α->β->Prop}:∀ {l₁:List α} {l₂:List β},Paired F l₁ l₂->(∀ a b,F a b->G a b)->Paired G l₁ l₂
 | _,_,.nil,_=>.nil
 | _,_,.cons r t,f=>.cons (f _ _ r) (Paired.mapP t f)
theorem bY.stay (x:bY P w H h a o)(k:∀ b u,(b=a∨H b=some (.own a))->h.get? b=some u->h'.get? b=some u)
  (ho:∀ b,H b=some (.own a)->H' b=some (.own a)) (ht:∀ b xs,H b=some (.tup xs)->H' b=some (.tup xs)):bY P w H' h' a o:=by
 induction o with
 | lst xs=>obtain ⟨z,its,n,r,e⟩:=x;exact ⟨z,its,n,r,k _ _ (.inl rfl) e⟩
 | tup xs=>obtain ⟨z,its,r,ob,e,c⟩:=x;exact ⟨z,its,r,ob,k _ _ (.inl rfl) e,c⟩
 | dK kvs=>obtain ⟨z,y,vs,r,ob,es,ep,e,c⟩:=x;exact ⟨z,y,vs,r,ob,es,ep,k _ _ (.inl rfl) e,c⟩
 | dT kvs =>
  obtain ⟨z,y,xs,r,ob,es,ep,e,c⟩:=x
  exact ⟨z,y,xs,Paired.mapP r fun p q z=>⟨z.1,ht _ _ z.2.1,z.2.2⟩,ob,es,ep,k _ _ (.inl rfl) e,c⟩
 | set S n=>obtain ⟨ob,es,ep,t,e,c⟩:=x;exact ⟨ob,es,ep,t,k _ _ (.inl rfl) e,c⟩
 | ins C dx fs =>
  obtain ⟨d,z,ne,e,mA,⟨od,es,ep,e2,c⟩,r⟩:=x
  exact ⟨ho _ d,z,ne,k _ _ (.inl rfl) e,mA,⟨od,es,ep,k _ _ (.inr d) e2,c⟩,r⟩
 | own y=>obtain ⟨ob,e⟩:=x;exact ⟨ob,k _ _ (.inl rfl) e⟩
 | xd fs=>obtain ⟨mA,⟨od,es,ep,e,c⟩,r⟩:=x;exact ⟨mA,⟨od,es,ep,k _ _ (.inl rfl) e,c⟩,r⟩
 | rng lo hi=>obtain ⟨t,u,v,e⟩:=x;exact ⟨t,u,v,k _ _ (.inl rfl) e⟩
 | frz ob u ih=>obtain ⟨e,q⟩:=x;exact ⟨k _ _ (.inl rfl) e,ih q⟩
 | tbl ps =>
  have e:h.get? a=some { cls:=.none,data:=.fields ps }:=x
  show h'.get? a=some { cls:=.none,data:=.fields ps }
  exact k a _ (.inl rfl) e
 | met f y =>
  have e:h.get? a=some (PySem.W.methodObj (.ref f) (.ref y)):=x
  show h'.get? a=some (PySem.W.methodObj (.ref f) (.ref y))
  exact k a _ (.inl rfl) e
 | ext φ=>obtain ⟨p,⟨o,e⟩,st⟩:=x;exact ⟨st _ _ p fun o q=>k _ _ (.inl rfl) q,⟨o,k _ _ (.inl rfl) e⟩,st⟩
theorem iG.lt (x:iG P w H h)(e:H a=some o):a < h.objs.size:=(x a o e).lt
theorem iG.fresh (x:iG P w H h)(e:h.objs.size<=a):H a=none:=by
 cases q:H a with
 | none=>rfl
 | some u=>exact absurd (Nat.lt_of_lt_of_le (x.lt q) e) (Nat.lt_irrefl _)
theorem iG.kept (x:iG P w H h)(k:∀ b u,h.get? b=some u->h'.get? b=some u):iG P w H h':=fun a o e =>
 (x a o e).stay (fun b u _ q=>k b u q) (fun _ q=>q) fun _ _ q=>q
theorem iG.laid (x:iG P w H h)(k:∀ b u,h.get? b=some u->h'.get? b=some u)(hp:h.objs.size<=a)(new:bY P w (upd H a o) h' a o):iG P w (upd H a o) h':=fun b u e=>by
 have hn:=x.fresh hp
 by_cases hb:b=a
 ·subst hb;rw [upd_same] at e;cases e;exact new
 ·rw [aE hb] at e
  exact (x b u e).stay (fun c v _ q=>k c v q) (fun c q=>by rw [aE (aG q hn)];exact q) fun c xs q=>by rw [aE (aG q hn)];exact q
end
noncomputable def Rd (H:Hp)(a:Addr)(u:HO):Prop:=H a=some u∨∃ o,H a=some (.frz o u)
theorem Rd.ok {P:Program}{w:World}{H:Hp}{h:Heap}{a:Addr}{u:HO}(r:Rd H a u)(x:iG P w H h):bY P w H h a u:=by
 rcases r with r | ⟨o,r⟩
 ·exact x a u r
 ·obtain ⟨_,q⟩:=x a _ r
  exact q
noncomputable def LC:Option HO->Prop
 | some (.lst _)=>True
 | some (.dK _)=>True
 | some (.dT _)=>True
 | some (.set _ _)=>True
 | some (.ins _ _ _)=>True
 | some (.ext _)=>True
 | _=>False
section
variable {P:Program}{w:World}{H:Hp}{h h':Heap}{x e:Addr}{o':HO}
theorem iG.write (ok:iG P w H h)(mu:LC (H x))(he:e=x∨H e=some (.own x))(k:∀ b u,b≠e->h.get? b=some u->h'.get? b=some u)(heo:∃ u,h'.get? e=some u)
  (new:bY P w (upd H x o') h' x o'):iG P w (upd H x o') h':=fun b u q=>by
 have nown:∀ c y,H c=some (.own y)->c≠x:=fun c y r z=>by subst z;rw [r] at mu;exact mu
 have ntup:∀ c xs,H c=some (.tup xs)->c≠x:=fun c xs r z=>by subst z;rw [r] at mu;exact mu
 by_cases hb:b=x
 ·subst hb;rw [upd_same] at q;cases q;exact new
 ·rw [aE hb] at q
  by_cases hbe:b=e
  ·have q':H b=some (.own x):=by
    rcases he with z | z
    ·exact absurd (hbe.trans z) hb
    ·rw [hbe];exact z
   rw [q] at q';cases q'
   obtain ⟨v,hv⟩:=heo
   exact ⟨v,by rw [hbe];exact hv⟩
  ·refine (ok b u q).stay (fun c v hc r=>k c v ?_ r) (fun c r=>by rw [aE (nown c b r)];exact r) fun c xs r=>by rw [aE (ntup c xs r)];exact r
   rcases hc with rfl | hc
   ·exact hbe
   ·rintro rfl
    rcases he with z | z
    ·exact nown c b hc z
    ·rw [hc] at z;cases z;exact hb rfl
end
structure Un (fs ex:List Addr)(H H':Hp)(h h':Heap):Prop where
 keep:∀ b o,h.get? b=some o->H b=none->b ∉ fs->b ∉ ex->h'.get? b=some o
 slot:∀ b o,h.get? b=some o->H b=none->b ∈ fs->b ∉ ex->∃ sl,h'.get? b=some { o with slots:=sl }
 free:∀ b o,h.get? b=some o->H b=none->b ∉ ex->H' b=none
 there:∀ b o,h.get? b=some o->b ∉ ex->∃ o',h'.get? b=some o'
 tups:∀ b xs,H b=some (.tup xs)->H' b=some (.tup xs)
 frzs:∀ b o u,H b=some (.frz o u)->H' b=some (.frz o u)
 tbls:∀ b ps,H b=some (.tbl ps)->∃ more,H' b=some (.tbl (ps ++ more))
section
variable {fs fs' ex ex':List Addr}{H H1 H2:Hp}{h h1 h2 h':Heap}{a x e:Addr}{o:HO}
theorem Un.any (u:Un fs ex H H1 h h1){b:Addr}{ob:Obj}(q:h.get? b=some ob)(n:H b=none)(hx:b ∉ ex):∃ sl,h1.get? b=some { ob with slots:=sl }:=by
 by_cases hb:b ∈ fs
 ·exact u.slot b ob q n hb hx
 ·exact ⟨ob.slots,u.keep b ob q n hb hx⟩
theorem Un.kept (k:∀ b u,h.get? b=some u->h'.get? b=some u):Un fs ex H H h h' :=
 ⟨fun b ob q _ _ _=>k b ob q,fun b ob q _ _ _=>⟨ob.slots,k b ob q⟩,fun _ _ _ n _=>n,fun b ob q _=>⟨ob,k b ob q⟩,fun _ _ q=>q,fun _ _ _ q=>q,fun _ ps q=>⟨#[],by rw [q];simp⟩⟩
theorem Un.refl:Un fs ex H H h h:=Un.kept fun _ _ q=>q
theorem Un.laid (k:∀ b u,h.get? b=some u->h'.get? b=some u)(hp:h.objs.size<=a)(hn:H a=none):Un fs ex H (upd H a o) h h' where
 keep:=fun b u q _ _ _=>k b u q
 slot:=fun b u q _ _ _=>⟨u.slots,k b u q⟩
 free:=fun b u q n _=>by rw [aE (Nat.ne_of_lt (Nat.lt_of_lt_of_le (Heap.lt_size q) hp))];exact n
 there:=fun b u q _=>⟨u,k b u q⟩
 tups:=fun b xs q=>by rw [aE (aG q hn)];exact q
 frzs:=fun b u xs q=>by rw [aE (aG q hn)];exact q
 tbls:=fun b ps q=>⟨#[],by rw [aE (aG q hn),q];simp⟩
theorem Un.write (mu:LC (H x))(he:e=x∨H e=some (.own x))(k:∀ b u,b≠e->h.get? b=some u->h'.get? b=some u)(heo:∃ u,h'.get? e=some u):Un fs ex H (upd H x o) h h':=by
 have hx:∀ b,H b=none->b≠x:=fun b n z=>by subst z;rw [n] at mu;exact mu
 have hb:∀ b,H b=none->b≠e:=fun b n z=>by
  subst z
  rcases he with r | r
  ·exact hx b n r
  ·rw [n] at r;cases r
 have hm:∀ b u,H b=some u->¬ LC (some u)->b≠x:=fun b u q nm z=>by subst z;rw [q] at mu;exact nm mu
 refine ⟨fun b u q n _ _=>k b u (hb b n) q,fun b u q n _ _=>⟨u.slots,k b u (hb b n) q⟩,fun b u q n _=>by rw [aE (hx b n)];exact n,fun b u q _=>?_,
  fun b xs q=>by rw [aE (hm b _ q fun z=>z)];exact q,fun b u xs q=>by rw [aE (hm b _ q fun z=>z)];exact q,fun b ps q=>⟨#[],by rw [aE (hm b _ q fun z=>z),q];simp⟩⟩
 by_cases hbe:b=e
 ·subst hbe;exact heo
 ·exact ⟨u,k b u hbe q⟩
end
noncomputable def trk (h:Heap)(H:Hp):List Addr:=(List.range h.objs.size).filter fun a=>(H a).isSome
noncomputable def hidT (h:Heap)(H:Hp):Heap:=PySem.W.hideAll h (trk h H)
theorem AX (h:Heap)(H:Hp):(hidT h H).objs.size=h.objs.size:=PySem.W.hideAll_size _ _
theorem D6 {h:Heap}{H:Hp}{b:Addr}{o:Obj}(e:h.get? b=some o)(n:H b=none):(hidT h H).get? b=some o :=
 PySem.W.hideAll_get _ e fun hm=>by
  have q:(H b).isSome=true:=(List.mem_filter.mp hm).2
  rw [n] at q;simp at q
theorem GN {h:Heap}{H:Hp}{b:Addr}{o:Obj}(e:(hidT h H).get? b=some o):h.get? b=some o/\H b=none:=by
 have e':h.get? b=some o:=PySem.W.of_hideAll (trk h H) e
 refine ⟨e',?_⟩
 cases q:H b with
 | none=>rfl
 | some x =>
  have hm:b ∈ trk h H:=List.mem_filter.mpr ⟨List.mem_range.mpr (Heap.lt_size e'),by simp [q]⟩
  have z:(hidT h H).get? b=none:=PySem.W.hideAll_none (trk h H) hm
  rw [z] at e;cases e
noncomputable def HA (g h:Heap)(L:Addr):cZ:=(List.range h.objs.size).filterMap fun a=>if a=L∨(g.get? a).isSome=true then none else (h.get? a).map fun o=>(a,o)
noncomputable def rest (g h:Heap)(L d:Addr):cZ:=(HA g h L).filter fun p=>decide (p.1≠d)
structure Mod (K:PySem.W.Frag)(mg:eJ)(base:Heap):Prop where
 kin:K.In base
 glob:base.Ns mainGlobals mg
 blt:∃ mb,base.Ns builtinsNs mb/\∀ x:Str,x≠"__name__"->mb x=bootBuiltins x
 nolimit:base.NoLimit
structure Cx where
 prog:Program
 w:World
 K:PySem.W.Frag
 mg:eJ
 base:Heap
 A:Around
 N:aW
 s₀:Shared
 H₀:Hp
 env:Env
 outer:List Env
 stack:List Env
 ex:List Addr
 fn:Str->Bool
 calm:Bool
 pn:cZ
 xe:cY
noncomputable def frs (l:List Env):List Addr:=l.filterMap (·.frame)
noncomputable abbrev Cx.fs (X:Cx):List Addr:=frs X.outer
noncomputable def LH (sc:Scope)(x:Str):Prop:=sc.names.lookup x=some .local∨sc.names.lookup x=some .cell∨sc.names.lookup x=some .free
noncomputable def KN (sc:Scope)(x:Str):Prop:=sc.names.lookup x=some .local∨sc.names.lookup x=some .cell
noncomputable def LU (env:Env)(h:Heap)(m:eJ)(x:Str)(u:Value):Prop :=
 (env.kindOf x=some .local/\m x=some u)∨((env.kindOf x=some .cell∨env.kindOf x=some .free)/\∃ c,env.cells.lookup x=some c/\h.IsCell c (some u))
structure Cx.Ok (X:Cx):Prop where
 mod:Mod X.K X.mg X.base
 kind:X.env.scope.kind = .function
 glob:X.env.globals=mainGlobals
 blt:X.env.builtins=builtinsNs
 above:X.s₀.heap.objs.size<=X.env.locals
 inj:∀ x y c,X.env.cells.lookup x=some c->X.env.cells.lookup y=some c->x=y
 has:∀ x,(X.env.kindOf x=some .cell∨X.env.kindOf x=some .free)->∃ c,X.env.cells.lookup x=some c
 cab:∀ x c,X.fn x=true->X.env.cells.lookup x=some c->X.s₀.heap.objs.size<=c
 hd:X.calm=true->X.A.handled=none
 frames:X.A.frames=some X.stack
 stk:X.stack=X.outer∨(X.stack=X.env :: X.outer/\X.env.frame=some X.env.locals)
 exf:∀ b ∈ X.ex,b≠X.env.locals/\∀ x c,X.env.cells.lookup x=some c->c≠b
 bs:∀ b o,X.base.get? b=some o->X.s₀.heap.get? b=some o/\X.H₀ b=none
 bsz:X.base.objs.size<=X.s₀.heap.objs.size
 noex:∀ b o,X.base.get? b=some o->b ∉ X.ex
 exfs:∀ b ∈ X.ex,b ∉ X.fs
 funs:X.s₀.heap.FunFrames X.base X.outer
 frf:∀ b ∈ X.fs,X.H₀ b=none
structure aN (X:Cx)(pins:cZ)(σ:List (Option V))(H:Hp)(s:Shared):Prop where
 ok:X.Ok
 os:s.os=X.s₀.os
 bare:AllBare s.gens
 base:Un X.fs X.ex X.H₀ H X.s₀.heap s.heap
 loc:∃ m,s.heap.Ns X.env.locals m/\∀ (i:Nat) (x:Str) (v:V),X.N[i]?=some x->σ[i]?=some (some v)->LH X.env.scope x->∃ u,aQ v u/\LU X.env s.heap m x u
 cell:∀ x c,X.env.cells.lookup x=some c->∃ v,s.heap.IsCell c v
 free:H X.env.locals=none
 freeC:∀ x c,X.env.cells.lookup x=some c->H c=none
 pin:∀ p ∈ X.pn ++ pins,s.heap.get? p.1=some p.2/\H p.1=none/\p.1≠X.env.locals/\p.1 ∉ X.fs/\∀ v,p.2.data≠.cell v
 hok:iG X.prog X.w H s.heap
 len:σ.length=X.N.length
section
variable {X:Cx}{pins:cZ}{σ:List (Option V)}{H H':Hp}{s:Shared}{h':Heap}
theorem Cx.Ok.nofr (ok:X.Ok){b:Addr}{o:Obj}(e:X.base.get? b=some o):b ∉ X.fs:=fun hb=>by
 have:=(ok.funs.mem hb).1
 rw [e] at this;cases this
theorem aN.bs (I:aN X pins σ H s):∀ b o,X.base.get? b=some o->s.heap.get? b=some o/\H b=none:=fun b o e =>
 ⟨I.base.keep b o (I.ok.bs b o e).1 (I.ok.bs b o e).2 (I.ok.nofr e) (I.ok.noex b o e),I.base.free b o (I.ok.bs b o e).1 (I.ok.bs b o e).2 (I.ok.noex b o e)⟩
theorem aN.bk (I:aN X pins σ H s):∀ b o,X.base.get? b=some o->s.heap.get? b=some o:=fun b o e=>(I.bs b o e).1
theorem aN.mod (I:aN X pins σ H s):Mod X.K X.mg X.base:=I.ok.mod
theorem aN.kIn (I:aN X pins σ H s):X.K.In s.heap:=I.ok.mod.kin.keeps I.bk
theorem aN.lt (I:aN X pins σ H s):X.env.locals < s.heap.objs.size:=let ⟨_,hn,_⟩:=I.loc;hn.lt
theorem aN.sz (I:aN X pins σ H s):X.s₀.heap.objs.size<=s.heap.objs.size:=Nat.le_trans I.ok.above (Nat.le_of_lt I.lt)
theorem aN.nofs (I:aN X pins σ H s){a:Addr}(h:s.heap.objs.size<=a):a ∉ X.fs:=fun hb=>by
 obtain ⟨_,o,ho,_⟩:=I.ok.funs.mem hb
 exact absurd (Nat.lt_of_lt_of_le (Heap.lt_size ho) (Nat.le_trans I.sz h)) (Nat.lt_irrefl _)
theorem aN.cne (I:aN X pins σ H s):∀ x c,X.env.cells.lookup x=some c->c≠X.env.locals:=fun x c e z=>by
 obtain ⟨v,o,ho,hd⟩:=I.cell x c e
 obtain ⟨m,⟨o',es,ep,ho',hd',_⟩,_⟩:=I.loc
 rw [z,ho'] at ho;cases ho;rw [hd'] at hd;cases hd
theorem aN.funs (I:aN X pins σ H s):s.heap.FunFrames X.base X.outer:=by
 have all:∀ (l:List Env),(∀ b ∈ frs l,b ∈ X.fs)->X.s₀.heap.FunFrames X.base l->s.heap.FunFrames X.base l:=by
  intro l
  induction l with
  | nil=>intro _ _;trivial
  | cons env r ih =>
   intro hs hl
   obtain ⟨hk,⟨L,o,hf,hn,ho,hd⟩,hr⟩:=hl
   have hL:L ∈ X.fs:=hs L (by unfold frs;rw [List.filterMap_cons,hf];exact List.mem_cons_self)
   obtain ⟨sl,e⟩:=I.base.slot L o ho (I.ok.frf L hL) hL fun z=>I.ok.exfs L z hL
   exact ⟨hk,⟨L,_,hf,hn,e,hd⟩,ih (fun b hb=>hs b (by unfold frs;rw [List.filterMap_cons,hf];exact List.mem_cons_of_mem _ hb)) hr⟩
 exact all X.outer (fun _ hb=>hb) I.ok.funs
theorem aN.stack (I:aN X pins σ H s):s.heap.FunFrames X.base X.stack:=by
 rcases I.ok.stk with e | ⟨e,hf⟩
 ·rw [e];exact I.funs
 ·rw [e]
  obtain ⟨m,hn,_⟩:=I.loc
  refine .cons (by rw [I.ok.kind];decide) hf hn ?_ I.funs
  exact Heap.get?_none_of_le (Nat.le_trans I.ok.bsz I.ok.above)
theorem aN.stkSub (I:aN X pins σ H s):∀ b ∈ frs X.stack,b ∈ X.env.locals :: X.fs:=fun b hb=>by
 rcases I.ok.stk with e | ⟨e,hf⟩
 ·rw [e] at hb;exact List.mem_cons_of_mem _ hb
 ·rw [e] at hb
  unfold frs at hb
  rw [List.filterMap_cons,hf] at hb
  exact hb
theorem aN.stkFree (I:aN X pins σ H s):∀ b ∈ frs X.stack,H b=none:=fun b hb=>by
 rcases List.mem_cons.mp (I.stkSub b hb) with e | hb
 ·rw [e];exact I.free
 ·obtain ⟨_,o,ho,_⟩:=I.ok.funs.mem hb
  exact I.base.free b o ho (I.ok.frf b hb) fun z=>I.ok.exfs b z hb
theorem aN.step {g':Array GenState}{t':Nat}{d':Drawn}{ch:List Addr}(I:aN X pins σ H s)
  (hch:∀ b ∈ ch,(b ∈ X.ex∨X.s₀.heap.objs.size<=b)/\b≠X.env.locals/\(∀ x c,X.env.cells.lookup x=some c->c≠b)/\∀ p ∈ X.pn ++ pins,p.1≠b)
  (keep:∀ b o,b≠X.env.locals->b ∉ X.fs->b ∉ ch->s.heap.get? b=some o->H b=none->h'.get? b=some o)
  (slot:∀ b o,b≠X.env.locals->b ∈ X.fs->b ∉ ch->s.heap.get? b=some o->H b=none->∃ sl,h'.get? b=some { o with slots:=sl }) (free:∀ b o,b ∉ ch->s.heap.get? b=some o->H b=none->H' b=none)
  (there:∀ b o,b ∉ ch->s.heap.get? b=some o->∃ o',h'.get? b=some o')
  (tups:∀ b xs,H b=some (.tup xs)->H' b=some (.tup xs)) (frzs:∀ b o u,H b=some (.frz o u)->H' b=some (.frz o u)) (tbls:∀ b ps,H b=some (.tbl ps)->∃ more,H' b=some (.tbl (ps ++ more)))
  (ns:∀ m,s.heap.Ns X.env.locals m->h'.Ns X.env.locals m) (hok:iG X.prog X.w H' h') (hg:AllBare g') :
  aN X pins σ H' { s with heap:=h',gens:=g',drawn:=d',toks:=t' }:=by
 have neL:∀ b o,X.s₀.heap.get? b=some o->b≠X.env.locals:=fun b o e=>Nat.ne_of_lt (Nat.lt_of_lt_of_le (Heap.lt_size e) I.ok.above)
 have neC:∀ b o,X.s₀.heap.get? b=some o->b ∉ X.ex->b ∉ ch:=fun b o e hx hb=>by
  rcases (hch b hb).1 with z | z
  ·exact hx z
  ·exact absurd (Nat.lt_of_lt_of_le (Heap.lt_size e) z) (Nat.lt_irrefl _)
 have cellK:∀ x c,X.env.cells.lookup x=some c->∀ v,s.heap.IsCell c v->h'.IsCell c v:=fun x c e v ⟨o,ho,hd⟩=>by
  have nch:c ∉ ch:=fun z=>(hch c z).2.2.1 x c e rfl
  by_cases hc:c ∈ X.fs
  ·obtain ⟨sl,q⟩:=slot c o (I.cne x c e) hc nch ho (I.freeC x c e)
   exact ⟨_,q,hd⟩
  ·exact ⟨o,keep c o (I.cne x c e) hc nch ho (I.freeC x c e),hd⟩
 refine ⟨I.ok,I.os,hg,⟨fun b o e n hb hx=>?_,fun b o e n hb hx=>?_,fun b o e n hx=>?_,fun b o e hx=>?_,fun b xs e=>tups b xs (I.base.tups b xs e),fun b o xs e=>frzs b o xs (I.base.frzs b o xs e),fun b ps e=>?_⟩,?_,fun x c e=>?_,?_,fun x c e=>?_,fun p hp=>?_,hok,I.len⟩
 ·exact keep b o (neL b o e) hb (neC b o e hx) (I.base.keep b o e n hb hx) (I.base.free b o e n hx)
 ·obtain ⟨sl,e1⟩:=I.base.slot b o e n hb hx
  obtain ⟨sl',e2⟩:=slot b _ (neL b o e) hb (neC b o e hx) e1 (I.base.free b o e n hx)
  exact ⟨sl',e2⟩
 ·obtain ⟨o',e1⟩:=I.base.there b o e hx
  exact free b o' (neC b o e hx) e1 (I.base.free b o e n hx)
 ·obtain ⟨o',e1⟩:=I.base.there b o e hx
  exact there b o' (neC b o e hx) e1
 ·obtain ⟨m1,e1⟩:=I.base.tbls b ps e
  obtain ⟨m2,e2⟩:=tbls b _ e1
  exact ⟨m1 ++ m2,by rw [e2,Array.append_assoc]⟩
 ·obtain ⟨m,hn,hl⟩:=I.loc
  refine ⟨m,ns m hn,fun i x v e1 e2 e3=>?_⟩
  obtain ⟨u,r,l⟩:=hl i x v e1 e2 e3
  refine ⟨u,r,?_⟩
  rcases l with l | ⟨k,c,e,z⟩
  ·exact .inl l
  ·exact .inr ⟨k,c,e,cellK x c e _ z⟩
 ·obtain ⟨v,z⟩:=I.cell x c e
  exact ⟨v,cellK x c e v z⟩
 ·obtain ⟨m,⟨o,_,_,ho,_⟩,_⟩:=I.loc
  exact free _ o (fun z=>(hch _ z).2.1 rfl) ho I.free
 ·obtain ⟨v,o,ho,hd⟩:=I.cell x c e
  exact free c o (fun z=>(hch c z).2.2.1 x c e rfl) ho (I.freeC x c e)
 ·obtain ⟨e,n,ne,nf,d⟩:=I.pin p hp
  have nch:p.1 ∉ ch:=fun z=>(hch p.1 z).2.2.2 p hp rfl
  exact ⟨keep p.1 p.2 ne nf nch e n,free p.1 p.2 nch e n,ne,nf,d⟩
theorem aN.un {t':Nat}(I:aN X pins σ H s)(u:Un X.fs [] H H' s.heap h')(hok:iG X.prog X.w H' h'):aN X pins σ H' { s with heap:=h',toks:=t' }:=by
 obtain ⟨m,⟨o,es,ep,ho,r⟩,_⟩:=id I.loc
 obtain ⟨sl,hL⟩:=u.any ho I.free (by simp)
 exact I.step (g':=s.gens) (d':=s.drawn) (ch:=[]) (fun _ z=>nomatch z) (fun b o _ hb _ e n=>u.keep b o e n hb (by simp)) (fun b o _ hb _ e n=>u.slot b o e n hb (by simp)) (fun b o _ e n=>u.free b o e n (by simp)) (fun b o _ e=>u.there b o e (by simp)) u.tups u.frzs u.tbls (fun m' hm=>by
  obtain ⟨o',es',ep',ho',r'⟩:=hm
  rw [ho] at ho';cases ho'
  exact ⟨_,es',ep',hL,r'⟩) hok I.bare
theorem aN.call {g':Array GenState}{t':Nat}{d':Drawn}{ch:List Addr}(I:aN X pins σ H s)(u:Un (frs X.stack) ch H H' s.heap h')(hok:iG X.prog X.w H' h')(hg:AllBare g')
  (hch:∀ b ∈ ch,(b ∈ X.ex∨X.s₀.heap.objs.size<=b)/\b≠X.env.locals/\(∀ x c,X.env.cells.lookup x=some c->c≠b)/\∀ p ∈ X.pn ++ pins,p.1≠b) :
  aN X pins σ H' { s with heap:=h',gens:=g',drawn:=d',toks:=t' }:=by
 obtain ⟨m,⟨o,es,ep,ho,r⟩,_⟩:=id I.loc
 obtain ⟨sl,hL⟩:=u.any ho I.free fun z=>(hch _ z).2.1 rfl
 exact I.step (ch:=ch) hch (fun b o hL hb hc e n=>u.keep b o e n (fun z=>(List.mem_cons.mp (I.stkSub b z)).elim hL hb) hc) (fun b o _ _ hc e n=>u.any e n hc) (fun b o hc e n=>u.free b o e n hc) (fun b o hc e=>u.there b o e hc) u.tups u.frzs u.tbls (fun m' hm=>by
  obtain ⟨o',es',ep',ho',r'⟩:=hm
  rw [ho] at ho';cases ho'
  exact ⟨_,es',ep',hL,r'⟩) hok hg
theorem aN.turned {t':Nat}{it:Addr}(I:aN X pins σ H s)(k:∀ b o,b≠it->s.heap.get? b=some o->h'.get? b=some o)(hn:H it=none)(hL:it≠X.env.locals)
  (h1:it ∈ X.ex∨X.s₀.heap.objs.size<=it) (h2:∀ x c,X.env.cells.lookup x=some c->c≠it) (h3:∀ p ∈ X.pn ++ pins,p.1≠it):aN X pins σ H { s with heap:=h',toks:=t' }:=by
 have nit:∀ b u,H b=some u->b≠it:=fun b u e z=>by rw [z,hn] at e;cases e
 refine I.step (g':=s.gens) (d':=s.drawn) (ch:=[it]) (fun b hb=>?_) (fun b o _ _ hc e _=>k b o (fun z=>hc (by simp [z])) e) (fun b o _ _ hc e _=>⟨o.slots,k b o (fun z=>hc (by simp [z])) e⟩) (fun _ _ _ _ n=>n)
  (fun b o hc e=>⟨o,k b o (fun z=>hc (by simp [z])) e⟩) (fun _ _ e=>e) (fun _ _ _ e=>e) (fun b ps e=>⟨#[],by rw [e];simp⟩) (fun m hm=>?_) (fun b u e=>?_) I.bare
 ·have e:b=it:=by simpa using hb
  subst e
  exact ⟨h1,hL,h2,h3⟩
 ·obtain ⟨o,es,ep,ho,r⟩:=hm
  exact ⟨o,es,ep,k _ o (Ne.symm hL) ho,r⟩
 ·refine (I.hok b u e).stay (fun c v hc q=>k c v ?_ q) (fun _ q=>q) fun _ _ q=>q
  rcases hc with z | z
  ·rw [z];exact nit b u e
  ·exact nit c _ z
theorem aN.tok (I:aN X pins σ H s)(t:Nat):aN X pins σ H { s with toks:=t }:=I.un (h':=s.heap) (t':=t) Un.refl I.hok
theorem aN.kept {t':Nat}(I:aN X pins σ H s)(k:∀ b u,s.heap.get? b=some u->h'.get? b=some u):aN X pins σ H { s with heap:=h',toks:=t' }:=I.un (Un.kept k) (I.hok.kept k)
theorem aN.laid {a:Addr}{o:HO}{t':Nat}(I:aN X pins σ H s)(k:∀ b u,s.heap.get? b=some u->h'.get? b=some u)(hp:s.heap.objs.size<=a)(new:bY X.prog X.w (upd H a o) h' a o) :
  aN X pins σ (upd H a o) { s with heap:=h',toks:=t' }:=I.un (Un.laid k hp (I.hok.fresh hp)) (I.hok.laid k hp new)
theorem aN.write {x e:Addr}{o:HO}{t':Nat}(I:aN X pins σ H s)(mu:LC (H x))(he:e=x∨H e=some (.own x))(k:∀ b u,b≠e->s.heap.get? b=some u->h'.get? b=some u)(heo:∃ u,h'.get? e=some u)
  (new:bY X.prog X.w (upd H x o) h' x o):aN X pins σ (upd H x o) { s with heap:=h',toks:=t' }:=I.un (Un.write mu he k heo) (I.hok.write mu he k heo new)
theorem aN.pins_of {pins':cZ}(I:aN X pins σ H s)(h:∀ p ∈ pins',s.heap.get? p.1=some p.2/\H p.1=none/\p.1≠X.env.locals/\p.1 ∉ X.fs/\∀ v,p.2.data≠.cell v):aN X pins' σ H s :=
 ⟨I.ok,I.os,I.bare,I.base,I.loc,I.cell,I.free,I.freeC,fun p hp=>(List.mem_append.mp hp).elim (fun z=>I.pin p (List.mem_append_left _ z)) (h p),I.hok,I.len⟩
theorem pX {N:aW}(hN:N.Nodup){i j:Nat}{x:Str}(a:N[i]?=some x)(b:N[j]?=some x):i=j:=by
 obtain ⟨h1,e1⟩:=List.getElem?_eq_some_iff.mp a
 obtain ⟨h2,e2⟩:=List.getElem?_eq_some_iff.mp b
 exact (List.getElem_inj hN).mp (e1.trans e2.symm)
theorem qZ {M:Model}{A:Around}{E:cY}{i:Nat}{x:Str}{v:V}{u:Value}{Q:Unit->Shared->Prop}(I:aN X pins σ H s)(hN:X.N.Nodup)(hi:X.N[i]?=some x)(hx:KN X.env.scope x)(r:aQ v u)
  (h:∀ s',aN X pins (σ.set i (some v)) H s'->(∃ a,Heap.SameBut a s.heap s'.heap/\(a=X.env.locals∨X.env.cells.lookup x=some a))->Q () s') (hf:X.fn x=true∨X.env.scope.names.lookup x=some .local:=by first | exact .inl rfl | exact .inr rfl | assumption):wpAny M A (storeName X.env x u) Q E s:=by
 obtain ⟨m,hn,hl⟩:=id I.loc
 have hcls:(X.env.scope.kind == .class || (X.env.scope.kind == .module && X.env.locals != X.env.globals))=false:=by rw [I.ok.kind];rfl
 have hiσ:i < σ.length:=by rw [I.len];exact (List.getElem?_eq_some_iff.mp hi).1
 have cne:=I.cne
 have tracked:∀ {a:Addr} {h':Heap},(∃ o,s.heap.get? a=some o/\H a=none)->Heap.SameBut a s.heap h'->iG X.prog X.w H h':=fun {a h'} ha hs b ob e=>by
  obtain ⟨_,_,hfree⟩:=ha
  refine (I.hok b ob e).stay (fun c w' hc q=>(hs.2 c ?_).trans q) (fun _ q=>q) fun _ _ q=>q
  rintro rfl
  rcases hc with rfl | hc
  ·rw [hfree] at e;cases e
  ·rw [hfree] at hc;cases hc
 rcases hx with hk | hk
 ·refine wpAny_storeName_local hk hn (fun h' hn' hs=>?_) hcls
  obtain ⟨oL,_,_,hoL,_⟩:=id hn
  refine h _ ⟨I.ok,I.os,I.bare,⟨fun b o e n hb hx=>?_,fun b o e n hb hx=>?_,I.base.free,fun b o e hx=>?_,I.base.tups,I.base.frzs,I.base.tbls⟩,⟨_,hn',fun j y v' e1 e2 e3=>?_⟩,fun y c e=>?_,I.free,I.freeC,fun p hp=>?_,tracked ⟨oL,hoL,I.free⟩ hs,by simpa using I.len⟩ ⟨_,hs,.inl rfl⟩
  ·exact (hs.2 b (Nat.ne_of_lt (Nat.lt_of_lt_of_le (Heap.lt_size e) I.ok.above))).trans (I.base.keep b o e n hb hx)
  ·obtain ⟨sl,e1⟩:=I.base.slot b o e n hb hx
   exact ⟨sl,(hs.2 b (Nat.ne_of_lt (Nat.lt_of_lt_of_le (Heap.lt_size e) I.ok.above))).trans e1⟩
  ·obtain ⟨o',e1⟩:=I.base.there b o e hx
   exact ⟨o',(hs.2 b (Nat.ne_of_lt (Nat.lt_of_lt_of_le (Heap.lt_size e) I.ok.above))).trans e1⟩
  ·by_cases hj:j=i
   ·subst hj
    rw [hi] at e1;cases e1
    rw [List.getElem?_set_self hiσ] at e2
    cases e2
    exact ⟨u,r,.inl ⟨hk,by simp⟩⟩
   ·rw [List.getElem?_set_ne (Ne.symm hj)] at e2
    obtain ⟨u',r',q⟩:=hl j y v' e1 e2 e3
    refine ⟨u',r',?_⟩
    rcases q with ⟨k,e⟩ | ⟨k,c,e,z⟩
    ·refine .inl ⟨k,?_⟩
     have:y≠x:=fun e=>hj (pX hN e1 (e ▸ hi))
     simp [this,e]
    ·exact .inr ⟨k,c,e,z.sameBut hs (cne y c e)⟩
  ·obtain ⟨w',z⟩:=I.cell y c e
   exact ⟨w',z.sameBut hs (cne y c e)⟩
  ·obtain ⟨e,n,ne,nf,d⟩:=I.pin p hp
   exact ⟨(hs.2 p.1 ne).trans e,n,ne,nf,d⟩
 ·have hfn:X.fn x=true:=by
   rcases hf with z | z
   ·exact z
   ·rw [z] at hk;cases hk
  obtain ⟨c,hc⟩:=I.ok.has x (.inl hk)
  obtain ⟨w',z⟩:=I.cell x c hc
  refine wpAny_storeName_cell I.ok.kind hk hc z (fun h' hc' hs=>?_)
  obtain ⟨oc,hoc,hocd⟩:=id z
  refine h { s with heap:=h' } ⟨I.ok,I.os,I.bare,⟨fun b o e n hb hx=>?_,fun b o e n hb hx=>?_,I.base.free,fun b o e hx=>?_,I.base.tups,I.base.frzs,I.base.tbls⟩,⟨m,hn.sameBut hs (Ne.symm (cne x c hc)),fun j y v' e1 e2 e3=>?_⟩,fun y c' e=>?_,I.free,I.freeC,fun p hp=>?_,tracked ⟨oc,hoc,I.freeC x c hc⟩ hs,by simpa using I.len⟩ ⟨c,hs,.inr hc⟩
  ·exact (hs.2 b (Nat.ne_of_lt (Nat.lt_of_lt_of_le (Heap.lt_size e) (I.ok.cab x c hfn hc)))).trans (I.base.keep b o e n hb hx)
  ·obtain ⟨sl,e1⟩:=I.base.slot b o e n hb hx
   exact ⟨sl,(hs.2 b (Nat.ne_of_lt (Nat.lt_of_lt_of_le (Heap.lt_size e) (I.ok.cab x c hfn hc)))).trans e1⟩
  ·obtain ⟨o',e1⟩:=I.base.there b o e hx
   exact ⟨o',(hs.2 b (Nat.ne_of_lt (Nat.lt_of_lt_of_le (Heap.lt_size e) (I.ok.cab x c hfn hc)))).trans e1⟩
  ·by_cases hj:j=i
   ·subst hj
    rw [hi] at e1;cases e1
    rw [List.getElem?_set_self hiσ] at e2
    cases e2
    exact ⟨u,r,.inr ⟨.inl hk,c,hc,hc'⟩⟩
   ·rw [List.getElem?_set_ne (Ne.symm hj)] at e2
    obtain ⟨u',r',q⟩:=hl j y v' e1 e2 e3
    refine ⟨u',r',?_⟩
    rcases q with q | ⟨k,c',e,z'⟩
    ·exact .inl q
    ·refine .inr ⟨k,c',e,z'.sameBut hs ?_⟩
     rintro rfl
     exact hj (pX hN e1 (I.ok.inj _ _ _ e hc ▸ hi))
  ·by_cases hcc:c'=c
   ·subst hcc;exact ⟨_,hc'⟩
   ·obtain ⟨w2,z2⟩:=I.cell y c' e
    exact ⟨w2,z2.sameBut hs hcc⟩
  ·obtain ⟨e,n,ne,nf,d⟩:=I.pin p hp
   refine ⟨(hs.2 p.1 ?_).trans e,n,ne,nf,d⟩
   intro q
   rw [q,hoc] at e
   have q':oc=p.2:=Option.some.inj e
   exact d w' (by rw [← q'];exact hocd)
theorem lU {M:Model}{A:Around}{E:cY}{i:Nat}{x:Str}{v:V}{u:Value}{Q:Unit->Shared->Prop}(I:aN X pins σ H s)(hN:X.N.Nodup)(hi:X.N[i]?=some x)(hx:KN X.env.scope x)(r:aQ v u)
  (h:∀ s',aN X pins (σ.set i (some v)) H s'->Q () s') (hf:X.fn x=true∨X.env.scope.names.lookup x=some .local:=by first | exact .inl rfl | exact .inr rfl | assumption):wpAny M A (storeName X.env x u) Q E s :=
 qZ I hN hi hx r (fun s' I' _=>h s' I') hf
theorem aN.call' {s':Shared}{ch:List Addr}(I:aN X pins σ H s)(ho:s'.os=s.os)(u:Un (frs X.stack) ch H H' s.heap s'.heap)(hok:iG X.prog X.w H' s'.heap)(hg:AllBare s'.gens)
  (hch:∀ b ∈ ch,(b ∈ X.ex∨X.s₀.heap.objs.size<=b)/\b≠X.env.locals/\(∀ x c,X.env.cells.lookup x=some c->c≠b)/\∀ p ∈ X.pn ++ pins,p.1≠b):aN X pins σ H' s':=by
 obtain ⟨h',g',d',t',o'⟩:=s'
 have e:o'=s.os:=ho
 subst e
 exact I.call (g':=g') (t':=t') (d':=d') u hok hg hch
end
noncomputable abbrev XK:=Value->Option Addr->Hp->Prop
noncomputable abbrev St:=List (Option V)
noncomputable abbrev VK:=V->Hp->Prop
noncomputable abbrev TE:=St->Hp->VK->Prop
noncomputable abbrev TT:=St->Hp->(Bool->Hp->Prop)->Prop
noncomputable abbrev TA:=St->Hp->(List V->Hp->Prop)->Prop
structure gR where
 nx:St->Hp->Prop
 rt:VK
 bk:St->Hp->Prop:=fun _ _=>False
 ct:St->Hp->Prop:=fun _ _=>False
noncomputable abbrev TS:=gR->St->Hp->Prop
noncomputable def EP (X:Cx)(pins:cZ)(σ:St)(Q:VK)(u:Value)(s':Shared):Prop:=∃ v H',aN X pins σ H' s'/\aQ v u/\Q v H'
noncomputable def TP (X:Cx)(pins:cZ)(σ:St)(Q:Bool->Hp->Prop)(b:Bool)(s':Shared):Prop:=∃ H',aN X pins σ H' s'/\Q b H'
noncomputable def AP (X:Cx)(pins:cZ)(σ:St)(Q:List V->Hp->Prop)(us:cE)(s':Shared):Prop:=∃ vs H',aN X pins σ H' s'/\aV vs us/\Q vs H'
noncomputable def SP (X:Cx)(pins:cZ)(D:gR)(f:Flow)(s':Shared):Prop :=
 match f with
 | .next=>∃ σ' H',aN X pins σ' H' s'/\D.nx σ' H'
 | .brk=>∃ σ' H',aN X pins σ' H' s'/\D.bk σ' H'
 | .cont=>∃ σ' H',aN X pins σ' H' s'/\D.ct σ' H'
 | .ret u=>∃ v σ' H',aN X pins σ' H' s'/\aQ v u/\D.rt v H'
noncomputable def PE (X:Cx)(e:Expr)(t:TE):Prop :=
 ∀ (pins:cZ) (s:Shared) (σ:St) (H:Hp) (Q:VK),aN X pins σ H s->t σ H Q->wpAny (model X.prog X.w) X.A (eval e X.env) (EP X pins σ Q) X.xe s
noncomputable def PT (X:Cx)(e:Expr)(t:TT):Prop :=
 ∀ (pins:cZ) (s:Shared) (σ:St) (H:Hp) (Q:Bool->Hp->Prop),aN X pins σ H s->t σ H Q->wpAny (model X.prog X.w) X.A (isTrue e X.env (eval e X.env)) (TP X pins σ Q) X.xe s
noncomputable def PW (X:Cx)(e:Expr)(t:TT):Prop :=
 ∀ (whole:Sem Value) (pins:cZ) (s:Shared) (σ:St) (H:Hp) (Q:Bool->Hp->Prop),aN X pins σ H s->t σ H Q->wpAny (model X.prog X.w) X.A (isTrue e X.env whole) (TP X pins σ Q) X.xe s
theorem PW.pt {X:Cx}{e:Expr}{t:TT}(h:PW X e t):PT X e t:=h _
noncomputable def PA (X:Cx)(es:iW)(t:TA):Prop :=
 ∀ (pos:Pos) (pins:cZ) (s:Shared) (σ:St) (H:Hp) (Q:List V->Hp->Prop),aN X pins σ H s->t σ H Q->wpAny (model X.prog X.w) X.A (spliced (backTo pos (starEach es X.env))) (AP X pins σ Q) X.xe s
noncomputable def PS (X:Cx)(st:Stmt)(t:TS):Prop :=
 ∀ (pins:cZ) (s:Shared) (σ:St) (H:Hp) (D:gR),aN X pins σ H s->t D σ H->wpAny (model X.prog X.w) X.A (exec st X.env) (SP X pins D) X.xe s
noncomputable def oH (X:Cx)(st:List Stmt)(t:TS):Prop :=
 ∀ (pins:cZ) (s:Shared) (σ:St) (H:Hp) (D:gR),aN X pins σ H s->t D σ H->wpAny (model X.prog X.w) X.A (execs st X.env) (SP X pins D) X.xe s
theorem thn {α:Type}{t:Sem α}{Q Q':α->Shared->Prop}{M:Model}{A:Around}{E:cY}{s:Shared}(h:wpAny M A t Q E s)(hQ:∀ a s,Q a s->Q' a s):wpAny M A t Q' E s:=wpAny_mono h hQ fun _ _ x=>x
section
variable {X:Cx}
theorem bin {a b:Expr}{ta tb:TE}(ha:PE X a ta)(hb:PE X b tb){pins:cZ}{s:Shared}{σ:St}{H:Hp}{R:V->V->Hp->Prop}(I:aN X pins σ H s)(h:ta σ H fun x H1=>tb σ H1 fun y H2=>R x y H2)
  {α:Type} {Q:α->Shared->Prop} {f:Value->Value->Sem α}
  (hf:∀ v u s2 x y H2,aN X pins σ H2 s2->aQ x v->aQ y u->R x y H2->wpAny (model X.prog X.w) X.A (f v u) Q X.xe s2) :
  wpAny (model X.prog X.w) X.A (eval a X.env) (fun v s₁=>wpAny (model X.prog X.w) X.A (eval b X.env) (fun u s₂=>wpAny (model X.prog X.w) X.A (f v u) Q X.xe s₂) X.xe s₁) X.xe s:=by
 refine thn (ha pins s σ H _ I h) fun v s1 ⟨x,H1,I1,r1,q1⟩=>?_
 refine thn (hb pins s1 σ H1 _ I1 q1) fun u s2 ⟨y,H2,I2,r2,q2⟩=>?_
 exact hf v u s2 x y H2 I2 r1 r2 q2
noncomputable def tVar (i:Nat):TE:=fun σ H Q=>∃ v,σ[i]?=some (some v)/\Q v H
noncomputable def tC (v:V):TE:=fun _ H Q=>Q v H
theorem JH {i:Nat}{x:Str}{pos:Pos}(hN:X.N[i]?=some x)(hv:LH X.env.scope x)(hd:(x == ("__debug__" : Str))=false:=by decide)(hcd:(x == ("__classdict__" : Str))=false:=by decide):PE X (.Name x pos) (tVar i):=by
 intro pins s σ H Q I h
 obtain ⟨v,e,h⟩:=h
 obtain ⟨m,hn,hl⟩:=I.loc
 obtain ⟨u,r,l⟩:=hl i x v hN e hv
 have fin:EP X pins σ Q u s:=⟨v,H,I,r,h⟩
 rcases l with ⟨hk,hm⟩ | ⟨hk,c,hc,hcell⟩
 ·exact wpAny_Name (wpAny_loadName_local I.ok.kind hk hn hm fin) hd
 ·rcases hk with hk | hk
  ·exact wpAny_Name (wpAny_loadName_cell I.ok.kind hk hc hcell fin) hd
  ·exact wpAny_Name (wpAny_loadName_free I.ok.kind hk hc hcell fin hcd) hd
theorem aF {i j pos}:PE X (.Constant (.int i) j pos) (tC (.int i)):=fun _ _ _ H _ I h=>wpAny_Constant_int ⟨.int i,H,I.tok _,⟨_,rfl⟩,h⟩
theorem kA {b j pos}:PE X (.Constant (.bool b) j pos) (tC (.bl b)):=fun _ _ _ H _ I h=>Constant_bool ⟨.bl b,H,I,rfl,h⟩
theorem jL {j pos}:PE X (.Constant .none j pos) (tC .non):=fun _ _ _ H _ I h=>Constant_none ⟨.non,H,I,rfl,h⟩
theorem bA {x j pos}:PE X (.Constant (.str x) j pos) (tC (.str x)):=fun _ _ _ H _ I h=>Calls.Constant_str ⟨.str x,H,I.tok _,⟨_,rfl⟩,h⟩
noncomputable def Gl (X:Cx)(x:Str):Prop:=X.env.kindOf x=some .globalImplicit
theorem jN {E:cY}{pins:cZ}{s:Shared}{σ:St}{H:Hp}{x:Str}{u:Value}{pos:Pos}{Q:cY}(I:aN X pins σ H s)(hg:Gl X x)(hm:X.mg x=some u)(h:Q u s)
  (hd:(x == ("__debug__" : Str))=false:=by decide):wpAny (model X.prog X.w) X.A (eval (.Name x pos) X.env) Q E s :=
 Calls.Name_function_global I.ok.kind hg (Calls.loadGlobal_global (by rw [I.ok.glob];exact I.mod.glob.keeps I.bk) hm h) hd
theorem pY {E:cY}{pins:cZ}{s:Shared}{σ:St}{H:Hp}{x:Str}{u:Value}{pos:Pos}{Q:cY}(I:aN X pins σ H s)(hg:Gl X x)(hm:X.mg x=none)(hv:bootBuiltins x=some u)(h:Q u s)
  (hn:x≠"__name__":=by decide) (hd:(x == ("__debug__" : Str))=false:=by decide):wpAny (model X.prog X.w) X.A (eval (.Name x pos) X.env) Q E s:=by
 obtain ⟨mb,h1,h2⟩:=I.mod.blt
 exact Calls.Name_function_global I.ok.kind hg (Calls.loadGlobal_builtin (by rw [I.ok.glob];exact I.mod.glob.keeps I.bk) hm (by rw [I.ok.blt];exact h1.keeps I.bk) ((h2 x hn).trans hv) h) hd
theorem FU {x:Str}{v:V}{u:Value}{pos:Pos}(hg:Gl X x)(hm:X.mg x=some u)(r:aQ v u)(hd:(x == ("__debug__" : Str))=false:=by decide):PE X (.Name x pos) (tC v) :=
 fun _ _ _ H _ I h=>jN I hg hm ⟨v,H,I,r,h⟩ hd
theorem bX {x:Str}{v:V}{u:Value}{pos:Pos}(hg:Gl X x)(hm:X.mg x=none)(hv:bootBuiltins x=some u)(r:aQ v u)(hn:x≠"__name__":=by decide)(hd:(x == ("__debug__" : Str))=false:=by decide):PE X (.Name x pos) (tC v) :=
 fun _ _ _ H _ I h=>pY I hg hm hv ⟨v,H,I,r,h⟩ hn hd
variable {a b:Expr}{ta tb:TE}{pos:Pos}
variable {tA tB':TT}{rest:iW}
noncomputable def tAnd (t u:TT):TT:=fun σ H Q=>t σ H fun c H1=>if c=true then u σ H1 Q else Q false H1
noncomputable def tOr (t u:TT):TT:=fun σ H Q=>t σ H fun c H1=>if c=true then Q true H1 else u σ H1 Q
noncomputable def tNot (t:TT):TT:=fun σ H Q=>t σ H fun c H1=>Q (!c) H1
theorem oY (ha:PT X a tA):PW X (.BoolOp .And [a] pos) tA:=by
 intro wh pins s σ H Q I h
 refine isTrue_and (thn (ha pins s σ H Q I h) fun c s1 e=>?_)
 cases c with
 | true=>exact isTrue_and_nil e
 | false=>exact e
theorem g9 (ha:PT X a tA):PW X (.BoolOp .Or [a] pos) tA:=by
 intro wh pins s σ H Q I h
 refine isTrue_or (thn (ha pins s σ H Q I h) fun c s1 e=>?_)
 cases c with
 | false=>exact isTrue_or_nil e
 | true=>exact e
theorem tD (ha:PT X a tA)(hb:PW X (.BoolOp .And (b :: rest) pos) tB'):PW X (.BoolOp .And (a :: b :: rest) pos) (tAnd tA tB'):=by
 intro wh pins s σ H Q I h
 refine isTrue_and (thn (ha pins s σ H _ I h) fun c s1 ⟨H1,I1,q1⟩=>?_)
 cases c with
 | true=>exact hb wh pins s1 σ H1 Q I1 q1
 | false=>exact ⟨H1,I1,q1⟩
theorem iK (ha:PT X a tA)(hb:PW X (.BoolOp .Or (b :: rest) pos) tB'):PW X (.BoolOp .Or (a :: b :: rest) pos) (tOr tA tB'):=by
 intro wh pins s σ H Q I h
 refine isTrue_or (thn (ha pins s σ H _ I h) fun c s1 ⟨H1,I1,q1⟩=>?_)
 cases c with
 | true=>exact ⟨H1,I1,q1⟩
 | false=>exact hb wh pins s1 σ H1 Q I1 q1
theorem cW (ha:PT X a tA):PT X (.UnaryOp .Not a pos) (tNot tA):=by
 intro pins s σ H Q I h
 exact isTrue_not (ha pins s σ H (fun c H1=>Q (!c) H1) I h)
noncomputable def tAndV (ta tb:TE):TE:=fun σ H Q=>ta σ H fun x H1=>∃ c,x = .bl c/\if c=true then tb σ H1 Q else Q (.bl false) H1
noncomputable def tOrV (ta tb:TE):TE:=fun σ H Q=>ta σ H fun x H1=>∃ c,x = .bl c/\if c=true then Q (.bl true) H1 else tb σ H1 Q
noncomputable def tNotV (ta:TE):TE:=fun σ H Q=>ta σ H fun x H1=>∃ c,x = .bl c/\Q (.bl (!c)) H1
theorem nM {op}{t:TE}(h:PE X a t):PE X (.BoolOp op [a] pos) t:=fun pins s σ H Q I hw=>BoolOp_one (h pins s σ H Q I hw)
theorem tH (ha:PE X a ta)(hb:PE X (.BoolOp .And (b :: rest) pos) tb):PE X (.BoolOp .And (a :: b :: rest) pos) (tAndV ta tb):=by
 intro pins s σ H Q I h
 refine BoolOp_and (thn (ha pins s σ H _ I h) fun v s1 ⟨x,H1,I1,r1,q1⟩=>?_)
 obtain ⟨c,rfl,q1⟩:=q1
 cases r1
 refine wpAny_truthy_bool ?_
 cases c with
 | true=>exact hb pins s1 σ H1 Q I1 q1
 | false=>exact ⟨.bl false,H1,I1,rfl,q1⟩
theorem HW (ha:PE X a ta)(hb:PE X (.BoolOp .Or (b :: rest) pos) tb):PE X (.BoolOp .Or (a :: b :: rest) pos) (tOrV ta tb):=by
 intro pins s σ H Q I h
 refine BoolOp_or (thn (ha pins s σ H _ I h) fun v s1 ⟨x,H1,I1,r1,q1⟩=>?_)
 obtain ⟨c,rfl,q1⟩:=q1
 cases r1
 refine wpAny_truthy_bool ?_
 cases c with
 | false=>exact hb pins s1 σ H1 Q I1 q1
 | true=>exact ⟨.bl true,H1,I1,rfl,q1⟩
theorem JI (ha:PE X a ta):PE X (.UnaryOp .Not a pos) (tNotV ta):=by
 intro pins s σ H Q I h
 refine UnaryOp_ (thn (ha pins s σ H _ I h) fun v s1 ⟨x,H1,I1,r1,q1⟩=>?_)
 obtain ⟨c,rfl,q1⟩:=q1
 cases r1
 exact not_of (wpAny_truthy_bool ⟨.bl (!c),H1,I1,rfl,q1⟩)
noncomputable def tIf (t:TT)(ta tb:TE):TE:=fun σ H Q=>t σ H fun c H1=>if c=true then ta σ H1 Q else tb σ H1 Q
theorem mC {c:Expr}(hc:PT X c tA)(ha:PE X a ta)(hb:PE X b tb):PE X (.IfExp c a b pos) (tIf tA ta tb):=by
 intro pins s σ H Q I h
 refine wpAny_IfExp (thn (hc pins s σ H _ I h) fun d s1 ⟨H1,I1,q1⟩=>?_)
 cases d with
 | true=>exact ha pins s1 σ H1 Q I1 q1
 | false=>exact hb pins s1 σ H1 Q I1 q1
end
noncomputable def fH (K:PySem.W.Frag)(H:Hp)(a:Addr)(xs:List V):Prop :=
 Rd H a (.lst xs) ∨
  ∃ (o:Obj) (its:uH) (n:Nat),K.lookup a=some o/\o.cls = .type "list"/\o.dict=none/\o.data = .seq its n/\its.size<=sizeLine/\aV xs its.toList
noncomputable def iE (K:PySem.W.Frag)(H:Hp)(a:Addr)(xs:List V):Prop :=
 Rd H a (.tup xs) ∨
  ∃ (o:Obj) (its:uH) (n:Nat),K.lookup a=some o/\o.cls = .type "tuple"/\o.data = .seq its n/\its.size<=sizeLine/\aV xs its.toList
noncomputable def absV:Value->Option V
 | .none=>some .non
 | .bool b=>some (.bl b)
 | .int i _=>some (.int i)
 | .str x _=>some (.str x)
 | .bytes b _=>some (.byt b)
 | .float b _=>some (.flt b)
 | .ref a=>some (.ref a)
 | .type n=>some (.ty n)
 | _=>none
theorem aQ.abs {x:V}{u:Value}(r:aQ x u):absV u=some x:=by
 cases x with
 | non=>cases r;rfl
 | bl _=>cases r;rfl
 | int _=>obtain ⟨t,rfl⟩:=r;rfl
 | str _=>obtain ⟨t,rfl⟩:=r;rfl
 | byt _=>obtain ⟨t,rfl⟩:=r;rfl
 | flt _=>obtain ⟨t,rfl⟩:=r;rfl
 | ref _=>cases r;rfl
 | ty _=>cases r;rfl
theorem aQ.inj {x y:V}{u:Value}(r:aQ x u)(q:aQ y u):x=y:=Option.some.inj (r.abs.symm.trans q.abs)
theorem aV.inj:∀ {xs ys:List V} {us:cE},aV xs us->aV ys us->xs=ys
 | _,_,_,.nil,.nil=>rfl
 | _,_,_,.cons r t,.cons r' t'=>by rw [r.inj r',aV.inj t t']
section
variable {X:Cx}{pins:cZ}{σ:St}{H:Hp}{s:Shared}{a:Addr}{xs ys:List V}
theorem fH.of {K:PySem.W.Frag}(h:H a=some (.lst xs)):fH K H a xs:=.inl (.inl h)
theorem iE.of {K:PySem.W.Frag}(h:H a=some (.tup xs)):iE K H a xs:=.inl (.inl h)
theorem aN.list (I:aN X pins σ H s)(h:fH X.K H a xs):∃ its:cE,aV xs its/\PlainL s.heap a its.toArray/\xs.length<=sizeLine:=by
 rcases h with h | ⟨o,its,n,hk,hc,hd,hs,hz,r⟩
 ·obtain ⟨z,its,n,r,e⟩:=h.ok I.hok
  exact ⟨its,r,⟨_,n,e,rfl,rfl,rfl⟩,z⟩
 ·refine ⟨its.toList,r,⟨o,n,I.kIn a o hk,hc,hd,by simpa using hs⟩,?_⟩
  have e:=r.length
  simp only [Array.length_toList] at e
  omega
theorem aN.tuple (I:aN X pins σ H s)(h:iE X.K H a xs):∃ its:cE,aV xs its/\IsTup s.heap a its.toArray/\xs.length<=sizeLine:=by
 rcases h with h | ⟨o,its,n,hk,hc,hs,hz,r⟩
 ·obtain ⟨z,its,r,p⟩:=h.ok I.hok
  exact ⟨its,r,p,z⟩
 ·refine ⟨its.toList,r,⟨o,I.kIn a o hk,hc,n,by simpa using hs⟩,?_⟩
  have e:=r.length
  simp only [Array.length_toList] at e
  omega
theorem aN.list_inj (I:aN X pins σ H s)(h:fH X.K H a xs)(h':fH X.K H a ys):xs=ys:=by
 obtain ⟨its,r,⟨o,n,e,_,_,d⟩,_⟩:=I.list h
 obtain ⟨its',r',⟨o',n',e',_,_,d'⟩,_⟩:=I.list h'
 rw [e] at e';cases e'
 rw [d] at d'
 injection d' with d1 _
 have:its=its':=by simpa using congrArg Array.toList d1
 subst this
 exact r.inj r'
theorem aN.tuple_inj (I:aN X pins σ H s)(h:iE X.K H a xs)(h':iE X.K H a ys):xs=ys:=by
 obtain ⟨its,r,⟨o,e,_,n,d⟩,_⟩:=I.tuple h
 obtain ⟨its',r',⟨o',e',_,n',d'⟩,_⟩:=I.tuple h'
 rw [e] at e';cases e'
 rw [d] at d'
 injection d' with d1 _
 have:its=its':=by simpa using congrArg Array.toList d1
 subst this
 exact r.inj r'
end
noncomputable abbrev Cx.wish (X:Cx)(E:cY):Cx:={ X with xe:=E }
noncomputable abbrev Cx.nox (X:Cx):Cx:=X.wish fun _ _=>False
theorem Cx.Ok.wish {X:Cx}(ok:X.Ok)(E:cY):(X.wish E).Ok :=
 ⟨ok.mod,ok.kind,ok.glob,ok.blt,ok.above,ok.inj,ok.has,ok.cab,ok.hd,ok.frames,ok.stk,ok.exf,ok.bs,ok.bsz,ok.noex,ok.exfs,ok.funs,ok.frf⟩
theorem Cx.Ok.unwish {X:Cx}{E:cY}(ok:(X.wish E).Ok):X.Ok :=
 ⟨ok.mod,ok.kind,ok.glob,ok.blt,ok.above,ok.inj,ok.has,ok.cab,ok.hd,ok.frames,ok.stk,ok.exf,ok.bs,ok.bsz,ok.noex,ok.exfs,ok.funs,ok.frf⟩
section
variable {X:Cx}{pins:cZ}{σ:St}{H:Hp}{s:Shared}{E:cY}
theorem aN.wish (I:aN X pins σ H s)(E:cY):aN (X.wish E) pins σ H s:=⟨I.ok.wish E,I.os,I.bare,I.base,I.loc,I.cell,I.free,I.freeC,I.pin,I.hok,I.len⟩
theorem aN.unwish (I:aN (X.wish E) pins σ H s):aN X pins σ H s:=⟨I.ok.unwish,I.os,I.bare,I.base,I.loc,I.cell,I.free,I.freeC,I.pin,I.hok,I.len⟩
theorem SP.unwish {D:gR}{f:Flow}{s':Shared}(h:SP (X.wish E) pins D f s'):SP X pins D f s':=by
 cases f with
 | next=>obtain ⟨σ',H',I,q⟩:=h;exact ⟨σ',H',I.unwish,q⟩
 | brk=>obtain ⟨σ',H',I,q⟩:=h;exact ⟨σ',H',I.unwish,q⟩
 | cont=>obtain ⟨σ',H',I,q⟩:=h;exact ⟨σ',H',I.unwish,q⟩
 | ret u=>obtain ⟨v,σ',H',I,r,q⟩:=h;exact ⟨v,σ',H',I.unwish,r,q⟩
theorem oH.nox {st:List Stmt}{t:TS}(h:oH X.nox st t):oH X st t:=fun pins s σ H D I hw =>
 wpAny_mono (h pins s σ H D (I.wish _) hw) (fun _ _ q=>q.unwish) fun _ _ z=>False.elim z
end
section
variable {X:Cx}{st:Stmt}{rest:List Stmt}{t u:TS}{e:Expr}{te:TE}{pos:Pos}
noncomputable def tNext:TS:=fun D σ H=>D.nx σ H
noncomputable def tSeq (t u:TS):TS:=fun D σ H=>t { D with nx:=u D } σ H
theorem aX:oH X [] tNext:=fun _ _ σ H _ I h=>wpAny_execs_nil ⟨σ,H,I,h⟩
theorem aC (h1:PS X st t)(h2:oH X rest u):oH X (st :: rest) (tSeq t u):=by
 intro pins s σ H D I h
 refine wpAny_execs_cons (thn (h1 pins s σ H { D with nx:=u D } I h) fun f s1 q=>?_)
 cases f with
 | next =>
  obtain ⟨σ',H',I',q⟩:=q
  exact h2 pins s1 σ' H' D I' q
 | ret v=>exact q
 | brk=>exact q
 | cont=>exact q
theorem aH (h1:PS X st t):oH X [st] t:=by
 intro pins s σ H D I h
 refine wpAny_execs_cons (thn (h1 pins s σ H D I h) fun f s1 q=>?_)
 cases f with
 | next=>exact wpAny_execs_nil q
 | ret v=>exact q
 | brk=>exact q
 | cont=>exact q
theorem aN.quiet {pins:cZ}{σ:St}{H:Hp}{s:Shared}(I:aN X pins σ H s):interactive X.env=false:=by simp [interactive,I.ok.kind]
noncomputable def tDrop (te:TE):TS:=fun D σ H=>te σ H fun _ H1=>D.nx σ H1
theorem eL (he:PE X e te)(hs:swapsWith e none pos.line X.env=pure false:=by rfl):PS X (.Expr e pos) (tDrop te):=by
 intro pins s σ H D I h
 exact wpAny_Expr_any (thn (he pins s σ H _ I h) fun v s1 ⟨x,H1,I1,r1,q1⟩=>⟨σ,H1,I1,q1⟩) I.quiet hs
noncomputable def tRet (te:TE):TS:=fun D σ H=>te σ H D.rt
theorem aR (he:PE X e te):PS X (.Return (some e) pos) (tRet te):=by
 intro pins s σ H D I h
 exact wpAny_Return_some (thn (he pins s σ H _ I h) fun v s1 ⟨x,H1,I1,r1,q1⟩=>⟨x,σ,H1,I1,r1,q1⟩)
noncomputable def tIfS (c:TT)(t u:TS):TS:=fun D σ H=>c σ H fun b H1=>if b=true then t D σ H1 else u D σ H1
theorem bU {c:Expr}{a b:List Stmt}{tc:TT}(hc:PT X c tc)(ha:oH X a t)(hb:oH X b u):PS X (.If c a b pos) (tIfS tc t u):=by
 intro pins s σ H D I h
 refine wpAny_If (thn (hc pins s σ H _ I h) fun d s1 ⟨H1,I1,q1⟩=>?_)
 cases d with
 | true=>exact ha pins s1 σ H1 D I1 q1
 | false=>exact hb pins s1 σ H1 D I1 q1
noncomputable def tNever:TS:=fun _ _ _=>False
theorem gG:PS X st tNever:=fun _ _ _ _ _ _ h=>h.elim
end
noncomputable abbrev TG:=V->St->Hp->(St->Hp->Prop)->Prop
noncomputable abbrev KH:=List V->St->Hp->(St->Hp->Prop)->Prop
noncomputable def PG (X:Cx)(target:Expr)(t:TG):Prop :=
 ∀ (pins:cZ) (s:Shared) (σ:St) (H:Hp) (v:V) (u:Value) (Q:St->Hp->Prop),aN X pins σ H s->aQ v u->t v σ H Q ->
  wpAny (model X.prog X.w) X.A (assign target X.env u) (fun _ s'=>∃ σ' H',aN X pins σ' H' s'/\Q σ' H') X.xe s
noncomputable def LM (X:Cx)(ts:iW)(t:KH):Prop :=
 ∀ (pins:cZ) (s:Shared) (σ:St) (H:Hp) (vs:List V) (us:cE) (Q:St->Hp->Prop),aN X pins σ H s->aV vs us->t vs σ H Q ->
  wpAny (model X.prog X.w) X.A (assignInOrder ((assignEach ts X.env).map (·.2)) us) (fun _ s'=>∃ σ' H',aN X pins σ' H' s'/\Q σ' H') X.xe s
noncomputable abbrev KG:=V->V->V->Hp->(Hp->Prop)->Prop
noncomputable def K8 (X:Cx)(t:KG):Prop :=
 ∀ (pins:cZ) (s:Shared) (σ:St) (H:Hp) (o i v:V) (ov iv u:Value) (Q:Hp->Prop),aN X pins σ H s->aQ o ov->aQ i iv->aQ v u->t o i v H Q ->
  wpAny (model X.prog X.w) X.A (setItem ov iv u) (fun _ s'=>∃ H',aN X pins σ H' s'/\Q H') X.xe s
noncomputable abbrev LK:=V->V->Hp->VK->Prop
noncomputable def LY (X:Cx)(op:Operator)(t:LK):Prop :=
 ∀ (pins:cZ) (s:Shared) (σ:St) (H:Hp) (x y:V) (v u:Value) (Q:VK),aN X pins σ H s->aQ x v->aQ y u->t x y H Q ->
  wpAny (model X.prog X.w) X.A (inplaceOp op v u) (EP X pins σ Q) X.xe s
section
variable {X:Cx}{pos:Pos}
noncomputable def gName (i:Nat):TG:=fun v σ H Q=>Q (σ.set i (some v)) H
theorem bN {i:Nat}{x:Str}(hN:X.N.Nodup)(hi:X.N[i]?=some x)(hx:KN X.env.scope x)(hf:X.fn x=true∨X.env.scope.names.lookup x=some .local:=by first | exact .inl rfl | exact .inr rfl | assumption):PG X (.Name x pos) (gName i):=by
 intro pins s σ H v u Q I r h
 exact wpAny_assign_Name (lU I hN hi hx r (fun s' I'=>⟨_,H,I',h⟩) hf)
noncomputable def gNil:KH:=fun vs σ H Q=>vs=[]/\Q σ H
noncomputable def gCons (t:TG)(u:KH):KH:=fun vs σ H Q=>∃ v r,vs=v :: r/\t v σ H fun σ' H'=>u r σ' H' Q
theorem yP:LM X [] gNil:=by
 intro pins s σ H vs us Q I r h
 obtain ⟨e,h⟩:=h
 subst e
 cases r
 exact assignInOrder_nil ⟨σ,H,I,h⟩
theorem mB {e:Expr}{es:iW}{t:TG}{u:KH}(h1:PG X e t)(h2:LM X es u)
  (hs:(assignEach (e :: es) X.env).map (·.2)=assign e X.env :: (assignEach es X.env).map (·.2):=by rfl):LM X (e :: es) (gCons t u):=by
 intro pins s σ H vs us Q I r h
 obtain ⟨v,vr,e1,h⟩:=h
 subst e1
 cases r with
 | cons r rr =>
  rw [hs]
  refine assignInOrder_cons (thn (h1 pins s σ H _ _ _ I r h) fun _ s1 ⟨σ1,H1,I1,q1⟩=>?_)
  exact h2 pins s1 σ1 H1 _ _ Q I1 rr q1
noncomputable def gTup (K:PySem.W.Frag)(n:Nat)(t:KH):TG:=fun v σ H Q=>∃ a xs,v = .ref a/\iE K H a xs/\xs.length=n/\t xs σ H Q
theorem CQ {es:iW}{k:Nat}{t:KH}{n:Nat}(hc:X.calm=true)(h:LM X es t)
  (hn:(assignEach es X.env).length=n:=by rfl) (hst:(assignEach es X.env).findIdx? (·.1)=none:=by rfl):PG X (.Tuple es k pos) (gTup X.K n t):=by
 intro pins s σ H v u Q I r hw
 obtain ⟨a,xs,e1,hq,hl,hw⟩:=hw
 subst e1
 cases r
 obtain ⟨its,rv,ht,hz⟩:=I.tuple hq
 refine assign_Tuple_tuple (I.ok.hd hc) ht (by simp [hn,← hl,rv.length]) hst fun h' hx=>?_
 have I1:aN X pins σ H { s with heap:=h' }:=I.kept (t':=s.toks) fun b o e=>hx b o (Nat.ne_of_lt (Heap.lt_size e)) e
 exact h pins _ σ H xs _ Q I1 (by simpa using rv) hw
noncomputable def gSub (to ti:TE)(t:KG):TG:=fun v σ H Q=>to σ H fun o H1=>ti σ H1 fun i H2=>t o i v H2 fun H3=>Q σ H3
theorem CS {o i:Expr}{to ti:TE}{t:KG}(ho:PE X o to)(hi:PE X i ti)(hs:K8 X t)
  (ha:∀ v,assign (.Subscript o i pos) X.env v=(do
   let ov ← holding [v] (eval o X.env)
   let iv ← holding [v,ov] (eval i X.env)
   standAt pos
   holding [v,ov,iv] (setItem ov iv v)
   release [v,ov,iv] []):=by intro _;rfl):PG X (.Subscript o i pos) (gSub to ti t):=by
 intro pins s σ H v u Q I r h
 rw [ha]
 refine wpAny_bind (wpAny_holding (thn (ho pins s σ H _ I h) fun ov s1 ⟨x,H1,I1,r1,q1⟩=>?_))
 refine wpAny_bind (wpAny_holding (thn (hi pins s1 σ H1 _ I1 q1) fun iv s2 ⟨y,H2,I2,r2,q2⟩=>?_))
 refine wpAny_bind (wpAny_standAt (wpAny_bind (wpAny_holding (thn (hs pins s2 σ H2 x y v ov iv u _ I2 r1 r2 r q2) fun _ s3 ⟨H3,I3,q3⟩=>?_))))
 exact wpAny_release ⟨σ,H3,I3,q3⟩
noncomputable def tAsg (te:TE)(g:TG):TS:=fun D σ H=>te σ H fun x H1=>g x σ H1 D.nx
theorem nK {tg e:Expr}{te:TE}{g:TG}(he:PE X e te)(hg:PG X tg g)(hs:swapsWithSole [tg] e pos.line X.env=pure false:=by rfl)(hw:swappedStores [tg] e X.env=pure none:=by rfl)
  (h1:(assignEach [tg] X.env).map (·.2)=[assign tg X.env]:=by rfl):PS X (.Assign [tg] e pos) (tAsg te g):=by
 intro pins s σ H D I h
 refine wpAny_Assign_stores (thn (he pins s σ H _ I h) fun v s1 ⟨x,H1,I1,r1,q1⟩=>?_) hs hw
 rw [h1]
 exact thn (hg pins s1 σ H1 x v _ I1 r1 q1) fun _ s2 q=>q
theorem aP {i:Nat}{x:Str}{e:Expr}{te:TE}{pos':Pos}(hN:X.N.Nodup)(hi:X.N[i]?=some x)(hx:KN X.env.scope x)(he:PE X e te)(hs:swapsWith e (some (.Name x pos')) pos.line X.env=pure false:=by rfl)(hf:X.fn x=true∨X.env.scope.names.lookup x=some .local:=by first | exact .inl rfl | exact .inr rfl | assumption) :
  PS X (.Assign [.Name x pos'] e pos) (tAsg te (gName i)):=by
 intro pins s σ H D I h
 refine wpAny_Assign_Name (thn (he pins s σ H _ I h) fun v s1 ⟨y,H1,I1,r1,q1⟩=>?_) hs
 exact lU I1 hN hi hx r1 (fun s2 I2=>⟨_,H1,I2,q1⟩) hf
noncomputable def tAug (i:Nat)(te:TE)(ti:LK):TS:=fun D σ H=>∃ x,σ[i]?=some (some x)/\te σ H fun y H1=>ti x y H1 fun z H2=>D.nx (σ.set i (some z)) H2
theorem JF {i:Nat}{x:Str}{e:Expr}{te:TE}{op:Operator}{ti:LK}{pos':Pos}(hN:X.N.Nodup)(hi:X.N[i]?=some x)(hx:KN X.env.scope x)(he:PE X e te)(ho:LY X op ti)(hf:X.fn x=true∨X.env.scope.names.lookup x=some .local:=by first | exact .inl rfl | exact .inr rfl | assumption) :
  PS X (.AugAssign (.Name x pos') op e pos) (tAug i te ti):=by
 intro pins s σ H D I h
 obtain ⟨v,e1,h⟩:=h
 obtain ⟨m,hn,hl⟩:=I.loc
 have vis:LH X.env.scope x:=by rcases hx with k | k;exact .inl k;exact .inr (.inl k)
 obtain ⟨u,r,l⟩:=hl i x v hi e1 vis
 refine wpAny_AugAssign_Name ?_
 have go:wpAny (model X.prog X.w) X.A (eval e X.env) (fun w s₂=>wpAny (model X.prog X.w) X.A (inplaceOp op u w) (fun r s₃=>wpAny (model X.prog X.w) X.A (storeName X.env x r) (fun _=>SP X pins D .next) X.xe s₃) X.xe s₂) X.xe s:=by
  refine thn (he pins s σ H _ I h) fun w s1 ⟨y,H1,I1,r1,q1⟩=>?_
  refine thn (ho pins s1 σ H1 v y u w _ I1 r r1 q1) fun z s2 ⟨zv,H2,I2,r2,q2⟩=>?_
  exact lU I2 hN hi hx r2 (fun s3 I3=>⟨_,H2,I3,q2⟩) hf
 rcases l with ⟨hk,hm⟩ | ⟨hk,c,hc,hcell⟩
 ·exact wpAny_loadName_local I.ok.kind hk hn hm go
 ·rcases hk with hk | hk
  ·exact wpAny_loadName_cell I.ok.kind hk hc hcell go
  ·rcases hx with k | k
   ·have:X.env.scope.names.lookup x=some .free:=hk
    rw [k] at this;cases this
   ·have:X.env.scope.names.lookup x=some .free:=hk
    rw [k] at this;cases this
noncomputable def wH (c:TT)(tb:TS):TS:=fun D σ H=>∃ W:Nat->St->Hp->Prop,(∃ m,W m σ H)/\∀ m σ H,W m σ H ->
 c σ H fun b H1=>if b=true then ∃ N:St->Hp->Prop,(∀ σ' H',N σ' H'->∃ m',m' < m/\W m' σ' H')/\tb { D with nx:=N,ct:=N,bk:=D.nx } σ H1 else D.nx σ H1
theorem lZ {c:Expr}{body:List Stmt}{tc:TT}{tb:TS}(hp:PassesOwn (model X.prog X.w) X.A X.env X.xe)(hc:PT X c tc)(hb:oH X body tb):PS X (.While c body [] pos) (wH tc tb):=by
 intro pins s σ H D I h
 obtain ⟨W,⟨m0,w0⟩,turn⟩:=h
 refine wpAny_While (codeAny_whileLoop (fun n s'=>∃ σ' H',aN X pins σ' H' s'/\W n σ' H') ?_ m0 ⟨σ,H,I,w0⟩)
 rintro n s1 ⟨σ1,H1,I1,w1⟩
 refine wpAny_passesOwn hp (thn (hc pins s1 σ1 H1 _ I1 (turn n σ1 H1 w1)) fun b s2 ⟨H2,I2,q2⟩=>?_)
 cases b with
 | true =>
  obtain ⟨N,hN,q2⟩:=q2
  rw [if_pos rfl]
  refine wpAny_passesOwn hp (thn (hb pins s2 σ1 H2 _ I2 q2) fun f s3 q3=>?_)
  cases f with
  | next =>
   obtain ⟨σ3,H3,I3,n3⟩:=q3
   obtain ⟨m',hm,w3⟩:=hN σ3 H3 n3
   exact ⟨m',hm,σ3,H3,I3,w3⟩
  | cont =>
   obtain ⟨σ3,H3,I3,n3⟩:=q3
   obtain ⟨m',hm,w3⟩:=hN σ3 H3 n3
   exact ⟨m',hm,σ3,H3,I3,w3⟩
  | brk=>exact q3
  | ret v=>exact q3
 | false =>
  rw [if_neg Bool.false_ne_true]
  exact wpAny_execs_nil ⟨σ1,H2,I2,q2⟩
end
structure It where
 go:Nat->Hp->Prop
 yld:Nat->Hp->V->Hp->Prop
 stop:Nat->Hp->Prop
noncomputable def j5 (X:Cx)(pins:cZ)(H:Hp)(b:Addr):Prop :=
 H b=none/\b≠X.env.locals/\b ∉ X.fs/\(b ∈ X.ex∨X.s₀.heap.objs.size<=b)/\(∀ x c,X.env.cells.lookup x=some c->c≠b)/\∀ p ∈ X.pn ++ pins,p.1≠b
theorem aN.fpOk {X:Cx}{pins:cZ}{σ:St}{H H':Hp}{s:Shared}{b:Addr}(I:aN X pins σ H s)(hb:s.heap.objs.size<=b)(hn:H' b=none):j5 X pins H' b:=by
 refine ⟨hn,Nat.ne_of_gt (Nat.lt_of_lt_of_le I.lt hb),I.nofs hb,.inr (Nat.le_trans I.sz hb),fun x c e z=>?_,fun p hp z=>?_⟩
 ·obtain ⟨v,q⟩:=I.cell x c e
  exact absurd (Nat.lt_of_lt_of_le q.lt (by rw [z];exact hb)) (Nat.lt_irrefl _)
 ·exact absurd (Nat.lt_of_lt_of_le (Heap.lt_size (I.pin p hp).1) (by rw [z];exact hb)) (Nat.lt_irrefl _)
structure qV (P:Program)(w:World)(K:PySem.W.Frag)(tg:Expr)(J:It)(fp:List Addr)(it:Addr)(tn:HG):Prop where
 mem:it ∈ fp
 obj:∀ i h,tn i h->∀ b ∈ fp,∃ o,h.get? b=some o/\∀ v,o.data≠.cell v
 keep:∀ i h h',tn i h->(∀ b ∈ fp,∀ o,h.get? b=some o->h'.get? b=some o)->tn i h'
 item:∀ (X:Cx),X.prog=P->X.w=w->X.K=K->X.calm=true->∀ (i:Nat) (pins:cZ) (s:Shared) (σ:St) (H:Hp) (E:cY),aN X pins σ H s->(∀ b ∈ fp,j5 X pins H b)->tn i s.heap->J.go i H ->
  wpAny (model P w) X.A (pyNext (.ref it)) (fun r s1=>∃ u,r=some u /\
   wpAny (model P w) X.A (letOwnedTupleGo tg (.ref it) u) (fun _ s2=>∃ x H',aN X pins σ H' s2/\aQ x u/\J.yld i H x H'/\tn (i + 1) s2.heap/\∀ b ∈ fp,H' b=none) E s1) E s
 done:∀ (X:Cx),X.prog=P->X.w=w->X.K=K->X.calm=true->∀ (i:Nat) (pins:cZ) (s:Shared) (σ:St) (H:Hp) (E:cY),aN X pins σ H s->(∀ b ∈ fp,j5 X pins H b)->tn i s.heap->J.stop i H ->
  wpAny (model P w) X.A (pyNext (.ref it)) (fun r s1=>r=none/\aN X pins σ H s1) E s
 self:∀ (A:Around) (i:Nat) (s:Shared) (Q:cY) (E:cY),tn i s.heap->Q (.ref it) s->wpAny (model P w) A (pyIter (.ref it)) Q E s
noncomputable abbrev TI:=St->Hp->(It->Hp->Prop)->Prop
noncomputable def LZ (X:Cx)(pins:cZ)(σ:St)(tg:Expr)(R:It->Hp->Prop)(itv:Value)(s2:Shared):Prop :=
 ∃ (it:Addr) (fp:List Addr) (tn:HG) (J:It) (H':Hp),itv = .ref it/\aN X pins σ H' s2/\qV X.prog X.w X.K tg J fp it tn/\tn 0 s2.heap/\(∀ b ∈ fp,j5 X pins H' b)/\R J H'
noncomputable def PI (X:Cx)(tg iter:Expr)(wi:TI):Prop :=
 ∀ (pins:cZ) (s:Shared) (σ:St) (H:Hp) (R:It->Hp->Prop),aN X pins σ H s->wi σ H R ->
  wpAny (model X.prog X.w) X.A (eval iter X.env) (fun v s1=>wpAny (model X.prog X.w) X.A (pyIter v) (LZ X pins σ tg R) X.xe s1) X.xe s
theorem vI {M:Model}{A:Around}{E:cY}{s:Shared}{tg:Expr}{it:Addr}{u:Value}{o:Obj}{n:String}{vs:uH}{Q:Unit->Shared->Prop}(ho:s.heap.get? it=some o)(hc:o.cls = .type n)(hd:o.data = .fields vs)
  (hn:["enumerate","zip","dict_itemiterator","dict_reverseitemiterator","odict_iterator","itertools.zip_longest","itertools.pairwise"].contains n=false) (hQ:Q () s):wpAny M A (letOwnedTupleGo tg (.ref it) u) Q E s:=by
 unfold letOwnedTupleGo
 cases tg <;> first
  | exact wpAny_pure hQ
  | (cases u <;> first
    | exact wpAny_pure hQ
    | (refine wpAny_bind (wpAny_load ho ?_);rw [hc,hd];show wpAny M A (if (["enumerate","zip","dict_itemiterator","dict_reverseitemiterator","odict_iterator","itertools.zip_longest","itertools.pairwise"].contains n && vs[0]? == some (rawInt _))=true then _ else _) Q E s;rw [if_neg (by intro h;rw [hn,Bool.false_and] at h;cases h)];exact wpAny_pure hQ))
noncomputable def IF (K:PySem.W.Frag)(a:Addr):It :=
 ⟨fun i H=>∃ xs x,fH K H a xs/\xs[i]?=some x,fun i H x H'=>H'=H/\∀ xs,fH K H a xs->xs[i]?=some x,fun i H=>∃ xs,fH K H a xs/\xs.length<=i⟩
noncomputable def IE (K:PySem.W.Frag)(a:Addr):It :=
 ⟨fun i H=>∃ xs x,iE K H a xs/\xs[i]?=some x,fun i H x H'=>H'=H/\∀ xs,iE K H a xs->xs[i]?=some x,fun i H=>∃ xs,iE K H a xs/\xs.length<=i⟩
noncomputable def BR (lo:Int)(n:Nat):It:=⟨fun i _=>i < n,fun i H x H'=>H'=H/\x = .int (lo + i),fun i _=>n<=i⟩
theorem zY {P:Program}{w:World}{K:PySem.W.Frag}{tg:Expr}(a it:Addr):qV P w K tg (IF K a) [it] it (fun i h=>h.IsListIter it a i) where
 mem:=by simp
 obj:=fun i h st b hb=>by
  have e:b=it:=by simpa using hb
  subst e
  obtain ⟨o,e,c,d⟩:=st
  exact ⟨o,e,fun v z=>by rw [d] at z;cases z⟩
 keep:=fun i h h' st k=>st.at fun o e=>k it (by simp) o e
 item:=by
  intro X hP hw hK hc i pins s σ H E I hf st hg
  subst hP hw hK
  obtain ⟨xs,x,hq,hx⟩:=hg
  obtain ⟨its,rv,p,hz⟩:=I.list hq
  obtain ⟨u,hu,ru⟩:=rv.get hx
  obtain ⟨f0,f1,f2,f3,f4,f5⟩:=hf it (by simp)
  refine wpAny_pyNext_list_item st p.isList (x:=u) (by simpa using hu) fun h' st' sb=>?_
  have I1:aN X pins σ H { s with heap:=h' }:=I.turned (t':=s.toks) (fun b o hb e=>(sb.2 b hb).trans e) f0 f1 f3 f4 f5
  obtain ⟨o,e,c,d⟩:=id st'
  exact ⟨u,rfl,vI (s:={ s with heap:=h' }) e c d (by decide) ⟨x,H,I1,ru,⟨rfl,fun ys hy=>by rw [I.list_inj hy hq];exact hx⟩,st',fun b hb=>(hf b hb).1⟩⟩
 done:=by
  intro X hP hw hK hc i pins s σ H E I hf st hg
  subst hP hw hK
  obtain ⟨xs,hq,hx⟩:=hg
  obtain ⟨its,rv,p,hz⟩:=I.list hq
  obtain ⟨f0,f1,f2,f3,f4,f5⟩:=hf it (by simp)
  have hl:=rv.length
  exact wpAny_pyNext_list_end (I.ok.hd hc) st p.isList (by simp;omega) fun h' eb=>⟨rfl,I.turned (t':=s.toks) (fun b o hb e=>eb b o hb e) f0 f1 f3 f4 f5⟩
 self:=fun _ _ _ _ _ st h=>wpAny_pyIter_listiter st h
theorem wB {P:Program}{w:World}{K:PySem.W.Frag}{tg:Expr}(a it:Addr):qV P w K tg (IE K a) [it] it (fun i h=>h.IsTupleIter it a i) where
 mem:=by simp
 obj:=fun i h st b hb=>by
  have e:b=it:=by simpa using hb
  subst e
  obtain ⟨o,e,c,d⟩:=st
  exact ⟨o,e,fun v z=>by rw [d] at z;cases z⟩
 keep:=fun i h h' st k=>st.at fun o e=>k it (by simp) o e
 item:=by
  intro X hP hw hK hc i pins s σ H E I hf st hg
  subst hP hw hK
  obtain ⟨xs,x,hq,hx⟩:=hg
  obtain ⟨its,rv,p,hz⟩:=I.tuple hq
  obtain ⟨u,hu,ru⟩:=rv.get hx
  obtain ⟨f0,f1,f2,f3,f4,f5⟩:=hf it (by simp)
  refine wpAny_pyNext_tuple_item st (show s.heap.IsTuple a its.toArray from p) (x:=u) (by simpa using hu) fun h' st' sb=>?_
  have I1:aN X pins σ H { s with heap:=h' }:=I.turned (t':=s.toks) (fun b o hb e=>(sb.2 b hb).trans e) f0 f1 f3 f4 f5
  obtain ⟨o,e,c,d⟩:=id st'
  exact ⟨u,rfl,vI (s:={ s with heap:=h' }) e c d (by decide) ⟨x,H,I1,ru,⟨rfl,fun ys hy=>by rw [I.tuple_inj hy hq];exact hx⟩,st',fun b hb=>(hf b hb).1⟩⟩
 done:=by
  intro X hP hw hK hc i pins s σ H E I hf st hg
  subst hP hw hK
  obtain ⟨xs,hq,hx⟩:=hg
  obtain ⟨its,rv,p,hz⟩:=I.tuple hq
  obtain ⟨f0,f1,f2,f3,f4,f5⟩:=hf it (by simp)
  have hl:=rv.length
  exact wpAny_pyNext_tuple_end (I.ok.hd hc) st (show s.heap.IsTuple a its.toArray from p) (by simp;omega) fun h' eb=>⟨rfl,I.turned (t':=s.toks) (fun b o hb e=>eb b o hb e) f0 f1 f3 f4 f5⟩
 self:=fun _ _ _ _ _ st h=>wpAny_pyIter_tupleiter st h
theorem jE {P:Program}{w:World}{K:PySem.W.Frag}{tg:Expr}(it:Addr)(lo:Int)(n:Nat):qV P w K tg (BR lo n) [it] it (fun i h=>IsRangeIter h it (lo + (i:Nat) * 1) ((n:Int) - (i:Nat)) 1) where
 mem:=by simp
 obj:=fun i h st b hb=>by
  have e:b=it:=by simpa using hb
  subst e
  exact ⟨_,st,fun v z=>by
   have z':Data.fields _=Data.cell v:=z
   cases z'⟩
 keep:=fun i h h' st k=>k it (by simp) _ st
 item:=by
  intro X hP hw hK hc i pins s σ H E I hf st hg
  subst hP hw hK
  obtain ⟨f0,f1,f2,f3,f4,f5⟩:=hf it (by simp)
  have W:=Walks.range (prog:=X.prog) (w:=X.w) (I.ok.hd hc) it lo 1 n
  refine W.item i s _ _ hg st fun v h' tk hv st' kk=>?_
  obtain ⟨t,rfl⟩:=hv
  have I1:aN X pins σ H { s with heap:=h',toks:=tk }:=I.turned (fun b o hb e=>kk b o (by simpa using hb) e) f0 f1 f3 f4 f5
  refine ⟨_,rfl,vI (s:={ s with heap:=h',toks:=tk }) (n:="range_iterator") st' rfl rfl (by decide) ⟨.int (lo + i),H,I1,⟨t,?_⟩,⟨rfl,rfl⟩,st',fun b hb=>(hf b hb).1⟩⟩
  rw [Int.mul_one]
 done:=by
  intro X hP hw hK hc i pins s σ H E I hf st hg
  subst hP hw hK
  obtain ⟨f0,f1,f2,f3,f4,f5⟩:=hf it (by simp)
  exact wpAny_pyNext_range_end (I.ok.hd hc) st (by have:n<=i:=hg;omega) fun h' eb=>⟨rfl,I.turned (t':=s.toks) (fun b o hb e=>eb b o hb e) f0 f1 f3 f4 f5⟩
 self:=fun _ _ _ _ _ st h=>wpAny_pyIter_rangeiter st h
section
variable {X:Cx}{tg:Expr}
theorem CG {pins:cZ}{σ:St}{H:Hp}{s:Shared}{R:It->Hp->Prop}{E:cY}{lo hi:Int}{t u v:Tok}{tk:Nat}(I:aN X pins σ H s)(h1 : -(2 ^ 62)<=lo)(h2:lo < 2 ^ 62)(h3 : -(2 ^ 62)<=hi)(h4:hi < 2 ^ 62)
  (q:R (BR lo (hi - lo).toNat) H):wpAny (model X.prog X.w) X.A (pyIter (.ref s.heap.objs.size)) (LZ X pins σ tg R) E { s with heap:=s.heap.push { cls:=.type "range",data:=.fields #[.int lo t,.int hi u,.int 1 v] },toks:=tk }:=by
 refine wpAny_pyIter_range (IsRange.new ..) (small_one h1 h2 h3 h4) ?_
 have I1:aN X pins σ H { s with heap:=s.heap.push { cls:=.type "range",data:=.fields #[.int lo t,.int hi u,.int 1 v] },toks:=tk }:=I.kept fun b o e=>Heap.get?_push_of_some _ e
 refine ⟨(s.heap.push { cls:=.type "range",data:=.fields #[.int lo t,.int hi u,.int 1 v] }).objs.size,[(s.heap.push { cls:=.type "range",data:=.fields #[.int lo t,.int hi u,.int 1 v] }).objs.size],_,_,H,rfl,
  I1.kept (t':=tk) fun b o e=>Heap.get?_push_of_some _ e,jE _ lo (hi - lo).toNat,?_,fun b hb=>?_,q⟩
 ·have e1:lo + ((0:Nat):Int) * 1=lo:=by simp
  have e2:(((hi - lo).toNat:Nat):Int) - ((0:Nat):Int)=Builtin.Range.rangeSize lo hi 1:=by rw [rangeSize_one];split <;> omega
  show IsRangeIter _ _ (lo + ((0:Nat):Int) * 1) ((((hi - lo).toNat:Nat):Int) - ((0:Nat):Int)) 1
  rw [e1,e2]
  exact Heap.get?_push_size _ rfl
 ·have e:b=(s.heap.push { cls:=.type "range",data:=.fields #[.int lo t,.int hi u,.int 1 v] }).objs.size:=by simpa using hb
  subst e
  exact I1.fpOk (Nat.le_refl _) (I1.hok.fresh (Nat.le_refl _))
noncomputable def iRng1 (ta:TA):TI:=fun σ H R=>ta σ H fun vs H1=>∃ j:Int,vs=[.int j]/\-(2 ^ 62)<=j/\j < 2 ^ 62/\R (BR 0 j.toNat) H1
noncomputable def iRng2 (ta:TA):TI:=fun σ H R=>ta σ H fun vs H1=>∃ i j:Int,vs=[.int i,.int j]/\(-(2 ^ 62)<=i/\i < 2 ^ 62/\-(2 ^ 62)<=j/\j < 2 ^ 62)/\R (BR i (j - i).toNat) H1
theorem fC {a:Expr}{ta:TA}{p pos:Pos}(hg:Gl X "range")(hm:X.mg "range" = none)(ha:PA X [a] ta)(hs:starEach [a] X.env=[(false,eval a X.env)]:=by rfl):PI X tg (.Call (.Name "range" p) [a] [] pos) (iRng1 ta):=by
 intro pins s σ H R I h
 refine Call_ (pY I hg hm boot_range (PyProof.Rows.callWith_type1 (thn (ha pos pins s σ H _ I h) fun us s1 ⟨vs,H1,I1,r1,q1⟩=>?_) hs rfl))
 obtain ⟨j,e,q1,q2,q⟩:=q1
 subst e
 cases r1 with
 | cons r rr =>
  cases rr
  obtain ⟨t,rfl⟩:=r
  exact call_range_1 (CG I1 (by omega) (by omega) q1 q2 (by simpa using q))
noncomputable def tFor (wi:TI)(g:TG)(tb:TS):TS:=fun D σ H=>wi σ H fun J H1=>∃ W:Nat->Nat->St->Hp->Prop,(∃ m,W 0 m σ H1)/\∀ i m σ H,W i m σ H ->
 (J.stop i H/\D.nx σ H)∨(J.go i H/\∃ N:St->Hp->Prop,(∀ σ' H',N σ' H'->∃ m',m' < m/\W (i + 1) m' σ' H')/\∀ x H',J.yld i H x H'->g x σ H' fun σ2 H2=>tb { D with nx:=N,ct:=N,bk:=D.nx } σ2 H2)
noncomputable def pR (fp:List Addr)(h:Heap):cZ:=fp.filterMap fun b=>(h.get? b).map fun o=>(b,o)
theorem lI {fp:List Addr}{h:Heap}{b:Addr}{o:Obj}(hb:b ∈ fp)(e:h.get? b=some o):(b,o) ∈ pR fp h:=List.mem_filterMap.mpr ⟨b,hb,by rw [e];rfl⟩
theorem rA {fp:List Addr}{h:Heap}{p:Addr×Obj}(hp:p ∈ pR fp h):p.1 ∈ fp/\h.get? p.1=some p.2:=by
 obtain ⟨b,hb,e⟩:=List.mem_filterMap.mp hp
 cases q:h.get? b with
 | none=>rw [q] at e;cases e
 | some o =>
  rw [q] at e
  have e':(b,o)=p:=Option.some.inj e
  subst e'
  exact ⟨hb,q⟩
theorem aN.pinned {pins:cZ}{σ:St}{H:Hp}{s:Shared}{fp:List Addr}(I:aN X pins σ H s)(hf:∀ b ∈ fp,j5 X pins H b)(ho:∀ b ∈ fp,∃ o,s.heap.get? b=some o/\∀ v,o.data≠.cell v):aN X (pins ++ pR fp s.heap) σ H s :=
 I.pins_of fun p hp=>(List.mem_append.mp hp).elim (fun z=>I.pin p (List.mem_append_right _ z)) fun z=>by
  obtain ⟨hb,e⟩:=rA z
  obtain ⟨f0,f1,f2,_⟩:=hf p.1 hb
  obtain ⟨o,e',d⟩:=ho p.1 hb
  rw [e] at e';cases e'
  exact ⟨e,f0,f1,f2,d⟩
theorem aN.unpinned {pins pl:cZ}{σ:St}{H:Hp}{s:Shared}(I:aN X (pins ++ pl) σ H s):aN X pins σ H s:=I.pins_of fun p hp=>I.pin p (List.mem_append_right _ (List.mem_append_left _ hp))
theorem fW {iter:Expr}{body:List Stmt}{wi:TI}{g:TG}{tb:TS}{pos:Pos}(hp:PassesOwn (model X.prog X.w) X.A X.env X.xe)(hc:X.calm=true)(hi:PI X tg iter wi)(hg:PG X tg g)(hb:oH X body tb)
  (hs:∀ x,foldedSetIterable iter X.env x=pure x:=by intro _;rfl):PS X (.For tg iter body [] pos) (tFor wi g tb):=by
 intro pins s σ H D I h
 refine wpAny_For (thn (hi pins s σ H _ I h) fun v s1 h1=>thn h1 fun itv s2 h2=>?_) hs
 obtain ⟨it,fp,tn,J,H2,e,I2,T,st2,f2,W,⟨m0,w0⟩,turn⟩:=h2
 subst e
 -- what stays true of the iterator's objects through the loop
 have stat:∀ {H':Hp},(∀ b ∈ fp,H' b=none)->∀ b ∈ fp,j5 X pins H' b:=fun hn b hb=>⟨hn b hb,(f2 b hb).2⟩
 refine codeAny_forLoop_any (fun n s'=>∃ i σ' H',aN X pins σ' H' s'/\tn i s'.heap/\(∀ b ∈ fp,H' b=none)/\W i n σ' H') ?_ m0 ⟨0,σ,H2,I2,st2,fun b hb=>(f2 b hb).1,w0⟩
 rintro n s3 ⟨i,σ3,H3,I3,st3,fr3,w3⟩
 rcases turn i n σ3 H3 w3 with ⟨stop,qn⟩ | ⟨go,N,hN,step⟩
 ·refine wpAny_passesOwn hp (thn (T.done X rfl rfl rfl hc i pins s3 σ3 H3 X.xe I3 (stat fr3) st3 stop) fun r s4 ⟨hr,I4⟩=>?_)
  subst hr
  exact wpAny_execs_nil ⟨σ3,H3,I4,qn⟩
 ·refine wpAny_passesOwn hp (thn (T.item X rfl rfl rfl hc i pins s3 σ3 H3 X.xe I3 (stat fr3) st3 go) fun r s4 ⟨u,hr,h4⟩=>?_)
  subst hr
  refine wpAny_passesOwn hp (thn h4 fun _ s5 ⟨x,H5,I5,r5,y5,st5,fr5⟩=>?_)
  have I5':=I5.pinned (stat fr5) (T.obj _ _ st5)
  refine wpAny_passesOwn hp (thn (hg _ s5 σ3 H5 x u _ I5' r5 (step x H5 y5)) fun _ s6 ⟨σ6,H6,I6,q6⟩=>?_)
  refine wpAny_passesOwn hp (thn (hb _ s6 σ6 H6 _ I6 q6) fun f s7 q7=>?_)
  have again:∀ {σ7:St} {H7:Hp},aN X (pins ++ pR fp s5.heap) σ7 H7 s7->N σ7 H7->∃ m,m < n/\∃ i σ' H',aN X pins σ' H' s7/\tn i s7.heap/\(∀ b ∈ fp,H' b=none)/\W i m σ' H':=fun {σ7 H7} I7 n7=>by
   obtain ⟨m',hm,w7⟩:=hN σ7 H7 n7
   refine ⟨m',hm,i + 1,σ7,H7,I7.unpinned,T.keep _ _ _ st5 fun b hb o e=>(I7.pin (b,o) (List.mem_append_right _ (List.mem_append_right _ (lI hb e)))).1,fun b hb=>?_,w7⟩
   obtain ⟨o,e,d⟩:=T.obj _ _ st5 b hb
   exact (I7.pin (b,o) (List.mem_append_right _ (List.mem_append_right _ (lI hb e)))).2.1
  cases f with
  | next=>obtain ⟨σ7,H7,I7,n7⟩:=q7;exact again I7 n7
  | cont=>obtain ⟨σ7,H7,I7,n7⟩:=q7;exact again I7 n7
  | brk=>obtain ⟨σ7,H7,I7,q7⟩:=q7;exact ⟨σ7,H7,I7.unpinned,q7⟩
  | ret v=>obtain ⟨x7,σ7,H7,I7,r7,q7⟩:=q7;exact ⟨x7,σ7,H7,I7.unpinned,r7,q7⟩
end
theorem EA {K:PySem.W.Frag}{a:Addr}{xs:List V}{g:TG}{tb:TS}{D:gR}{σ:St}{H:Hp}(Pv:Nat->St->Hp->Prop)(h0:Pv 0 σ H)(hl:∀ i σ H,i<=xs.length->Pv i σ H->fH K H a xs)
  (hs:∀ i x σ H,xs[i]?=some x->Pv i σ H->g x σ H fun σ2 H2=>tb { D with nx:=Pv (i + 1),ct:=Pv (i + 1),bk:=D.nx } σ2 H2) (hd:∀ σ H,Pv xs.length σ H->D.nx σ H) :
  ∃ W:Nat->Nat->St->Hp->Prop,(∃ m,W 0 m σ H)/\∀ i m σ H,W i m σ H ->
   ((IF K a).stop i H/\D.nx σ H)∨((IF K a).go i H/\∃ N:St->Hp->Prop,(∀ σ' H',N σ' H'->∃ m',m' < m/\W (i + 1) m' σ' H')/\∀ x H',(IF K a).yld i H x H'->g x σ H' fun σ2 H2=>tb { D with nx:=N,ct:=N,bk:=D.nx } σ2 H2):=by
 refine ⟨fun i m σ H=>m=xs.length - i/\i<=xs.length/\Pv i σ H,⟨xs.length,by simp,Nat.zero_le _,h0⟩,?_⟩
 rintro i m σ H ⟨rfl,hi,p⟩
 have q:=hl i σ H hi p
 by_cases hlt:i < xs.length
 ·refine .inr ⟨⟨xs,xs[i],q,by simp [hlt]⟩,Pv (i + 1),fun σ' H' p'=>⟨xs.length - (i + 1),by omega,rfl,hlt,p'⟩,fun x H' y=>?_⟩
  obtain ⟨e,y⟩:=y
  subst e
  exact hs i x σ _ (y xs q) p
 ·have e:i=xs.length:=by omega
  subst e
  exact .inl ⟨⟨xs,q,Nat.le_refl _⟩,hd σ H p⟩
theorem GX {K:PySem.W.Frag}{a:Addr}{xs:List V}{g:TG}{tb:TS}{D:gR}{σ:St}{H:Hp}(Pv:Nat->St->Hp->Prop)(h0:Pv 0 σ H)(hl:∀ i σ H,i<=xs.length->Pv i σ H->iE K H a xs)
  (hs:∀ i x σ H,xs[i]?=some x->Pv i σ H->g x σ H fun σ2 H2=>tb { D with nx:=Pv (i + 1),ct:=Pv (i + 1),bk:=D.nx } σ2 H2) (hd:∀ σ H,Pv xs.length σ H->D.nx σ H) :
  ∃ W:Nat->Nat->St->Hp->Prop,(∃ m,W 0 m σ H)/\∀ i m σ H,W i m σ H ->
   ((IE K a).stop i H/\D.nx σ H)∨((IE K a).go i H/\∃ N:St->Hp->Prop,(∀ σ' H',N σ' H'->∃ m',m' < m/\W (i + 1) m' σ' H')/\∀ x H',(IE K a).yld i H x H'->g x σ H' fun σ2 H2=>tb { D with nx:=N,ct:=N,bk:=D.nx } σ2 H2):=by
 refine ⟨fun i m σ H=>m=xs.length - i/\i<=xs.length/\Pv i σ H,⟨xs.length,by simp,Nat.zero_le _,h0⟩,?_⟩
 rintro i m σ H ⟨rfl,hi,p⟩
 have q:=hl i σ H hi p
 by_cases hlt:i < xs.length
 ·refine .inr ⟨⟨xs,xs[i],q,by simp [hlt]⟩,Pv (i + 1),fun σ' H' p'=>⟨xs.length - (i + 1),by omega,rfl,hlt,p'⟩,fun x H' y=>?_⟩
  obtain ⟨e,y⟩:=y
  subst e
  exact hs i x σ _ (y xs q) p
 ·have e:i=xs.length:=by omega
  subst e
  exact .inl ⟨⟨xs,q,Nat.le_refl _⟩,hd σ H p⟩
theorem A0 {lo:Int}{n:Nat}{g:TG}{tb:TS}{D:gR}{σ:St}{H:Hp}(Pv:Nat->St->Hp->Prop)(h0:Pv 0 σ H)
  (hs:∀ i σ H,i < n->Pv i σ H->g (.int (lo + i)) σ H fun σ2 H2=>tb { D with nx:=Pv (i + 1),ct:=Pv (i + 1),bk:=D.nx } σ2 H2) (hd:∀ σ H,Pv n σ H->D.nx σ H) :
  ∃ W:Nat->Nat->St->Hp->Prop,(∃ m,W 0 m σ H)/\∀ i m σ H,W i m σ H ->
   ((BR lo n).stop i H/\D.nx σ H)∨((BR lo n).go i H/\∃ N:St->Hp->Prop,(∀ σ' H',N σ' H'->∃ m',m' < m/\W (i + 1) m' σ' H')/\∀ x H',(BR lo n).yld i H x H'->g x σ H' fun σ2 H2=>tb { D with nx:=N,ct:=N,bk:=D.nx } σ2 H2):=by
 refine ⟨fun i m σ H=>m=n - i/\i<=n/\Pv i σ H,⟨n,by simp,Nat.zero_le _,h0⟩,?_⟩
 rintro i m σ H ⟨rfl,hi,p⟩
 by_cases hlt:i < n
 ·refine .inr ⟨hlt,Pv (i + 1),fun σ' H' p'=>⟨n - (i + 1),by omega,rfl,hlt,p'⟩,fun x H' y=>?_⟩
  obtain ⟨e,y⟩:=y
  subst e y
  exact hs i σ _ hlt p
 ·have e:i=n:=by omega
  subst e
  exact .inl ⟨Nat.le_refl _,hd σ H p⟩
noncomputable abbrev R2:=V->V->Hp->VK->Prop
noncomputable def iN (X:Cx)(f:Value->Value->Sem Value)(r:R2):Prop :=
 ∀ (pins:cZ) (s:Shared) (σ:St) (H:Hp) (x y:V) (v u:Value) (Q:VK),aN X pins σ H s->aQ x v->aQ y u->r x y H Q ->
  wpAny (model X.prog X.w) X.A (f v u) (EP X pins σ Q) X.xe s
noncomputable def LP (X:Cx)(f:Value->Sem Value)(r:V->Hp->VK->Prop):Prop :=
 ∀ (pins:cZ) (s:Shared) (σ:St) (H:Hp) (x:V) (v:Value) (Q:VK),aN X pins σ H s->aQ x v->r x H Q ->
  wpAny (model X.prog X.w) X.A (f v) (EP X pins σ Q) X.xe s
noncomputable def cS (X:Cx)(f:Value)(r:List V->Hp->VK->Prop):Prop :=
 ∀ (pins:cZ) (s:Shared) (σ:St) (H:Hp) (xs:List V) (us:cE) (Q:VK),aN X pins σ H s->aV xs us->r xs H Q ->
  wpAny (model X.prog X.w) X.A (call f us) (EP X pins σ Q) X.xe s
noncomputable def LQ (X:Cx)(r:V->Hp->(Bool->Hp->Prop)->Prop):Prop :=
 ∀ (pins:cZ) (s:Shared) (σ:St) (H:Hp) (x:V) (v:Value) (Q:Bool->Hp->Prop),aN X pins σ H s->aQ x v->r x H Q ->
  wpAny (model X.prog X.w) X.A (truthy v) (TP X pins σ Q) X.xe s
noncomputable def tOp (r:R2)(ta tb:TE):TE:=fun σ H Q=>ta σ H fun x H1=>tb σ H1 fun y H2=>r x y H2 Q
noncomputable def tUn (r:V->Hp->VK->Prop)(ta:TE):TE:=fun σ H Q=>ta σ H fun x H1=>r x H1 Q
noncomputable def rI (C:Int->Int->Prop)(g:Int->Int->V):R2:=fun x y H Q=>∃ i j,x = .int i/\y = .int j/\C i j/\Q (g i j) H
noncomputable def rI0 (g:Int->Int->V):R2:=fun x y H Q=>∃ i j,x = .int i/\y = .int j/\Q (g i j) H
noncomputable def rU (g:Int->V):V->Hp->VK->Prop:=fun x H Q=>∃ i,x = .int i/\Q (g i) H
section
variable {X:Cx}{a b c:Expr}{ta tb tc:TE}{pos:Pos}
theorem binT (ha:PE X a ta)(hb:PE X b tb){pins:cZ}{s:Shared}{σ:St}{H:Hp}{R:V->V->Hp->Prop}(I:aN X pins σ H s)
  (h:ta σ H fun x H1=>tb σ H1 fun y H2=>R x y H2) {Q:cY} {f:Value->Value->Sem Value}
  (hf:∀ v u s2 x y H2,aN X pins σ H2 s2->aQ x v->aQ y u->R x y H2->wpAny (model X.prog X.w) X.A (f v u) Q X.xe s2) :
  wpAny (model X.prog X.w) X.A (eval a X.env) (fun v s₁=>wpAny (model X.prog X.w) X.A (eval b X.env) (fun u s₂=>wpAny (model X.prog X.w) X.A (f v u) Q X.xe s₂) X.xe s₁) X.xe s:=by
 refine thn (ha pins s σ H _ I h) fun v s1 ⟨x,H1,I1,r1,q1⟩=>?_
 refine thn (hb pins s1 σ H1 _ I1 q1) fun u s2 ⟨y,H2,I2,r2,q2⟩=>?_
 exact hf v u s2 x y H2 I2 r1 r2 q2
theorem bB {op:Operator}{r:R2}(ho:iN X (binaryOp op) r)(ha:PE X a ta)(hb:PE X b tb):PE X (.BinOp a op b pos) (tOp r ta tb):=by
 intro pins s σ H Q I h
 exact wpAny_BinOp (binT ha hb I h fun v u s2 x y H2 I2 rx ry q=>ho pins s2 σ H2 x y v u Q I2 rx ry q)
theorem HV {op:UnaryOp}{r:V->Hp->VK->Prop}(ho:LP X (unaryOp op) r)(ha:PE X a ta):PE X (.UnaryOp op a pos) (tUn r ta):=by
 intro pins s σ H Q I h
 exact UnaryOp_ (thn (ha pins s σ H _ I h) fun v s1 ⟨x,H1,I1,r1,q1⟩=>ho pins s1 σ H1 x v Q I1 r1 q1)
theorem opI {f:Value->Value->Sem Value}{C:Int->Int->Prop}{g:Int->Int->Int}
  (rule:∀ (i j:Int) (t u:Tok) (s:Shared) (Q:cY) (E:cY),C i j->Q (.int (g i j) s.toks) { s with toks:=s.toks + 1 }->wpAny (model X.prog X.w) X.A (f (.int i t) (.int j u)) Q E s) :
  iN X f (rI C fun i j=>.int (g i j)):=by
 intro pins s σ H x y v u Q I rx ry h
 obtain ⟨i,j,rfl,rfl,hc,q⟩:=h
 obtain ⟨t,rfl⟩:=rx
 obtain ⟨t',rfl⟩:=ry
 exact rule i j t t' s _ _ hc ⟨.int (g i j),H,I.tok _,⟨_,rfl⟩,q⟩
theorem opI0 {f:Value->Value->Sem Value}{g:Int->Int->Int}
  (rule:∀ (i j:Int) (t u:Tok) (s:Shared) (Q:cY) (E:cY),Q (.int (g i j) s.toks) { s with toks:=s.toks + 1 }->wpAny (model X.prog X.w) X.A (f (.int i t) (.int j u)) Q E s) :
  iN X f (rI0 fun i j=>.int (g i j)):=by
 intro pins s σ H x y v u Q I rx ry h
 obtain ⟨i,j,rfl,rfl,q⟩:=h
 obtain ⟨t,rfl⟩:=rx
 obtain ⟨t',rfl⟩:=ry
 exact rule i j t t' s _ _ ⟨.int (g i j),H,I.tok _,⟨_,rfl⟩,q⟩
theorem opB0 {f:Value->Value->Sem Value}{g:Int->Int->Bool}
  (rule:∀ (i j:Int) (t u:Tok) (s:Shared) (Q:cY) (E:cY),Q (.bool (g i j)) s->wpAny (model X.prog X.w) X.A (f (.int i t) (.int j u)) Q E s) :
  iN X f (rI0 fun i j=>.bl (g i j)):=by
 intro pins s σ H x y v u Q I rx ry h
 obtain ⟨i,j,rfl,rfl,q⟩:=h
 obtain ⟨t,rfl⟩:=rx
 obtain ⟨t',rfl⟩:=ry
 exact rule i j t t' s _ _ ⟨.bl (g i j),H,I,rfl,q⟩
noncomputable def LW (i j:Int):Prop:=0 < j/\j < 1073741824
noncomputable def LF (i j:Int):Prop:=0<=j/\j<=1000000/\i.natAbs < 2 ^ 64
noncomputable def BP (i j:Int):Prop:=(-(2 ^ 64) < i/\i < 2 ^ 64)∨(-(2 ^ 64) < j/\j < 2 ^ 64)
theorem BP.ok {i j:Int}(h:BP i j):IntMulOk i j:=by
 rcases h with ⟨h1,h2⟩ | ⟨h1,h2⟩
 ·exact .of_left (intBits_le_64 h1 h2)
 ·exact .of_right (intBits_le_64 h1 h2)
theorem JM:iN X (binaryOp .Add) (rI0 fun i j=>.int (i + j)):=opI0 fun _ _ _ _ _ _ _ q=>add_int q
theorem lG:iN X (binaryOp .Sub) (rI0 fun i j=>.int (i - j)):=opI0 fun _ _ _ _ _ _ _ q=>sub_int q
theorem nO:iN X (binaryOp .Mult) (rI BP fun i j=>.int (i * j)):=opI fun _ _ _ _ _ _ _ hc q=>mul_int q hc.ok
theorem tL:iN X (binaryOp .FloorDiv) (rI LW fun i j=>.int (i / j)):=opI fun i j _ _ _ _ _ hc q=>by
 have h1:(0:Int) < j:=hc.1
 have h2:j < 1073741824:=hc.2
 exact floordiv_int (by omega) (by rw [Int.fdiv_eq_ediv_of_nonneg i (by omega)];exact q) (.inl (PyProof.noPylong_small (by omega)))
theorem pU:iN X (binaryOp .Mod) (rI (fun _ j=>0 < j) fun i j=>.int (i % j)):=opI fun i j _ _ _ _ _ hc q=>by
 have h1:(0:Int) < j:=hc
 exact mod_int' (by omega) (by rw [Int.fmod_eq_emod_of_nonneg i (by omega)];exact q)
theorem DD:iN X (binaryOp .Pow) (rI LF fun i j=>.int (i ^ j.toNat)):=opI fun _ _ _ _ _ _ _ hc q=>pow_int_small hc.1 hc.2.1 hc.2.2 q
theorem unI {f:Value->Sem Value}{g:Int->Int}
  (rule:∀ (i:Int) (t:Tok) (s:Shared) (Q:cY) (E:cY),Q (.int (g i) s.toks) { s with toks:=s.toks + 1 }->wpAny (model X.prog X.w) X.A (f (.int i t)) Q E s) :
  LP X f (rU fun i=>.int (g i)):=by
 intro pins s σ H x v Q I rx h
 obtain ⟨i,rfl,q⟩:=h
 obtain ⟨t,rfl⟩:=rx
 exact rule i t s _ _ ⟨.int (g i),H,I.tok _,⟨_,rfl⟩,q⟩
theorem BZ:LP X (unaryOp .USub) (rU fun i=>.int (-i)):=unI fun _ _ _ _ _ q=>neg_int q
theorem xQ {pins:cZ}{σ:St}{H:Hp}{s:Shared}{Q:VK}{k k':Bool}(I:aN X pins σ H s)(q:Q (.bl k) H)(e:k=k'):EP X pins σ Q (.bool k') s:=by
 subst e
 exact ⟨.bl k,H,I,rfl,q⟩
theorem K4:iN X (compareOp .Lt) (rI0 fun i j=>.bl (decide (i < j))):=opB0 fun _ _ _ _ _ _ _ q=>lt_int q
theorem mF:iN X (compareOp .LtE) (rI0 fun i j=>.bl (decide (i<=j))):=opB0 fun _ _ _ _ _ _ _ q=>le_int q
theorem uZ:iN X (compareOp .Gt) (rI0 fun i j=>.bl (decide (j < i))):=opB0 fun _ _ _ _ _ _ _ q=>gt_int q
theorem HX:iN X (compareOp .GtE) (rI0 fun i j=>.bl (decide (j<=i))):=opB0 fun _ _ _ _ _ _ _ q=>ge_int q
theorem AK:iN X (compareOp .Lt) (fun x y H Q=>∃ i j,x = .str i/\y = .str j/\Q (.bl (decide (i.cps.toList < j.cps.toList))) H):=by
 intro pins s σ H x y v u Q I rx ry h
 obtain ⟨i,j,rfl,rfl,q⟩:=h
 obtain ⟨t,rfl⟩:=rx
 obtain ⟨t',rfl⟩:=ry
 exact lt_str (xQ I q rfl)
theorem gU:iN X (compareOp .In) (fun x y H Q=>∃ i j,x = .str i/\y = .str j/\Q (.bl (!(Builtin.Str.occurrences j i 0 j.length 1).isEmpty)) H):=by
 intro pins s σ H x y v u Q I rx ry h
 obtain ⟨i,j,rfl,rfl,q⟩:=h
 obtain ⟨t,rfl⟩:=rx
 obtain ⟨t',rfl⟩:=ry
 exact in_str (xQ I q rfl)
theorem FZ:iN X (compareOp .IsNot) (fun x y H Q=>y = .non/\Q (.bl (!decide (x = .non))) H):=by
 intro pins s σ H x y v u Q I rx ry h
 obtain ⟨rfl,q⟩:=h
 cases ry
 refine isnot_none_gen (xQ I q ?_)
 cases x <;> first
  | (cases rx;rfl)
  | (obtain ⟨t,rfl⟩:=rx;rfl)
theorem iN.or {f:Value->Value->Sem Value}{r r':R2}(h:iN X f r)(h':iN X f r'):iN X f (fun x y H Q=>r x y H Q∨r' x y H Q):=by
 intro pins s σ H x y v u Q I rx ry q
 rcases q with q | q
 ·exact h pins s σ H x y v u Q I rx ry q
 ·exact h' pins s σ H x y v u Q I rx ry q
theorem nomark (b:Expr){op:CmpOp}(h:op≠.In:=by decide)(h2:op≠.NotIn:=by decide):behindInMarks op b=false:=by
 have e1:(op == CmpOp.In)=false:=by cases op <;> first | rfl | exact absurd rfl h
 have e2:(op == CmpOp.NotIn)=false:=by cases op <;> first | rfl | exact absurd rfl h2
 cases b <;> simp [behindInMarks,e1,e2]
theorem eN {op:CmpOp}{r:R2}(ho:iN X (compareOp op) r)(ha:PE X a ta)(hb:PE X b tb)(hm:behindInMarks op b=false):PE X (.Compare a [op] [b] pos) (tOp r ta tb):=by
 intro pins s σ H Q I h
 exact wpAny_Compare1 (binT ha hb I h fun v u s2 x y H2 I2 rx ry q=>ho pins s2 σ H2 x y v u Q I2 rx ry q) hm
noncomputable def tTest (t:TE):TT:=fun σ H Q=>t σ H fun x H'=>∃ k,x = .bl k/\Q k H'
theorem aS {op:CmpOp}{r:R2}(ho:iN X (compareOp op) r)(ha:PE X a ta)(hb:PE X b tb)(hm:behindInMarks op b=false):PT X (.Compare a [op] [b] pos) (tTest (tOp r ta tb)):=by
 intro pins s σ H Q I h
 refine wpAny_isTrue_Compare1 (thn (ha pins s σ H _ I h) fun v s1 ⟨x,H1,I1,r1,q1⟩=>thn (hb pins s1 σ H1 _ I1 q1) fun u s2 ⟨y,H2,I2,r2,q2⟩ =>
  thn (ho pins s2 σ H2 x y v u _ I2 r1 r2 q2) fun c s3 ⟨z,H3,I3,r3,k,e,q3⟩=>?_) hm
 subst e
 cases r3
 exact wpAny_truthy_bool ⟨H3,I3,q3⟩
noncomputable def tChain (r r':R2)(ta tb tc:TE):TE:=fun σ H Q=>ta σ H fun x H1=>tb σ H1 fun y H2=>r x y H2 fun z H3=>∃ k,z = .bl k /\
 (if k=true then tc σ H3 fun w' H4=>r' y w' H4 Q else Q (.bl false) H3)
theorem j8 {op op':CmpOp}{r r':R2}(ho:iN X (compareOp op) r)(ho':iN X (compareOp op') r')(ha:PE X a ta)(hb:PE X b tb)(hc:PE X c tc)
  (hm:lastMarks [op,op'] [b,c]=false:=by with_unfolding_all rfl):PT X (.Compare a [op,op'] [b,c] pos) (tTest (tChain r r' ta tb tc)):=by
 intro pins s σ H Q I h
 refine isTrue_chain (thn (ha pins s σ H _ I h) fun v s1 ⟨x,H1,I1,r1,q1⟩=>test_link (thn (hb pins s1 σ H1 _ I1 q1) fun u s2 ⟨y,H2,I2,r2,q2⟩ =>
  thn (ho pins s2 σ H2 x y v u _ I2 r1 r2 q2) fun d s3 ⟨z,H3,I3,r3,k,e,q3⟩=>?_)) hm
 subst e
 cases r3
 refine wpAny_truthy_bool ?_
 cases k with
 | false =>
  obtain ⟨k',e',q'⟩:=q3
  cases e'
  exact ite_ff ⟨H3,I3,q'⟩
 | true =>
  refine ite_tt (test_last (thn (hc pins s3 σ H3 _ I3 q3) fun w' s4 ⟨z',H4,I4,r4,q4⟩=>thn (ho' pins s4 σ H4 y z' u w' _ I4 r2 r4 q4) fun d' s5 ⟨z2,H5,I5,r5,k2,e2,q5⟩=>?_))
  subst e2
  cases r5
  exact wpAny_truthy_bool ⟨H5,I5,q5⟩
noncomputable def HC (K:PySem.W.Frag)(x:V)(H:Hp)(k:Bool):Prop :=
 match x with
 | .non=>k=false
 | .bl b=>k=b
 | .int i=>k=(i != 0)
 | .str y=>y.length<=sizeLine/\k=((y.length:Int) != 0)
 | .byt y=>y.size<=sizeLine/\k=((y.size:Int) != 0)
 | .ref p=>(∃ xs,fH K H p xs/\k = !xs.isEmpty)∨(∃ xs,iE K H p xs/\k = !xs.isEmpty)∨∃ kvs,H p=some (.dK kvs)/\k = !kvs.isEmpty
 | _=>False
theorem xN {κ:Type}{kvs:List (κ×V)}{vs:List (κ×Value)}(r:KV kvs vs):(!vs.isEmpty) = !kvs.isEmpty:=by
 cases r <;> rfl
theorem p7 {xs:List V}{its:cE}(r:aV xs its):(!its.toArray.isEmpty) = !xs.isEmpty:=by
 cases r <;> simp
theorem line63:(sizeLine:Nat) < 2 ^ 63:=by rw [sizeLine_eq];decide
theorem IR:LQ X (fun x H Q=>∃ k,HC X.K x H k/\Q k H):=by
 intro pins s σ H x v Q I rx h
 obtain ⟨k,e,q⟩:=h
 have hl:=line63
 have hs:sizeLine=16777216:=sizeLine_eq
 cases x with
 | non =>
  cases rx
  have e':k=false:=e
  subst e'
  exact truthy_none ⟨H,I,q⟩
 | bl b =>
  cases rx
  have e':k=b:=e
  subst e'
  exact wpAny_truthy_bool ⟨H,I,q⟩
 | int i =>
  obtain ⟨t,rfl⟩:=rx
  have e':k=(i != 0):=e
  subst e'
  exact PySem.P.truthy_int ⟨H,I,q⟩
 | str y =>
  obtain ⟨t,rfl⟩:=rx
  obtain ⟨hy,e'⟩:y.length<=sizeLine/\k=((y.length:Int) != 0):=e
  subst e'
  exact PySem.P.truthy_str (by omega) ⟨H,I.tok _,q⟩
 | byt y =>
  obtain ⟨t,rfl⟩:=rx
  obtain ⟨hy,e'⟩:y.size<=sizeLine/\k=((y.size:Int) != 0):=e
  subst e'
  exact PySem.W.truthy_bytes (by omega) ⟨H,I.tok _,q⟩
 | ref p =>
  cases rx
  have e':(∃ xs,fH X.K H p xs/\k = !xs.isEmpty)∨(∃ xs,iE X.K H p xs/\k = !xs.isEmpty)∨∃ kvs,H p=some (.dK kvs)/\k = !kvs.isEmpty:=e
  rcases e' with ⟨xs,hx,e'⟩ | ⟨xs,hx,e'⟩ | ⟨kvs,hx,e'⟩
  ·subst e'
   obtain ⟨its,r,pl,hz⟩:=I.list hx
   have hlen:=r.length
   exact wpAny_truthy_list pl.isList (by simp only [List.size_toArray];omega) ⟨H,I.tok _,by rw [p7 r];exact q⟩
  ·subst e'
   obtain ⟨its,r,pl,hz⟩:=I.tuple hx
   have hlen:=r.length
   exact truthy_tuple pl (by simp only [List.size_toArray];omega) ⟨H,I.tok _,by rw [p7 r];exact q⟩
  ·subst e'
   obtain ⟨hz,hS,vs,r,m⟩:kvs.length<=sizeLine/\(p == sysModules)=false/\∃ vs,KV kvs vs/\s.heap.DictOf (cB X.prog X.w) p vs:=I.hok p _ hx
   have hlen:kvs.length=vs.length:=Paired.length r
   exact wpAny_truthy_dict hS m (by omega) ⟨H,I.tok _,by rw [xN r];exact q⟩
 | _=>exact (show False from e).elim
theorem CH (ha:PE X a ta)(he:∀ whole,isTrue a X.env whole=(do let v ← whole;standAt a.pos;holding [v] (truthy v))) :
  PT X a (fun σ H Q=>ta σ H fun x H'=>∃ k,HC X.K x H' k/\Q k H'):=by
 intro pins s σ H Q I h
 exact isTrue_plain (thn (ha pins s σ H _ I h) fun v s1 ⟨x,H1,I1,r1,q1⟩=>IR pins s1 σ H1 x v Q I1 r1 q1) (he _)
theorem w8:iN X (binaryOp .Add) (fun x y H Q=>∃ i j,x = .str i/\y = .str j/\i.length + j.length<=sizeLine/\Q (.str (i ++ j)) H):=by
 intro pins s σ H x y v u Q I rx ry h
 obtain ⟨i,j,rfl,rfl,hz,q⟩:=h
 obtain ⟨t,rfl⟩:=rx
 obtain ⟨t',rfl⟩:=ry
 exact add_str (fun t' tk=>⟨.str (i ++ j),H,I.tok _,⟨_,rfl⟩,q⟩) hz
theorem vals1 {x:V}{us:cE}(r:aV [x] us):∃ u,us=[u]/\aQ x u:=by
 cases r with
 | cons r1 r2=>cases r2;exact ⟨_,rfl,r1⟩
theorem vals2 {x y:V}{us:cE}(r:aV [x,y] us):∃ u w',us=[u,w']/\aQ x u/\aQ y w':=by
 cases r with
 | cons r1 r2 =>
  cases r2 with
  | cons r3 r4=>cases r4;exact ⟨_,_,rfl,r1,r3⟩
theorem EO:cS X (.builtin "abs") (fun xs H Q=>∃ i,xs=[.int i]/\Q (.int (if i < 0 then -i else i)) H):=by
 intro pins s σ H xs us Q I r h
 obtain ⟨i,rfl,q⟩:=h
 obtain ⟨u,rfl,t,rfl⟩:=vals1 r
 exact call_abs_int fun u tk=>⟨.int (if i < 0 then -i else i),H,I.tok _,⟨_,rfl⟩,q⟩
theorem BC (hc:X.calm=true):cS X (.builtin "max") (fun xs H Q=>∃ i j,xs=[.int i,.int j]/\Q (.int (if j > i then j else i)) H):=by
 intro pins s σ H xs us Q I r h
 obtain ⟨i,j,rfl,q⟩:=h
 obtain ⟨u,w',rfl,⟨t,rfl⟩,⟨t',rfl⟩⟩:=vals2 r
 refine max_two_ints (I.ok.hd hc) fun h' tk k=>⟨_,H,I.kept k,?_,q⟩
 by_cases hj:j > i
 ·rw [if_pos hj,if_pos hj];exact ⟨_,rfl⟩
 ·rw [if_neg hj,if_neg hj];exact ⟨_,rfl⟩
theorem BA (hc:X.calm=true):cS X (.builtin "min") (fun xs H Q=>∃ i j,xs=[.int i,.int j]/\Q (.int (if j < i then j else i)) H):=by
 intro pins s σ H xs us Q I r h
 obtain ⟨i,j,rfl,q⟩:=h
 obtain ⟨u,w',rfl,⟨t,rfl⟩,⟨t',rfl⟩⟩:=vals2 r
 refine min_two_ints (I.ok.hd hc) fun h' tk k=>⟨_,H,I.kept k,?_,q⟩
 by_cases hj:j < i
 ·rw [if_pos hj,if_pos hj];exact ⟨_,rfl⟩
 ·rw [if_neg hj,if_neg hj];exact ⟨_,rfl⟩
theorem BE:cS X (.type "int") (fun xs H Q=>(∃ i,xs=[.int i]/\Q (.int i) H)∨∃ k,xs=[.bl k]/\Q (.int (if k then 1 else 0)) H):=by
 intro pins s σ H xs us Q I r h
 rcases h with ⟨i,rfl,q⟩ | ⟨k,rfl,q⟩
 ·obtain ⟨u,rfl,t,rfl⟩:=vals1 r
  exact call_int_int ⟨.int i,H,I,⟨_,rfl⟩,q⟩
 ·obtain ⟨u,rfl,r1⟩:=vals1 r
  cases r1
  exact call_int_bool ⟨.int (if k then 1 else 0),H,I.tok _,⟨_,rfl⟩,q⟩
end
structure xX (h:Heap)(x dx C:Addr)(mA:eJ):Prop where
 obj:h.get? x=some (PySem.W.instObj C dx)
 ns:h.Ns1 dx mA
 ne:dx≠x
theorem AS {h:Heap}{dx:Addr}{mA:eJ}(n:h.Ns1 dx mA):∃ od,h.get? dx=some od/\∀ name,PySem.W.lookIn name od=some (mA name):=by
 obtain ⟨o,es,ep,ho,hd,hk,_,hm⟩:=n
 refine ⟨o,ho,fun name=>?_⟩
 have e:=hm name
 unfold nsFind findBy at e
 rw [← Array.find?_toList] at e
 unfold PySem.W.lookIn
 rw [hd]
 dsimp only
 split
 ·rename_i y q
  rw [q] at e
  exact congrArg some e
 ·rename_i q
  rw [q] at e
  have a:es.toList.any (·.refKey)=false:=by
   rw [List.any_eq_false]
   intro y hy
   obtain ⟨z,t,hkey⟩:=hk y (Array.mem_toList_iff.mp hy)
   simp [DictEntry.refKey,hkey]
  have a':¬ es.toList.any (·.refKey)=true:=by rw [a];exact Bool.false_ne_true
  rw [if_neg a']
  exact congrArg some e
theorem xX.look {h:Heap}{x dx C:Addr}{mA:eJ}(I:xX h x dx C mA):∃ od,PySem.W.InstAt h x (PySem.W.instObj C dx) C (some od)/\∀ name,PySem.W.lookIn name od=some (mA name) :=
 let ⟨od,ho,hl⟩:=AS I.ns
 ⟨od,⟨I.obj,rfl,rfl,ho⟩,hl⟩
section
variable {prog:Program}{w:World}{A:Around}{E:cY}{s:Shared}{K:PySem.W.Frag}{x dx C f:Addr}{mA:eJ}{name:Str}{v:Value}
theorem GW {expr:Bool}{Q:cY}(X:K.In s.heap)(I:xX s.heap x dx C mA)(hg:PySem.W.plainGet K C name=true)(hh:PySem.W.hasDictIn K C=true)
  (ha:PySem.W.findIn K (.ref C) name=some none) (hv:mA name=some v) (hv':PySem.W.handedIn v=true) (h:Q v { s with toks:=s.toks + 1 }) :
  wpAny (model prog w) A (getAttr (.ref x) name expr) Q E s:=by
 obtain ⟨od,J,hl⟩:=I.look
 exact PySem.W.get_value X J (PySem.W.plainGet_of hg).1 (PySem.W.findObj_own hh ha rfl (by rw [hl,hv])) hv' h
theorem D8 {pl:Sem Bool}{Q:Value×cE->Shared->Prop}(X:K.In s.heap)(I:xX s.heap x dx C mA)(hg:PySem.W.plainGet K C name=true)
  (hf:PySem.W.findIn K (.ref C) name=some (some (.ref f))) (ht:PySem.W.isFn K (.ref f)=true) (hv:mA name=none) (h:Q (.ref f,[.ref x]) s) :
  wpAny (model prog w) A (getMethod (.ref x) name pl) Q E s:=by
 obtain ⟨od,J,hl⟩:=I.look
 exact PySem.W.method_fn X J (PySem.W.plainGet_of hg).1 (PySem.W.plainGet_of hg).2 hf (beq_iff_eq.mp ht) (by show (PySem.W.lookIn name od).map (·.isSome)=some false;rw [hl,hv];rfl) h
theorem FF {ns:aW}{Q:Unit->Shared->Prop}(X:K.In s.heap)(I:xX s.heap x dx C mA)
  (hs:PySem.W.findIn K (.ref C) "__setattr__" = some (some (.builtin "object.__setattr__"))) (hp:PySem.W.plainOver K C=true) (ht:PySem.W.takerIn K C name=some none) (hh:PySem.W.hasDictIn K C=true)
  (hw:PySem.Within mA ns) (hsz:ns.length<=sizeLine)
  (h:∀ h',xX h' x dx C (fun y=>if y=name then some v else mA y)->Heap.SameBut dx s.heap h'->Q () { s with heap:=h',toks:=s.toks + 2 }) :
  wpAny (model prog w) A (setAttr (.ref x) name v) Q E s:=by
 obtain ⟨od,J,hl⟩:=I.look
 refine PySem.W.set_plain X J hs (PySem.W.osa_open (s:={ s with toks:=s.toks + 1 }) (r:=none) X J hp ht fun b=>?_)
 obtain ⟨cd,hc,hd'⟩:=PySem.W.any_some hh
 have hx:s.heap.get? x=some ⟨.ref C,some dx,.plain,#[]⟩:=I.obj
 refine wpAny_bind (wpAny_pure (wpAny_bind (wpAny_bind (wpAny_loadPart hx (wpAny_bind (PySem.W.Looks.here (s:={ s with toks:=s.toks + 1 }) (PySem.W.looks_clsIn X hc) ?_))))))
 rw [hd']
 refine wpAny_pure (a:=some dx) (wpAny_bind (wpAny_pure (wpAny_bind ?_)))
 refine wpAny_nsSet1 (s:={ s with toks:=s.toks + 1 }) I.ns fun h' hn2 hs2=>?_
 obtain ⟨oD,esD,epD,hoD,hdD,hcD⟩:=hn2.count (PySem.Within.cons name v hw)
 refine wpAny_bind (wpAny_lookBehind hoD (by rw [hdD];exact pastItsLine_dict (Nat.le_trans hcD (by rw [List.length_cons];omega))) ?_)
 exact wpAny_pure (h _ ⟨(hs2.2 _ (Ne.symm I.ne)).trans I.obj,hn2,I.ne⟩ hs2)
theorem DY {R:Result->Shared->Prop}{vs:cE}{kw:List (Str×Value)}(X:K.In s.heap)(hm:PySem.W.makesIn K C=true)
  (hi:PySem.W.findIn K (.ref C) "__init__" = some (some (.ref f))) (hf:PySem.W.typeIn K (.ref f)=some (.type "function"))
  (h:codeAny (model prog w) (A.under (.builtin "type.__call__" ⟨.ref C :: vs,kw⟩)) (.call (.ref f) ⟨.ref (s.heap.objs.size + 1) :: vs,kw⟩) (PySem.W.InitBack (s.heap.objs.size + 1) R)
   { s with heap:=(s.heap.push PySem.W.emptyDict).push (PySem.W.instObj C s.heap.objs.size) }) :
  codeAny (model prog w) A (.call (.ref C) ⟨vs,kw⟩) R s:=by
 obtain ⟨hh,g,d,t,os⟩:=s
 exact PySem.W.make_core (PySem.W.makes_of X hm) (PySem.W.looks_findIn X hi) (fun self=>PySem.W.bind_fn X self hf) (.inl rfl) h
end
noncomputable def putF (f:Str)(v:V):List (Str×V)->List (Str×V)
 | []=>[(f,v)]
 | (g,x) :: r=>if g=f then (g,v) :: r else (g,x) :: putF f v r
theorem bW (f g:Str)(v:V):∀ fs:List (Str×V),(putF f v fs).lookup g=if g=f then some v else fs.lookup g
 | []=>by
  show List.lookup g [(f,v)]=_
  by_cases h:g=f
  ·have hb:(g == f)=true:=beq_iff_eq.mpr h
   simp only [List.lookup,hb,if_pos h]
  ·have hb:(g == f)=false:=beq_eq_false_iff_ne.mpr h
   simp only [List.lookup,hb,if_neg h]
 | (k,x) :: r=>by
  have ih:=bW f g v r
  rw [show putF f v ((k,x) :: r)=(if k=f then (k,v) :: r else (k,x) :: putF f v r) from rfl]
  by_cases hk:k=f
  ·rw [if_pos hk]
   by_cases h:g=k
   ·have hb:(g == k)=true:=beq_iff_eq.mpr h
    simp only [List.lookup,hb,if_pos (h.trans hk)]
   ·have hb:(g == k)=false:=beq_eq_false_iff_ne.mpr h
    simp only [List.lookup,hb,if_neg (fun e:g=f=>h (e.trans hk.symm))]
  ·rw [if_neg hk]
   by_cases h:g=k
   ·have hb:(g == k)=true:=beq_iff_eq.mpr h
    simp only [List.lookup,hb,if_neg (fun e:g=f=>hk (h.symm.trans e))]
   ·have hb:(g == k)=false:=beq_eq_false_iff_ne.mpr h
    simp only [List.lookup,hb]
    exact ih
theorem nT (f:Str)(v:V):∀ fs:List (Str×V),f ∈ (putF f v fs).map (·.1)/\∀ g,g ∈ fs.map (·.1)->g ∈ (putF f v fs).map (·.1)
 | []=>⟨by simp [putF],fun g h=>by simp at h⟩
 | (k,x) :: r=>by
  obtain ⟨i1,i2⟩:=nT f v r
  rw [show putF f v ((k,x) :: r)=(if k=f then (k,v) :: r else (k,x) :: putF f v r) from rfl]
  by_cases hk:k=f
  ·rw [if_pos hk]
   subst hk
   exact ⟨by simp,fun g h=>by simpa using h⟩
  ·rw [if_neg hk]
   refine ⟨?_,fun g h=>?_⟩
   ·rw [List.map_cons]
    exact List.mem_cons_of_mem _ i1
   ·rw [List.map_cons] at h ⊢
    rcases List.mem_cons.mp h with e | e
    ·exact List.mem_cons.mpr (.inl e)
    ·exact List.mem_cons_of_mem _ (i2 g e)
theorem fF (f:Str)(v:V):∀ fs:List (Str×V),(putF f v fs).length<=fs.length + 1
 | []=>by simp [putF]
 | (k,x) :: r=>by
  have ih:=fF f v r
  rw [show putF f v ((k,x) :: r)=(if k=f then (k,v) :: r else (k,x) :: putF f v r) from rfl]
  by_cases hk:k=f
  ·rw [if_pos hk,List.length_cons,List.length_cons];omega
  ·rw [if_neg hk,List.length_cons,List.length_cons];omega
theorem mT.some_of {v:V}{o:Option Value}(r:mT (some v) o):∃ u,o=some u/\aQ v u:=by
 cases o with
 | none=>exact (show False from r).elim
 | some u=>exact ⟨u,rfl,r⟩
theorem mT.none_of {o:Option Value}(r:mT none o):o=none:=by
 cases o with
 | none=>rfl
 | some u=>exact (show False from r).elim
theorem AY {v:V}{u:Value}(r:aQ v u):PySem.W.handedIn u=true:=by
 cases v with
 | non=>cases (show u=Value.none from r);rfl
 | bl b=>cases (show u=Value.bool b from r);rfl
 | int i=>obtain ⟨t,e⟩:=(show ∃ t,u=Value.int i t from r);cases e;rfl
 | str x=>obtain ⟨t,e⟩:=(show ∃ t,u=Value.str x t from r);cases e;rfl
 | byt b=>obtain ⟨t,e⟩:=(show ∃ t,u=Value.bytes b t from r);cases e;rfl
 | flt b=>obtain ⟨t,e⟩:=(show ∃ t,u=Value.float b t from r);cases e;rfl
 | ref a=>cases (show u=Value.ref a from r);rfl
 | ty n=>cases (show u=Value.type n from r);rfl
section
variable {P:Program}{w:World}{H H':Hp}{h h':Heap}{a C dx:Addr}{fs fs':List (Str×V)}
theorem tV (hok:iG P w H h)(e:H a=some (.ins C dx fs)):∃ mA,xX h a dx C mA/\(∀ f,mT (fs.lookup f) (mA f))/\PySem.Within mA (fs.map (·.1))/\fs.length<=1000/\H dx=some (.own a):=by
 obtain ⟨d,z,ne,ob,mA,n,r,q⟩:=(show bY P w H h a (.ins C dx fs) from hok a _ e)
 exact ⟨mA,⟨ob,n,ne⟩,r,q,z,d⟩
end
structure BO (K:PySem.W.Frag)(C:Addr):Prop where
 pg:PySem.W.plainGet K C Str.empty=true
 hd:PySem.W.hasDictIn K C=true
 po:PySem.W.plainOver K C=true
 sa:PySem.W.findIn K (.ref C) "__setattr__" = some (some (.builtin "object.__setattr__"))
theorem BO.get {K:PySem.W.Frag}{C:Addr}(c:BO K C)(f:Str):PySem.W.plainGet K C f=true:=c.pg
noncomputable def gK (K:PySem.W.Frag)(C:Addr)(f:Str):Prop:=PySem.W.findIn K (.ref C) f=some none
theorem gK.taker {K:PySem.W.Frag}{C:Addr}{f:Str}(n:gK K C f):PySem.W.takerIn K C f=some none:=by
 unfold PySem.W.takerIn
 rw [show PySem.W.findIn K (.ref C) f=some none from n]
 rfl
structure HK (K:PySem.W.Frag)(C:Addr)(m:Str)(f:Addr):Prop where
 at_:PySem.W.findIn K (.ref C) m=some (some (.ref f))
 fn:PySem.W.isFn K (.ref f)=true
 kp:PySem.W.keepIn K (.ref f)=true
section
variable {X:Cx}{pins:cZ}{σ:St}{H:Hp}{s:Shared}{a C dx:Addr}{fs:List (Str×V)}{f:Str}{v:V}{A:Around}{E:cY}
theorem xO {b:Bool}{Q:cY}(I:aN X pins σ H s)(e:H a=some (.ins C dx fs))(c:BO X.K C)(n:gK X.K C f)(l:fs.lookup f=some v)
  (h:∀ u s',aN X pins σ H s'->aQ v u->Q u s'):wpAny (model X.prog X.w) A (getAttr (.ref a) f b) Q E s:=by
 obtain ⟨mA,O,r,_,_,_⟩:=tV I.hok e
 obtain ⟨u,hu,ru⟩:=mT.some_of (v:=v) (o:=mA f) (by rw [← l];exact r f)
 exact GW I.kIn O (c.get f) c.hd n hu (AY ru) (h u _ (I.tok _) ru)
theorem qC {m:Str}{g:Addr}{pl:Sem Bool}{Q:Value×cE->Shared->Prop}(I:aN X pins σ H s)(e:H a=some (.ins C dx fs))(c:BO X.K C)(k:HK X.K C m g)(l:fs.lookup m=none)
  (h:Q (.ref g,[.ref a]) s):wpAny (model X.prog X.w) A (getMethod (.ref a) m pl) Q E s:=by
 obtain ⟨mA,O,r,_,_,_⟩:=tV I.hok e
 have hn:mA m=none:=mT.none_of (by rw [← l];exact r m)
 exact D8 I.kIn O (c.get m) k.at_ k.fn hn h
theorem wT {y:V}{u:Value}{Q:Unit->Shared->Prop}(I:aN X pins σ H s)(e:H a=some (.ins C dx fs))(c:BO X.K C)(n:gK X.K C f)(hl:fs.length < 1000)(ry:aQ y u)
  (h:∀ s',aN X pins σ (upd H a (.ins C dx (putF f y fs))) s'->Q () s'):wpAny (model X.prog X.w) A (setAttr (.ref a) f u) Q E s:=by
 obtain ⟨mA,O,r,wi,_,ho⟩:=tV I.hok e
 have hz:(fs.map (·.1)).length<=sizeLine:=by rw [List.length_map,sizeLine_eq];omega
 refine FF I.kIn O c.sa c.po n.taker c.hd wi hz fun h' O' sb=>h _ ?_
 have hd:∃ o,h'.get? dx=some o:=let ⟨o,_,_,e',_⟩:=O'.ns;⟨o,e'⟩
 refine I.write (x:=a) (e:=dx) (by rw [e];exact True.intro) (.inr ho) (fun b q hb z=>(sb.2 b hb).trans z) hd ?_
 refine ⟨by rw [aE O.ne];exact ho,?_,O.ne,O'.obj,_,O'.ns,fun g=>?_,fun g hg=>?_⟩
 ·have:=fF f y fs;omega
 ·show mT ((putF f y fs).lookup g) (if g=f then some u else mA g)
  rw [bW]
  by_cases q:g=f
  ·rw [if_pos q,if_pos q];exact ry
  ·rw [if_neg q,if_neg q];exact r g
 ·by_cases q:g=f
  ·rw [q];exact (nT f y fs).1
  ·refine (nT f y fs).2 g (wi g fun z=>hg ?_)
   show (if g=f then some u else mA g)=none
   rw [if_neg q];exact z
theorem aN.made (I:aN X pins σ H s):aN X pins σ (upd (upd H s.heap.objs.size (.own (s.heap.objs.size + 1))) (s.heap.objs.size + 1) (.ins C s.heap.objs.size []))
  { s with heap:=(s.heap.push PySem.W.emptyDict).push (PySem.W.instObj C s.heap.objs.size) }:=by
 have e1:(s.heap.push PySem.W.emptyDict).get? s.heap.objs.size=some PySem.W.emptyDict:=Heap.get?_push_size s.heap rfl
 have e2:((s.heap.push PySem.W.emptyDict).push (PySem.W.instObj C s.heap.objs.size)).get? (s.heap.objs.size + 1)=some (PySem.W.instObj C s.heap.objs.size):=by
  have:=Heap.get?_push_size (s.heap.push PySem.W.emptyDict) (o:=PySem.W.instObj C s.heap.objs.size) rfl
  rwa [Heap.size_push] at this
 have e3:(s.heap.push PySem.W.emptyDict).Ns s.heap.objs.size (fun _=>none):=⟨PySem.W.emptyDict,#[],_,e1,rfl,(fun e he=>absurd he (by simp)),fun _=>rfl⟩
 have I1:=I.laid (a:=s.heap.objs.size) (o:=.own (s.heap.objs.size + 1)) (h':=s.heap.push PySem.W.emptyDict) (t':=s.toks) (fun b u q=>Heap.get?_push_of_some _ q) (Nat.le_refl _) ⟨_,e1⟩
 refine I1.laid (a:=s.heap.objs.size + 1) (o:=.ins C s.heap.objs.size []) (t':=s.toks) (fun b u q=>Heap.get?_push_of_some _ q) (Nat.le_of_eq (Heap.size_push _ _)) ?_
 have ne:s.heap.objs.size≠s.heap.objs.size + 1:=Nat.ne_of_lt (Nat.lt_succ_self _)
 refine ⟨by rw [aE ne,upd_same],Nat.zero_le _,ne,e2,fun _=>none,(Heap.Ns1.of_empty e3).at fun o q=>Heap.get?_push_of_some _ q,fun _=>True.intro,fun y hy=>absurd rfl hy⟩
theorem G9 {prog:Program}{w:World}{env:Env}{e:Expr}{f:Str}{pos:Pos}{s:Shared}{Q:cY}(hb:attributeBase e f env (eval e env)=eval e env)
  (h:wpAny (model prog w) A (eval e env) (fun o s₁=>wpAny (model prog w) A (getAttr o f true) Q E s₁) E s):wpAny (model prog w) A (eval (.Attribute e f pos) env) Q E s :=
 Attribute_any_ h (by rw [arm_eval_Attribute,hb])
end
noncomputable def tFld (K:PySem.W.Frag)(ta:TE)(f:Str):TE:=fun σ H Q=>ta σ H fun x H1=>∃ a C dx fs v,x = .ref a/\H1 a=some (.ins C dx fs)/\BO K C/\gK K C f/\fs.lookup f=some v/\Q v H1
noncomputable def sFld (K:PySem.W.Frag)(ta tv:TE)(f:Str):TS:=fun D σ H=>tv σ H fun y H1=>ta σ H1 fun x H2=>∃ a C dx fs,x = .ref a/\H2 a=some (.ins C dx fs)/\BO K C/\gK K C f/\fs.length < 1000 /\
 D.nx σ (upd H2 a (.ins C dx (putF f y fs)))
section
variable {X:Cx}{o e value:Expr}{f:Str}{pos pos' tpos:Pos}{ta tv:TE}
theorem CU (he:PE X e ta)(hb:attributeBase e f X.env (eval e X.env)=eval e X.env):PE X (.Attribute e f pos) (tFld X.K ta f):=by
 intro pins s σ H Q I h
 refine G9 hb (thn (he pins s σ H _ I h) fun u s1 ⟨x,H1,I1,rx,a,C,dx,fs,v,ex,ea,c,n,l,q⟩=>?_)
 subst ex
 obtain rfl:u=Value.ref a:=rx
 exact xO I1 ea c n l fun u' s2 I2 ru=>⟨v,H1,I2,ru,q⟩
theorem tF (ha:PE X o ta)(hv:PE X value tv)(hs:swapsWith value (some (.Attribute o f pos')) pos.line X.env=pure false):PS X (.Assign [.Attribute o f pos'] value pos) (sFld X.K ta tv f):=by
 intro pins s σ H D I h
 refine plainObj_wpAny_Assign_Attribute (thn (hv pins s σ H _ I h) fun u s1 ⟨y,H1,I1,ry,q⟩=>thn (ha pins s1 σ H1 _ I1 q) fun ov s2 ⟨x,H2,I2,rx,a,C,dx,fs,ex,ea,c,n,l,q2⟩=>?_) hs
 subst ex
 obtain rfl:ov=Value.ref a:=rx
 exact wT I2 ea c n l ry fun s3 I3=>⟨σ,_,I3,q2⟩
theorem HY {pl:Sem Bool}{m:Str}{apos:Pos}{args:iW}{pins:cZ}{s:Shared}{σ:St}{H:Hp}{Q:cY}{te:TE}(he:PE X e te)(I:aN X pins σ H s)
  (h:te σ H fun x H1=>∃ a C dx fs g,x = .ref a/\H1 a=some (.ins C dx fs)/\BO X.K C/\HK X.K C m g/\fs.lookup m=none /\
   ∀ s1,aN X pins σ H1 s1->wpAny (model X.prog X.w) X.A (callWith pos (.ref g) [.ref a] (backTo pos (starEach args X.env)) (backToKw pos (keywordEach [] X.env))) Q X.xe s1)
  (ht:eval (.Call (.Attribute e m apos) args [] pos) X.env=(do
   let ov ← eval e X.env
   standAt apos.atName
   let (f,first) ← holding [ov] (getMethod ov m pl)
   callWith pos f first (backTo pos (starEach args X.env)) (backToKw pos (keywordEach [] X.env)))) :
  wpAny (model X.prog X.w) X.A (eval (.Call (.Attribute e m apos) args [] pos) X.env) Q X.xe s:=by
 refine PySem.W.methodCall_KW (pl:=pl) (thn (he pins s σ H _ I h) fun u s1 ⟨x,H1,I1,rx,a,C,dx,fs,g,ex,ea,c,k,l,q⟩=>?_) ht
 subst ex
 obtain rfl:u=Value.ref a:=rx
 exact qC I1 ea c k l (q s1 I1)
end
structure fR (k:Nat)(A:Around):Prop where
 hd:A.handled=none
 dp:A.depth + 3 * k + 5 < recursionLimit
 un:A.units + 16 * k + 200 < cLine
theorem fR.mono {j k:Nat}{A:Around}(r:fR k A)(h:j<=k):fR j A:=⟨r.hd,by have:=r.dp;omega,by have:=r.un;omega⟩
theorem fR.deeper {k:Nat}{A:Around}(r:fR (k + 1) A)(env:Env):fR k (A.deeper env) :=
 ⟨r.hd,by have:=r.dp;show A.depth + 1 + 3 * k + 5 < _;omega,by have:=r.un;show A.units + 3 + 16 * k + 200 < _;omega⟩
theorem xG {A:Around}{C:Addr}{us:cE}{kw:List (Str×Value)}:(A.under (.builtin "type.__call__" ⟨.ref C :: us,kw⟩)).depth=A.depth + 1:=by
 first | rfl | simp [Around.under,Code.weight,Code.isCreation,Code.isGuard,Code.isCaller,Code.frames,Code.isFrame,guardIds]
theorem xF {A:Around}{C:Addr}{us:cE}{kw:List (Str×Value)}:(A.under (.builtin "type.__call__" ⟨.ref C :: us,kw⟩)).units=A.units + 1:=by
 first | rfl | simp [Around.under,Code.cUnits,Code.frames,Code.isFrame]
theorem fR.make {k:Nat}{A:Around}(r:fR (k + 1) A)(C:Addr)(us:cE)(kw:List (Str×Value)):fR k (A.under (.builtin "type.__call__" ⟨.ref C :: us,kw⟩)) :=
 ⟨r.hd,by have:=r.dp;rw [xG];omega,by have:=r.un;rw [xF];omega⟩
theorem fR.depth {k:Nat}{A:Around}(r:fR k A):A.depth < recursionLimit:=by have:=r.dp;omega
theorem fR.units {k:Nat}{A:Around}(r:fR k A):A.units + 64 < cLine:=by have:=r.un;omega
noncomputable def tNil:TA:=fun _ H Q=>Q [] H
noncomputable def tCons (ta:TE)(tr:TA):TA:=fun σ H Q=>ta σ H fun x H1=>tr σ H1 fun xs H2=>Q (x :: xs) H2
section
variable {X:Cx}{e:Expr}{es:iW}{te:TE}{t:TA}{pos:Pos}
theorem aB:PA X [] tNil:=fun _ _ _ _ H Q I h=>Calls.spliced_nil ⟨[],H,I,.nil,h⟩
theorem aA (ha:PE X e te)(hr:PA X es t)(hs:starEach (e :: es) X.env=(false,eval e X.env) :: starEach es X.env:=by rfl):PA X (e :: es) (tCons te t):=by
 intro pos pins s σ H Q I h
 rw [hs]
 show wpAny _ _ (spliced ((false,eval e X.env) :: backTo pos (starEach es X.env))) _ _ s
 refine Calls.spliced_cons (thn (ha pins s σ H _ I h) fun u s1 ⟨x,H1,I1,r1,q1⟩=>?_)
 exact thn (hr pos pins s1 σ H1 _ I1 q1) fun us s2 ⟨xs,H2,I2,r2,q2⟩=>⟨x :: xs,H2,I2,.cons r1 r2,q2⟩
noncomputable def tTup (t:TA):TE:=fun σ H Q=>t σ H fun xs H1=>xs.length<=sizeLine/\∀ p,H1 p=none->Q (.ref p) (upd H1 p (.tup xs))
noncomputable def tLst (t:TA):TE:=fun σ H Q=>t σ H fun xs H1=>xs.length<=sizeLine/\∀ p,H1 p=none->Q (.ref p) (upd H1 p (.lst xs))
theorem eB {x1}(h:PA X es t):PE X (.Tuple es x1 pos) (tTup t):=by
 intro pins s σ H Q I hq
 refine wpAny_Tuple_spliced (thn (h pos pins s σ H _ I hq) fun us s1 ⟨xs,H1,I1,r,z,q⟩=>⟨by rw [← r.length];exact z,?_⟩)
 have hf:H1 s1.heap.objs.size=none:=I1.hok.fresh (Nat.le_refl _)
 refine ⟨.ref s1.heap.objs.size,upd H1 s1.heap.objs.size (.tup xs),I1.laid (t':=s1.toks) (fun b u e=>Heap.get?_push_of_some _ e) (Nat.le_refl _) ?_,rfl,q _ hf⟩
 exact ⟨z,us,r,⟨_,Heap.get?_push_size _ rfl,rfl,_,rfl⟩⟩
theorem cJ (h:PA X es t):PE X (.List es pos) (tLst t):=by
 intro pins s σ H Q I hq
 refine wpAny_List_spliced (thn (h pos pins s σ H _ I hq) fun us s1 ⟨xs,H1,I1,r,z,q⟩=>⟨by rw [← r.length];exact z,?_⟩)
 have hf:H1 s1.heap.objs.size=none:=I1.hok.fresh (Nat.le_refl _)
 refine ⟨.ref s1.heap.objs.size,upd H1 s1.heap.objs.size (.lst xs),I1.laid (t':=s1.toks) (fun b u e=>Heap.get?_push_of_some _ e) (Nat.le_refl _) ?_,rfl,q _ hf⟩
 exact ⟨z,us,0,r,Heap.get?_push_size _ rfl⟩
end
noncomputable abbrev Sp:=List V->Hp->VK->XK->Prop
noncomputable abbrev sG:=List Env->Hp->Shared->XK->cY
structure uG (P:Program)(w:World)(K:PySem.W.Frag)(mg:eJ)(base:Heap)(A:Around)(outer:List Env)(s:Shared)(H:Hp):Prop where
 frames:A.frames=some outer
 mod:Mod K mg base
 bs:∀ b o,base.get? b=some o->s.heap.get? b=some o/\H b=none
 bsz:base.objs.size<=s.heap.objs.size
 funs:s.heap.FunFrames base outer
 frf:∀ b ∈ frs outer,H b=none
 hok:iG P w H s.heap
 bare:AllBare s.gens
noncomputable def CE (outer:List Env)(P:Program)(w:World)(H:Hp)(s:Shared)(Q:VK)(u:Value)(s':Shared):Prop :=
 ∃ v H',s'.os=s.os/\AllBare s'.gens/\Un (frs outer) [] H H' s.heap s'.heap/\iG P w H' s'.heap/\aQ v u/\Q v H'
noncomputable def CR (CX:sG)(outer:List Env)(P:Program)(w:World)(H:Hp)(s:Shared)(Q:VK)(E:XK)(r:Result)(s':Shared):Prop :=
 match r with
 | .ok (.ret u)=>CE outer P w H s Q u s'
 | .ok _=>False
 | .error e=>CX outer H s E e s'
structure cF (P:Program)(w:World)(K:PySem.W.Frag)(mg:eJ)(base:Heap)(CX:sG)(k:Nat)(f:Addr)(fd:FuncData)(ps:aW)(sp:Sp):Prop where
 len:∀ vs H Q E,sp vs H Q E->vs.length=ps.length
 run:∀ (A:Around) (outer:List Env) (s:Shared) (H:Hp) (args:Args) (us:cE) (vs:List V) (Q:VK) (E:XK),fR k A->uG P w K mg base A outer s H->BindsTo s fd args (ps.zip us)->aV vs us->sp vs H Q E ->
  codeAny (model P w) A (.call (.ref f) args) (CR CX outer P w H s Q E) s
theorem cF.mono {P:Program}{w:World}{K:PySem.W.Frag}{mg:eJ}{base:Heap}{CX:sG}{j k:Nat}{f:Addr}{fd:FuncData}{ps:aW}{sp:Sp}(F:cF P w K mg base CX j f fd ps sp)(h:j<=k) :
  cF P w K mg base CX k f fd ps sp:=⟨F.len,fun A outer s H args us vs Q E hr=>F.run A outer s H args us vs Q E (hr.mono h)⟩
theorem uG.make {P:Program}{w:World}{K:PySem.W.Frag}{mg:eJ}{base:Heap}{A:Around}{outer:List Env}{s:Shared}{H:Hp}(e:uG P w K mg base A outer s H)(C:Addr)(us:cE)(kw:List (Str×Value)) :
  uG P w K mg base (A.under (.builtin "type.__call__" ⟨.ref C :: us,kw⟩)) outer s H:=⟨by first | exact e.frames | (simpa [Around.under,Code.envs,Code.isFrame,pushEnvs] using e.frames),e.mod,e.bs,e.bsz,e.funs,e.frf,e.hok,e.bare⟩
section
variable {X:Cx}{pins:cZ}{σ:St}{H:Hp}{s s':Shared}
theorem aN.env0 (I:aN X pins σ H s):uG X.prog X.w X.K X.mg X.base X.A X.stack s H :=
 ⟨I.ok.frames,I.ok.mod,I.bs,Nat.le_trans I.ok.bsz I.sz,I.stack,I.stkFree,I.hok,I.bare⟩
theorem aN.after {Q:VK}{u:Value}(I:aN X pins σ H s)(h:CE X.stack X.prog X.w H s Q u s'):EP X pins σ Q u s':=by
 obtain ⟨v,H',os,bare,un,hok,r,q⟩:=h
 obtain ⟨hh,g,d,t,os'⟩:=s'
 obtain rfl:os'=s.os:=os
 exact ⟨v,H',I.call (h':=hh) (g':=g) (d':=d) (t':=t) (ch:=[]) un hok bare (fun b z=>absurd z (by simp)),r,q⟩
end
noncomputable def tCall (sp:Sp)(dvs:List V)(E:XK)(t:TA):TE:=fun σ H Q=>t σ H fun vs H1=>sp (vs ++ dvs) H1 Q E
noncomputable def tMeth (C:Addr)(m:Str)(sp:Sp)(dvs:List V)(E:XK)(ta:TE)(t:TA):TE:=fun σ H Q=>ta σ H fun x H1=>∃ a dx fs,x = .ref a/\H1 a=some (.ins C dx fs)/\fs.lookup m=none /\
 t σ H1 fun vs H2=>sp (x :: (vs ++ dvs)) H2 Q E
noncomputable def tMake (C:Addr)(sp:Sp)(dvs:List V)(E:XK)(t:TA):TE:=fun σ H Q=>t σ H fun vs H1=>∀ x dx,H1 x=none->H1 dx=none->dx≠x ->
 sp (.ref x :: (vs ++ dvs)) (upd (upd H1 dx (.own x)) x (.ins C dx [])) (fun v H2=>v = .non/\Q (.ref x) H2) E
noncomputable def fK (K:PySem.W.Frag)(fd:FuncData)(ps:aW)(ds:cE):Prop :=
 ∀ (s:Shared) (us:cE),K.In s.heap->(us ++ ds).length=ps.length->BindsTo s fd ⟨us,[]⟩ (ps.zip (us ++ ds))
theorem fK.all {K:PySem.W.Frag}{fd:FuncData}{ps:aW}(h:∀ us:cE,us.length=ps.length->bindArgs fd ⟨us,[]⟩=pure (ps.zip us)):fK K fd ps []:=fun s us _ hl=>by
 rw [List.append_nil] at hl ⊢
 exact .of_eq (h us hl)
noncomputable def fY (CX:sG)(X:Cx)(E:XK):Prop:=∀ (pins:cZ) (σ:St) (H:Hp) (s:Shared) (e:Value) (s':Shared),aN X pins σ H s->CX X.stack H s E e s'->X.xe e s'
section
variable {X:Cx}{CX:sG}{k:Nat}{f C:Addr}{fd:FuncData}{ps:aW}{sp:Sp}{dvs:List V}{ds:cE}{E:XK}{x m:Str}{p pos apos:Pos}{e o:Expr}{es:iW}{ta:TE}{t:TA}
theorem CC {pins:cZ}{σ:St}{H:Hp}{s:Shared}{Q:VK}{us:cE}{vs:List V}(F:cF X.prog X.w X.K X.mg X.base CX k f fd ps sp)(hr:fR k X.A)(hb:fK X.K fd ps ds)(hd:aV dvs ds)(hx:fY CX X E)
  (I:aN X pins σ H s) (r:aV vs us) (h:sp (vs ++ dvs) H Q E):wpAny (model X.prog X.w) X.A (call (.ref f) us) (EP X pins σ Q) X.xe s:=by
 have r2:aV (vs ++ dvs) (us ++ ds):=r.append hd
 have hl:(us ++ ds).length=ps.length:=by rw [← r2.length];exact F.len _ _ _ _ h
 refine wpAny_call (codeAny_mono (F.run X.A X.stack s H ⟨us,[]⟩ (us ++ ds) (vs ++ dvs) Q E hr I.env0 (hb s us I.kIn hl) r2 h) fun r s' hq=>?_)
 cases r with
 | error e=>exact hx pins σ H s e s' I hq
 | ok fl =>
  cases fl with
  | ret u=>exact I.after hq
  | next=>exact False.elim hq
  | brk=>exact False.elim hq
  | cont=>exact False.elim hq
theorem FW (F:cF X.prog X.w X.K X.mg X.base CX k f fd ps sp)(hr:fR k X.A)(hg:Gl X x)(hm:X.mg x=some (.ref f))(hk:PySem.W.keepIn X.K (.ref f)=true)(hb:fK X.K fd ps ds)(hd:aV dvs ds)(hx:fY CX X E)
  (ha:PA X (e :: es) t) (hdb:(x == ("__debug__" : Str))=false:=by decide) (he:starEach (e :: es) X.env=(false,eval e X.env) :: starEach es X.env:=by rfl) (hpl:(backTo pos (starEach es X.env)).any (·.1)=false:=by rfl) :
  PE X (.Call (.Name x p) (e :: es) [] pos) (tCall sp dvs E t):=by
 intro pins s σ H Q I h
 refine wpAny_Call_Name_kw (jN I hg hm ?_ hdb)
 refine PySem.W.callWith_K (h₀:=X.base) I.ok.mod.kin hk (thn (ha pos pins s σ H _ I h) fun us s1 ⟨vs,H1,I1,r,q⟩=>⟨I1.kIn,?_⟩) he hpl
 exact CC F hr hb hd hx I1 r q
theorem FS {pl:Sem Bool}(he:PE X o ta)(c:BO X.K C)(hm:HK X.K C m f)(F:cF X.prog X.w X.K X.mg X.base CX k f fd ps sp)(hr:fR k X.A)(hb:fK X.K fd ps ds)(hd:aV dvs ds)(hx:fY CX X E)(ha:PA X (e :: es) t)
  (hst:starEach (e :: es) X.env=(false,eval e X.env) :: starEach es X.env:=by rfl) (hpl:(backTo pos (starEach es X.env)).any (·.1)=false:=by rfl)
  (ht:eval (.Call (.Attribute o m apos) (e :: es) [] pos) X.env=(do
   let ov ← eval o X.env
   standAt apos.atName
   let (f,first) ← holding [ov] (getMethod ov m pl)
   callWith pos f first (backTo pos (starEach (e :: es) X.env)) (backToKw pos (keywordEach [] X.env))):=by rfl) :
  PE X (.Call (.Attribute o m apos) (e :: es) [] pos) (tMeth C m sp dvs E ta t):=by
 intro pins s σ H Q I h
 refine PySem.W.methodCall_KW (pl:=pl) (thn (he pins s σ H _ I h) fun u s1 ⟨x,H1,I1,rx,a,dx,fs,ex,ea,l,q⟩=>?_) ht
 subst ex
 obtain rfl:u=Value.ref a:=rx
 refine qC I1 ea c hm l ?_
 refine PySem.W.callWith_K (first:=[.ref a]) (h₀:=X.base) I.ok.mod.kin hm.kp (thn (ha pos pins s1 σ H1 _ I1 q) fun us s2 ⟨vs,H2,I2,r,q2⟩=>⟨I2.kIn,?_⟩) hst hpl
 exact CC (us:=.ref a :: us) (vs:=.ref a :: vs) F hr hb hd hx I2 (.cons rfl r) q2
structure Mk (K:PySem.W.Frag)(C f:Addr):Prop where
 makes:PySem.W.makesIn K C=true
 init:PySem.W.findIn K (.ref C) "__init__" = some (some (.ref f))
 fn:PySem.W.isFn K (.ref f)=true
 kp:PySem.W.keepIn K (.ref C)=true
theorem CB {pins:cZ}{σ:St}{H:Hp}{s:Shared}{Q:VK}{us:cE}{vs:List V}(M:Mk X.K C f)(F:cF X.prog X.w X.K X.mg X.base CX k f fd ps sp)(hr:fR (k + 1) X.A)(hb:fK X.K fd ps ds)(hd:aV dvs ds)
  (hx:fY CX X E) (I:aN X pins σ H s) (r:aV vs us)
  (h:∀ x dx,H x=none->H dx=none->dx≠x->sp (.ref x :: (vs ++ dvs)) (upd (upd H dx (.own x)) x (.ins C dx [])) (fun v H2=>v = .non/\Q (.ref x) H2) E) :
  wpAny (model X.prog X.w) X.A (call (.ref C) us) (EP X pins σ Q) X.xe s:=by
 have hq:=h (s.heap.objs.size + 1) s.heap.objs.size (I.hok.fresh (Nat.le_succ _)) (I.hok.fresh (Nat.le_refl _)) (Nat.ne_of_lt (Nat.lt_succ_self _))
 have I2:=aN.made (C:=C) I
 have r2:aV (V.ref (s.heap.objs.size + 1) :: (vs ++ dvs)) (Value.ref (s.heap.objs.size + 1) :: (us ++ ds)):=.cons rfl (r.append hd)
 have hl:(Value.ref (s.heap.objs.size + 1) :: us ++ ds).length=ps.length:=by
  have e:=r2.length
  rw [F.len _ _ _ _ hq] at e
  exact e.symm
 refine wpAny_call (DY (f:=f) I.kIn M.makes M.init (beq_iff_eq.mp M.fn) (codeAny_mono (F.run _ X.stack _ _ ⟨Value.ref (s.heap.objs.size + 1) :: us,[]⟩ (Value.ref (s.heap.objs.size + 1) :: (us ++ ds)) _ _ E (hr.make C us [])
  (I2.env0.make C us []) (hb _ (Value.ref (s.heap.objs.size + 1) :: us) I2.kIn hl) r2 hq) fun r s' hq'=>?_))
 cases r with
 | error e=>exact hx pins σ _ _ e s' I2 hq'
 | ok fl =>
  cases fl with
  | ret u =>
   obtain ⟨v,H',I3,rv,ev,q3⟩:=I2.after hq'
   subst ev
   exact ⟨rv,⟨V.ref (s.heap.objs.size + 1),H',I3,rfl,q3⟩⟩
  | next=>exact False.elim hq'
  | brk=>exact False.elim hq'
  | cont=>exact False.elim hq'
theorem FT (M:Mk X.K C f)(F:cF X.prog X.w X.K X.mg X.base CX k f fd ps sp)(hr:fR (k + 1) X.A)(hg:Gl X x)(hm:X.mg x=some (.ref C))(hb:fK X.K fd ps ds)(hd:aV dvs ds)(hx:fY CX X E)
  (ha:PA X (e :: es) t) (hdb:(x == ("__debug__" : Str))=false:=by decide) (he:starEach (e :: es) X.env=(false,eval e X.env) :: starEach es X.env:=by rfl) (hpl:(backTo pos (starEach es X.env)).any (·.1)=false:=by rfl) :
  PE X (.Call (.Name x p) (e :: es) [] pos) (tMake C sp dvs E t):=by
 intro pins s σ H Q I h
 refine wpAny_Call_Name_kw (jN I hg hm ?_ hdb)
 refine PySem.W.callWith_K (h₀:=X.base) I.ok.mod.kin M.kp (thn (ha pos pins s σ H _ I h) fun us s1 ⟨vs,H1,I1,r,q⟩=>⟨I1.kIn,?_⟩) he hpl
 exact CB M F hr hb hd hx I1 r q
end
section
variable {X:Cx}{CX:sG}{k:Nat}{f C:Addr}{fd:FuncData}{ps ks:aW}{sp:Sp}{E:XK}{x m:Str}{p pos apos kpos:Pos}{e o:Expr}{es:iW}{kws:List Keyword}{te ta:TE}{t tk:TA}{nm:Option Str}
variable {g:cE->cE->cE}{gV:List V->List V->List V}
end
structure aZ (N P:aW)(sc:Scope):Prop where
 kind:sc.kind = .function
 co:sc.isCoroutine=false
 gen:sc.isGenerator=false
 nd:N.Nodup
 pre:N.take P.length=P
 par:∀ x ∈ P,sc.names.lookup x=some .local∨sc.names.lookup x=some .cell
 nofree:∀ y ∈ sc.names,y.2≠.free
theorem rZ {kindOf:Str->Option NameKind}{x:Str}:∀ {binds:List (Str×Value)} {m:eJ},(∀ v,(x,v) ∉ binds)->bindL kindOf binds m x=m x
 | [],_,_=>rfl
 | (n,v) :: r,m,h=>by
  unfold bindL
  rw [rZ fun w hw=>h w (List.mem_cons_of_mem _ hw)]
  split
  ·have:x≠n:=by rintro rfl;exact h v List.mem_cons_self
   simp [this]
  ·rfl
theorem r8 {kindOf:Str->Option NameKind}{x:Str}:∀ {binds:List (Str×Value)} {m:eJ},(∀ v,(x,v) ∉ binds)->bindC kindOf binds m x=m x
 | [],_,_=>rfl
 | (n,v) :: r,m,h=>by
  unfold bindC
  rw [r8 fun w hw=>h w (List.mem_cons_of_mem _ hw)]
  split
  ·rfl
  ·have:x≠n:=by rintro rfl;exact h v List.mem_cons_self
   simp [this]
theorem r6 {kindOf:Str->Option NameKind}{x:Str}{v:Value}:∀ {P:aW} {vs:cE} {i:Nat} {m:eJ},P.Nodup->P[i]?=some x->vs[i]?=some v->kindOf x=some .local ->
  bindL kindOf (P.zip vs) m x=some v
 | [],_,_,_,_,h,_,_=>by simp at h
 | _ :: _,[],_,_,_,_,h,_=>by simp at h
 | p :: P,w :: vs,0,m,nd,h1,h2,hk=>by
  simp at h1 h2;subst h1;subst h2
  show bindL kindOf ((p,w) :: P.zip vs) m p=_
  unfold bindL
  rw [rZ fun v hv=>(List.nodup_cons.mp nd).1 (List.of_mem_zip hv).1,if_pos hk]
  simp
 | p :: P,w :: vs,i + 1,m,nd,h1,h2,hk=>by
  show bindL kindOf ((p,w) :: P.zip vs) m x=_
  unfold bindL
  exact r6 (i:=i) (List.nodup_cons.mp nd).2 (by simpa using h1) (by simpa using h2) hk
theorem sA {kindOf:Str->Option NameKind}{x:Str}{v:Value}:∀ {P:aW} {vs:cE} {i:Nat} {m:eJ},P.Nodup->P[i]?=some x->vs[i]?=some v->kindOf x≠some .local ->
  bindC kindOf (P.zip vs) m x=some v
 | [],_,_,_,_,h,_,_=>by simp at h
 | _ :: _,[],_,_,_,_,h,_=>by simp at h
 | p :: P,w :: vs,0,m,nd,h1,h2,hk=>by
  simp at h1 h2;subst h1;subst h2
  show bindC kindOf ((p,w) :: P.zip vs) m p=_
  unfold bindC
  rw [r8 fun v hv=>(List.nodup_cons.mp nd).1 (List.of_mem_zip hv).1,if_neg hk]
  simp
 | p :: P,w :: vs,i + 1,m,nd,h1,h2,hk=>by
  show bindC kindOf ((p,w) :: P.zip vs) m x=_
  unfold bindC
  exact sA (i:=i) (List.nodup_cons.mp nd).2 (by simpa using h1) (by simpa using h2) hk
noncomputable def start (N:aW)(vs:List V):St:=vs.map some ++ List.replicate (N.length - vs.length) none
noncomputable def cxOf (CX:sG)(P:Program)(w:World)(K:PySem.W.Frag)(mg:eJ)(base:Heap)(N:aW)(qual:Str)(scope:Scope)(f:Addr)(cd:Value)(A:Around)(outer:List Env)(s:Shared)(H:Hp)(E:XK):Cx where
 prog:=P
 w:=w
 K:=K
 mg:=mg
 base:=base
 A:=A.deeper (envOfC qual scope s.heap.objs.size f cd)
 N:=N
 s₀:=s
 H₀:=H
 env:=envOfC qual scope s.heap.objs.size f cd
 outer:=outer
 stack:=envOfC qual scope s.heap.objs.size f cd :: outer
 ex:=[]
 calm:=true
 fn:=fun _=>true
 pn:=[]
 xe:=fun e s'=>wpAny (model P w) (A.deeper (envOfC qual scope s.heap.objs.size f cd)) (leaving (envOfC qual scope s.heap.objs.size f cd) e) (fun _ s''=>CX outer H s E e s'') (fun e' s''=>CX outer H s E e' s'') s'
theorem vQ {sc:Scope}{n:Nat}{x:Str}(h:sc.names.lookup x=some .cell):∃ c,(cellsFrom n sc.names []).lookup x=some c:=by
 have q:=PySem.W.cellsFrom_some sc.names n [] (.inl h)
 exact Option.isSome_iff_exists.mp q
theorem rL {CX:sG}{P:Program}{w:World}{K:PySem.W.Frag}{mg:eJ}{base:Heap}{N ps:aW}{qual:Str}{scope:Scope}{f:Addr}{cd:Value}{A:Around}{outer:List Env}{s s1:Shared}{H:Hp}{E:XK}{us:cE}{vs:List V}
  (S:aZ N ps scope) (hd:A.handled=none) (e0:uG P w K mg base A outer s H) (hl:vs.length=ps.length) (r:aV vs us)
  (x:InCallC s s.heap.objs.size (bindL (envOfC qual scope s.heap.objs.size f cd).kindOf (ps.zip us) fun _=>none) (cellsFrom (s.heap.objs.size + 1) scope.names []) (bindC (envOfC qual scope s.heap.objs.size f cd).kindOf (ps.zip us) fun _=>none) s1) :
  aN (cxOf CX P w K mg base N qual scope f cd A outer s H E) [] (start N vs) H s1:=by
 have hpl:ps.length<=N.length:=by have:=congrArg List.length S.pre;rw [List.length_take] at this;omega
 obtain ⟨h1,tk,rfl,hk⟩:=x.done
 have noA:∀ b:Addr,b ∉ (cxOf CX P w K mg base N qual scope f cd A outer s H E).ex:=fun b z=>absurd (show b ∈ ([]:List Addr) from z) (by simp)
 refine ⟨⟨e0.mod,S.kind,rfl,rfl,Nat.le_refl _,fun y z c h1 h2=>?_,fun y hy=>?_,fun y c _ h=>?_,fun _=>hd,Around.frames_deeper e0.frames,.inr ⟨rfl,rfl⟩,fun b z=>absurd z (noA b),e0.bs,e0.bsz,fun b _ _=>noA b,fun b z=>absurd z (noA b),e0.funs,e0.frf⟩,
  rfl,e0.bare,Un.kept hk,⟨_,x.toInCall.ns,fun i y v h1 h2 h3=>?_⟩,fun y c h=>⟨_,x.cell y c h⟩,e0.hok.fresh (Nat.le_refl _),fun y c h=>?_,fun p hp=>absurd (show p ∈ ([]:cZ) from hp) (by simp),e0.hok.kept hk,?_⟩
 ·exact name_of_addr x.apart (PySem.mem_of_lookup h1) (PySem.mem_of_lookup h2)
 ·have hy:scope.names.lookup y=some .cell∨scope.names.lookup y=some .free:=hy
  rcases hy with hy | hy
  ·exact vQ hy
  ·exact absurd rfl (S.nofree _ (PySem.mem_of_lookup hy))
 ·exact Nat.le_of_lt (x.above y c (PySem.mem_of_lookup h))
 ·have hi:i < vs.length:=by
   unfold start at h2
   by_cases hi:i < vs.length
   ·exact hi
   ·rw [List.getElem?_append_right (by simpa using hi)] at h2
    rw [List.getElem?_replicate] at h2
    split at h2 <;> cases h2
  have ha:vs[i]?=some v:=by
   unfold start at h2
   rw [List.getElem?_append_left (by simpa using hi),List.getElem?_map] at h2
   cases e:vs[i]? with
   | none=>rw [e] at h2;cases h2
   | some a=>rw [e] at h2;cases h2;rfl
  obtain ⟨u,hu,rv⟩:=r.get ha
  have hp:ps[i]?=some y:=by
   rw [← S.pre,List.getElem?_take_of_lt (by omega)];exact h1
  have ndP:ps.Nodup:=by rw [← S.pre];exact S.nd.sublist (List.take_sublist _ _)
  refine ⟨u,rv,?_⟩
  rcases S.par y (List.mem_of_getElem? hp) with k | k
  ·exact .inl ⟨k,r6 ndP hp hu k⟩
  ·obtain ⟨c,e⟩:=vQ (n:=s.heap.objs.size + 1) k
   refine .inr ⟨.inl k,c,e,?_⟩
   have q:=x.cell y c e
   rw [sA ndP hp hu (by show scope.names.lookup y≠_;rw [k];decide)] at q
   exact q
 ·exact e0.hok.fresh (Nat.le_of_lt (x.above y c (PySem.mem_of_lookup h)))
 ·unfold start
  show _=N.length
  rw [List.length_append,List.length_map,List.length_replicate]
  omega
theorem IA {CX:sG}{P:Program}{w:World}{K:PySem.W.Frag}{mg:eJ}{base:Heap}{k:Nat}{f:Addr}{name qual:Str}{params:Arguments}{body:List Stmt}{scope:Scope}{dV kV doc pm cdv ct oc:Value}{an od:Option Addr}
  {osl:Array (Option Value)} {N ps:aW} {sp:Sp} (lk:K.lookup f=some ⟨oc,od,.func (PySem.W.fnOf name qual params body scope dV kV doc pm an cdv ct),osl⟩) (hcd:PySem.W.codeIn K cdv qual=true) (S:aZ N ps scope)
  (len:∀ vs H Q E,sp vs H Q E->vs.length=ps.length)
  (hbody:∀ (A:Around) (outer:List Env) (s:Shared) (H:Hp) (vs:List V) (Q:VK) (E:XK),fR k (A.deeper (envOfC qual scope s.heap.objs.size f cdv))->sp vs H Q E ->
   ∃ t,oH (cxOf CX P w K mg base N qual scope f cdv A outer s H E) body t/\t { nx:=fun _ H'=>Q .non H',rt:=Q } (start N vs) H) :
  cF P w K mg base CX (k + 1) f (PySem.W.fnOf name qual params body scope dV kV doc pm an cdv ct) ps sp:=by
 refine ⟨len,fun A outer s H args us vs Q E hr e0 hb r hsp=>?_⟩
 have hl:=len _ _ _ _ hsp
 have KX:K.In s.heap:=e0.mod.kin.keeps fun b o e=>(e0.bs b o e).1
 have lim:s.heap.NoLimit:=e0.mod.nolimit.keeps fun b o e=>(e0.bs b o e).1
 have hkind:∀ y ∈ ps.zip us,scope.names.lookup y.1=some .local∨(scope.names.lookup y.1=some .cell/\((cellsFrom (s.heap.objs.size + 1) scope.names []).lookup y.1).isSome=true):=fun ⟨n,v⟩ hy=>by
  rcases S.par n (List.of_mem_zip hy).1 with q | q
  ·exact .inl q
  ·exact .inr ⟨q,PySem.W.cellsFrom_some _ _ _ (.inl q)⟩
 refine codeAny_call_function hr.depth (KX _ _ lk) rfl S.co S.gen rfl (PySem.W.codeRec_of KX hcd) (hb _ _ _ _ ?_)
 refine wpAny_newFunctionEnv_cells S.kind hkind fun env he s1 x=>?_
 subst he
 refine ⟨lim.keeps x.toInCall.keep,codeAny_func ?_⟩
 obtain ⟨t,ht,hq⟩:=hbody A outer s H vs Q E (hr.deeper _) hsp
 have I:aN (cxOf CX P w K mg base N qual scope f cdv A outer s H E) [] (start N vs) H s1:=rL S hr.hd e0 hl r x
 refine wpAny_mono (ht [] s1 (start N vs) H _ I hq) (fun fl s' hs=>?_) fun e s' hs=>hs
 have fin:∀ {σ':St} {H':Hp} {v:V} {u:Value},aN (cxOf CX P w K mg base N qual scope f cdv A outer s H E) [] σ' H' s'->aQ v u->Q v H'->CE outer P w H s Q u s' :=
  fun {σ' H' v u} J rv q=>⟨v,H',J.os,J.bare,J.base,J.hok,rv,q⟩
 cases fl with
 | ret u =>
  obtain ⟨v,σ',H',J,rv,q⟩:=hs
  exact fin J rv q
 | next =>
  obtain ⟨σ',H',J,q⟩:=hs
  exact fin (v:=V.non) (u:=Value.none) J rfl q
 | brk =>
  obtain ⟨_,_,_,q⟩:=hs
  exact False.elim q
 | cont =>
  obtain ⟨_,_,_,q⟩:=hs
  exact False.elim q
section
variable {X:Cx}{x:Str}{p pos:Pos}{e:Expr}{es:iW}{t:TA}{id T:String}{r:List V->Hp->VK->Prop}
noncomputable def tCB (r:List V->Hp->VK->Prop)(t:TA):TE:=fun σ H Q=>t σ H fun vs H1=>r vs H1 Q
theorem aK (hc:cS X (.builtin id) r)(hg:Gl X x)(hm:X.mg x=none)(hv:bootBuiltins x=some (.builtin id))(ha:PA X (e :: es) t)(hn:x≠"__name__":=by decide)(hdb:(x == ("__debug__" : Str))=false:=by decide)
  (he:starEach (e :: es) X.env=(false,eval e X.env) :: starEach es X.env:=by rfl) (hpl:(backTo pos (starEach es X.env)).any (·.1)=false:=by rfl):PE X (.Call (.Name x p) (e :: es) [] pos) (tCB r t):=by
 intro pins s σ H Q I h
 refine wpAny_Call_Name_kw (pY I hg hm hv ?_ hn hdb)
 exact PyProof.Rows.callWith_builtin1 (thn (ha pos pins s σ H _ I h) fun us s1 ⟨vs,H1,I1,r1,q1⟩=>hc pins s1 σ H1 vs us Q I1 r1 q1) he hpl
theorem d9 (hc:cS X (.type T) r)(hg:Gl X x)(hm:X.mg x=none)(hv:bootBuiltins x=some (.type T))(ha:PA X (e :: es) t)(hn:x≠"__name__":=by decide)(hdb:(x == ("__debug__" : Str))=false:=by decide)
  (he:starEach (e :: es) X.env=(false,eval e X.env) :: starEach es X.env:=by rfl) (hpl:(backTo pos (starEach es X.env)).any (·.1)=false:=by rfl):PE X (.Call (.Name x p) (e :: es) [] pos) (tCB r t):=by
 intro pins s σ H Q I h
 refine wpAny_Call_Name_kw (pY I hg hm hv ?_ hn hdb)
 exact PyProof.Rows.callWith_type1 (thn (ha pos pins s σ H _ I h) fun us s1 ⟨vs,H1,I1,r1,q1⟩=>hc pins s1 σ H1 vs us Q I1 r1 q1) he hpl
end
end L2
namespace HT
open PySem PyProof.Rows
noncomputable def lexLt:List Int->List Int->Bool
 | [],[]=>false
 | [],_ :: _=>true
 | _ :: _,[]=>false
 | x :: xs,y :: ys=>if x=y then lexLt xs ys else decide (x < y)
theorem lexLt_cons (x y:Int)(xs ys:List Int):lexLt (x :: xs) (y :: ys)=if x=y then lexLt xs ys else decide (x < y):=rfl
theorem eqAt_int (A:Around)(s:Shared)(a:Int)(t:Tok)(c:Int)(u:Tok):∃ e,SeqAt.EqAt A s (.int a t) (.int c u) e/\(e=true ↔ a=c) :=
 ⟨(a == c),SeqAt.EqAt.int_int a t c u,by simp⟩
theorem rcLt_int (A:Around)(s:Shared)(a:Int)(t:Tok)(c:Int)(u:Tok)(prog:Program)(w:World)(E:cY)(Q:cY)(h:Q (.bool (decide (a < c))) s) :
  wpAny (model prog w) A (richCompare .Lt (.int a t) (.int c u)) Q E s :=
 (PyProof.Rows.lt_int h:wpAny (model prog w) A (compareOp .Lt (.int a t) (.int c u)) Q E s)
section
open PySem.SeqAt
open PySem.AutoSeq1 (wpAny_loadPart')
open PySem.MeetsSeq PySem.MeetsSeq2 PySem.MeetsSeq3
end
section
variable {prog:Program}{w:World}{A:Around}{E:cY}{s:Shared}
theorem cat_tup {t b:Addr}{vs ws:cE}{Q:cY}(ht:IsTup s.heap t vs.toArray)(hb:IsTup s.heap b ws.toArray)(hv:vs≠[])
  (h1:ws=[]->Q (.ref t) s) (h2:ws≠[]->Q (.ref s.heap.objs.size) { s with heap:=s.heap.push { cls:=.type "tuple",data:=.seq (vs ++ ws).toArray } })
  (hsz:vs.length + ws.length<=sizeLine):wpAny (model prog w) A (binaryOp .Add (.ref t) (.ref b)) Q E s:=by
 obtain ⟨⟨cls,dd,data,sl⟩,ho,hc,n,hd⟩:=id ht
 obtain ⟨⟨cls2,dd2,data2,sl2⟩,ho2,hc2,n2,hd2⟩:=id hb
 simp only at hc hd hc2 hd2
 subst hc hd hc2 hd2
 have e:vs.toArray ++ ws.toArray=(vs ++ ws).toArray:=by simp
 by_cases hw:ws=[]
 ·exact concat_meets ⟨_,ho,rfl⟩ ⟨_,ho2,rfl⟩ noFill_tuple_add seq_tuple_add PySem.F.slot_tuple_add PySem.F.entry_tuple_add (PySem.F.args_tuple_add_2 _ _)
   (tuple_addW1 t b vs.toArray ws.toArray n n2 dd dd2 sl sl2 (by simpa using hv) (by simp [hw])) ⟨ho,ho2,h1 hw⟩
 ·refine concat_meets ⟨_,ho,rfl⟩ ⟨_,ho2,rfl⟩ noFill_tuple_add seq_tuple_add PySem.F.slot_tuple_add PySem.F.entry_tuple_add (PySem.F.args_tuple_add_2 _ _)
   (tuple_addW2 t b vs.toArray ws.toArray n n2 dd dd2 sl sl2 (by simpa using hv) (by simpa using hw) (by rw [List.size_toArray,List.size_toArray];exact hsz)) ⟨ho,ho2,?_⟩
  rw [e]
  exact h2 hw
noncomputable def sIx (n d:Nat):Option Int->Nat
 | none=>d
 | some v=>if v < 0 then (v + (n:Int)).toNat else min v.toNat n
theorem sIx_none (n d:Nat):sIx n d none=d:=rfl
theorem sIx_nat (n d k:Nat):sIx n d (some (k:Int))=min k n:=by
 show (if (k:Int) < 0 then ((k:Int) + (n:Int)).toNat else min (k:Int).toNat n)=min k n
 rw [if_neg (by omega),Int.toNat_natCast]
theorem JB (n d:Nat)(hd:d<=n)(o:Option Int):sIx n d o<=n:=by
 cases o with
 | none=>exact hd
 | some v =>
  show (if v < 0 then (v + (n:Int)).toNat else min v.toNat n)<=n
  by_cases hv:v < 0
  ·rw [if_pos hv];omega
  ·rw [if_neg hv];exact Nat.min_le_right _ _
theorem zO (v:Int)(n d:Nat):(if v < 0 then max (v + (n:Int)) 0 else min v (n:Int))=((sIx n d (some v):Nat):Int):=by
 show (if v < 0 then max (v + (n:Int)) 0 else min v (n:Int))=(((if v < 0 then (v + (n:Int)).toNat else min v.toNat n):Nat):Int)
 by_cases hv:v < 0
 ·simp only [if_pos hv];omega
 ·simp only [if_neg hv];omega
theorem xV (lo hi:Option Int)(n:Nat):Builtin.Slice.sliceAdjust lo hi 1 (n:Int)=(((sIx n 0 lo:Nat):Int),((sIx n n hi:Nat):Int)):=by
 have h1:¬ ((1:Int) < 0):=by omega
 unfold Builtin.Slice.sliceAdjust
 simp only [h1,if_false]
 refine Prod.ext ?_ ?_
 ·cases lo with
  | none=>rfl
  | some v=>exact zO v n 0
 ·cases hi with
  | none=>rfl
  | some v=>exact zO v n n
theorem w4 (i j:Nat):Builtin.Slice.slicePlaces (i:Int) (j:Int) 1=j - i:=by
 unfold Builtin.Slice.slicePlaces
 have h1:(1:Int) > 0:=by omega
 simp only [h1,if_true,Int.ediv_one]
 split <;> omega
theorem slicePart_ {v:Value}{o:Option Int}{Q:Option Int->Shared->Prop}(p:IsPart v o)(h:Q o s):wpAny (model prog w) A (Builtin.Slice.slicePartIndex v) Q E s:=by
 cases p with
 | none=>exact slicePart_none h
 | int i t=>exact slicePart_int h
theorem nJ {sl:Addr}{vl vu:Value}{lo hi:Option Int}{n:Nat}{Q:Int×Int×Nat->Shared->Prop}(hs:s.heap.IsSliceOf sl vl vu .none)(pl:IsPart vl lo)(pu:IsPart vu hi)
  (h:Q (((sIx n 0 lo:Nat):Int),1,sIx n n hi - sIx n 0 lo) s):wpAny (model prog w) A (Builtin.Slice.sliceApplied (.ref sl) (pure (n:Int))) Q E s:=by
 obtain ⟨os,hos,hcs,hds⟩:=id hs
 unfold Builtin.Slice.sliceApplied Builtin.Slice.sliceFields
 refine wpAny_bind (wpAny_bind (wpAny_field hos hds (x:=vl) rfl (wpAny_bind (wpAny_field hos hds (x:=vu) rfl (wpAny_bind (wpAny_field hos hds (x:=.none) rfl (wpAny_pure ?_)))))))
 refine wpAny_bind (slicePart_none ?_)
 show wpAny _ _ (if ((1:Int) == 0)=true then _ else _) _ _ s
 rw [if_neg (by decide)]
 refine wpAny_bind (slicePart_ pl (wpAny_bind (slicePart_ pu (wpAny_bind (wpAny_pure ?_)))))
 show wpAny _ _ (match Builtin.Slice.sliceAdjust lo hi 1 (n:Int) with | (lo,hi)=>pure (lo,(1:Int),Builtin.Slice.slicePlaces lo hi 1)) _ _ s
 rw [xV lo hi n]
 show wpAny _ _ (pure (((sIx n 0 lo:Nat):Int),(1:Int),Builtin.Slice.slicePlaces ((sIx n 0 lo:Nat):Int) ((sIx n n hi:Nat):Int) 1)) _ _ s
 rw [w4]
 exact wpAny_pure h
theorem CP (xs:uH)(i k:Nat):((List.range k).filterMap fun (m:Nat)=>xs[((i:Int) + (m:Int) * 1).toNat]?).toArray=((xs.toList.drop i).take k).toArray:=by
 have e:(fun (m:Nat)=>xs[((i:Int) + (m:Int) * 1).toNat]?)=fun m=>xs[i + m]?:=by
  funext m
  have:((i:Int) + (m:Int) * 1).toNat=i + m:=by omega
  rw [this]
 rw [e]
 have:=pick_run xs i k
 rw [List.filterMap_map] at this
 have e2:((fun x=>xs[x]?) ∘ fun x=>i + x)=fun m=>xs[i + m]?:=rfl
 rw [e2] at this
 rw [this]
theorem getItem_tuple_cut {t sl:Addr}{items:uH}{vl vu:Value}{lo hi:Option Int}{Q:cY}(ht:IsTup s.heap t items)(hs:s.heap.IsSliceOf sl vl vu .none)(pl:IsPart vl lo)(pu:IsPart vu hi)
  (hw:¬ (sIx items.size 0 lo=0/\sIx items.size items.size hi=items.size))
  (h:Q (.ref s.heap.objs.size) { s with heap:=s.heap.push { cls:=.type "tuple",data:=.seq ((items.toList.drop (sIx items.size 0 lo)).take (sIx items.size items.size hi - sIx items.size 0 lo)).toArray } })
  (hsz:items.size<=sizeLine):wpAny (model prog w) A (getItem (.ref t) (.ref sl)) Q E s:=by
 have htake:sizeOk (.seq ((items.toList.drop (sIx items.size 0 lo)).take (sIx items.size items.size hi - sIx items.size 0 lo)).toArray):=by
  show ((items.toList.drop (sIx items.size 0 lo)).take (sIx items.size items.size hi - sIx items.size 0 lo)).toArray.size<=sizeLine
  rw [List.size_toArray,List.length_take,List.length_drop,Array.length_toList]
  omega
 have hj:sIx items.size items.size hi<=items.size:=JB _ _ (Nat.le_refl _) hi
 obtain ⟨os,hos,hcs,hds⟩:=id hs
 have hTs:s.TypeIs (.ref sl) "slice":=⟨os,hos,hcs⟩
 unfold getItem
 try with_reducible refine wpAny_holding ?_
 first | refine wpAny_bind (wpAny_pure ?_) | skip
 refine wpAny_bind (wpAny_sequenceKey ht.typeIs (by decide) ?_)
 refine wpAny_bind (wpAny_callSpecial?_slot (name:=Str.ofString "__getitem__") ht.typeIs PyProof.Rows.slot_tuple_getitem
  (wpAny_call_entry PyProof.Rows.slot_tuple_getitem ht.typeIs entry_tuple_getitem ?_ (args_tuple_getitem _ _)))
 show wpAny _ _ (Builtin.Tuple.tupleItemsOf (.ref t) >>= _) _ _ s
 refine wpAny_bind (tupleItemsOf_ ht ?_)
 refine wpAny_bind (wpAny_typeOf hTs ?_)
 rw [if_pos (by decide)]
 refine wpAny_bind (nJ hs pl pu ?_)
 have hno:¬ ((((sIx items.size 0 lo:Nat):Int) == 0 && (1:Int) == 1 && (sIx items.size items.size hi - sIx items.size 0 lo) == items.size)=true):=by
  intro q
  rw [Bool.and_eq_true,Bool.and_eq_true] at q
  have q1:((sIx items.size 0 lo:Nat):Int)=0:=eq_of_beq q.1.1
  have q2:sIx items.size items.size hi - sIx items.size 0 lo=items.size:=eq_of_beq q.2
  exact hw ⟨by omega,by omega⟩
 show wpAny _ _ (if (((sIx items.size 0 lo:Nat):Int) == 0 && (1:Int) == 1 && (sIx items.size items.size hi - sIx items.size 0 lo) == items.size)=true then _ else _) _ _ s
 rw [if_neg hno,CP]
 first
  | exact wpAny_bind (m:=Builtin.Tuple.tupleExact _) (wpAny_newObj_type (wpAny_pure ⟨_,rfl,wpAny_pure h⟩) htake)
  | exact wpAny_bind (m:=Builtin.Tuple.tupleExact _) (wpAny_newObj_type (wpAny_bind (wpAny_pure (wpAny_pure ⟨_,rfl,wpAny_pure h⟩))) htake)
  | exact wpAny_bind (wpAny_bind (m:=Builtin.Tuple.tupleExact _) (wpAny_newObj_type (wpAny_pure (wpAny_pure ⟨_,rfl,wpAny_pure h⟩)) htake))
  | exact wpAny_bind (wpAny_bind (m:=Builtin.Tuple.tupleExact _) (wpAny_newObj_type (wpAny_pure ⟨_,rfl,wpAny_pure h⟩) htake))
end
end HT
namespace L2
open PySem PySem.Spec PyProof.Rows
noncomputable abbrev TO:=St->Hp->(Option Int->Hp->Prop)->Prop
noncomputable def PO (X:Cx)(e:Option Expr)(t:TO):Prop :=
 ∀ (pins:cZ) (s:Shared) (σ:St) (H:Hp) (Q:Option Int->Hp->Prop),aN X pins σ H s->t σ H Q ->
  wpAny (model X.prog X.w) X.A (evalPart e X.env) (fun u s'=>∃ o H',aN X pins σ H' s'/\IsPart u o/\Q o H') X.xe s
noncomputable def tNoPart:TO:=fun _ H Q=>Q none H
noncomputable def tPart (t:TE):TO:=fun σ H Q=>t σ H fun x H1=>∃ i,x = .int i/\Q (some i) H1
theorem qA {ns:List Int}:∀ {us:cE},aV (ns.map V.int) us->IntsAre us ns:=by
 induction ns with
 | nil=>intro us r;rw [List.map_nil] at r;cases r;exact .nil
 | cons n ns ih =>
  intro us r
  rw [List.map_cons] at r
  cases r with
  | cons r1 r2 =>
   obtain ⟨t,e⟩:=r1
   subst e
   exact .cons n t (ih r2)
section
variable {X:Cx}{e:Expr}{te:TE}{lo hi:Option Expr}{tl th:TO}{pos p2:Pos}
theorem cX:PO X none tNoPart:=by
 intro pins s σ H Q I h
 rw [evalPart_none]
 exact wpAny_pure ⟨none,H,I,.none,h⟩
theorem bK (h:PE X e te):PO X (some e) (tPart te):=by
 intro pins s σ H Q I hw
 rw [evalPart_some]
 refine thn (h pins s σ H _ I hw) fun u s1 ⟨x,H1,I1,r1,q1⟩=>?_
 obtain ⟨i,rfl,q⟩:=q1
 obtain ⟨t,rfl⟩:=r1
 exact ⟨some i,H1,I1,.int i t,q⟩
noncomputable def KW (X:Cx)(r:V->Option Int->Option Int->Hp->VK->Prop):Prop :=
 ∀ (pins:cZ) (s:Shared) (σ:St) (H:Hp) (x:V) (v vl vu:Value) (lo hi:Option Int) (sl:Addr) (Q:VK),aN X pins σ H s->aQ x v->s.heap.IsSliceOf sl vl vu .none->IsPart vl lo->IsPart vu hi->r x lo hi H Q ->
  ∃ T id,typeLookup (.type T) "__getitem__" = pure (some (.builtin id))/\s.TypeIs v T/\wpAny (model X.prog X.w) X.A (getItem v (.ref sl)) (EP X pins σ Q) X.xe s
noncomputable def tSl (r:V->Option Int->Option Int->Hp->VK->Prop)(te:TE)(tl th:TO):TE:=fun σ H Q=>te σ H fun x H1=>tl σ H1 fun l H2=>th σ H2 fun u H3=>r x l u H3 Q
theorem bT {r:V->Option Int->Option Int->Hp->VK->Prop}(hr:KW X r)(he:PE X e te)(hl:PO X lo tl)(hu:PO X hi th):PE X (.Subscript e (.Slice lo hi none p2) pos) (tSl r te tl th):=by
 intro pins s σ H Q I h
 refine Subscript_ (thn (he pins s σ H _ I h) fun v s1 ⟨x,H1,I1,r1,q1⟩=>?_)
 refine wpAny_Slice (thn (hl pins s1 σ H1 _ I1 q1) fun vl s2 ⟨l,H2,I2,pl,q2⟩=>thn (hu pins s2 σ H2 _ I2 q2) fun vu s3 ⟨u,H3,I3,pu,q3⟩=>?_)
 rw [evalPart_none]
 refine wpAny_pure ?_
 have I4:aN X pins σ H3 { s3 with heap:=s3.heap.push { cls:=.type "slice",data:=.fields #[vl,vu,.none] } }:=I3.kept (t':=s3.toks) fun b ob q=>Heap.get?_push_of_some _ q
 obtain ⟨T,id,hT,ht,hg⟩:=hr pins { s3 with heap:=s3.heap.push { cls:=.type "slice",data:=.fields #[vl,vu,.none] } } σ H3 x v vl vu l u s3.heap.objs.size Q I4 r1 (Heap.IsSliceOf.new ..) pl pu q3
 show wpAny (model X.prog X.w) X.A (subscriptTail e (.Slice lo hi none p2) v (.ref s3.heap.objs.size)) (EP X pins σ Q) X.xe { s3 with heap:=s3.heap.push { cls:=.type "slice",data:=.fields #[vl,vu,.none] } }
 exact tail_any (ops:=[.ref s3.heap.objs.size,v]) ht hT hg (by with_unfolding_all rfl)
noncomputable def cutV (xs:List V)(lo hi:Option Int):List V:=(xs.drop (HT.sIx xs.length 0 lo)).take (HT.sIx xs.length xs.length hi - HT.sIx xs.length 0 lo)
theorem oE (xs:List V)(lo hi:Option Int):(cutV xs lo hi).length<=xs.length:=by
 unfold cutV
 rw [List.length_take,List.length_drop]
 omega
noncomputable def rSlT (K:PySem.W.Frag):V->Option Int->Option Int->Hp->VK->Prop:=fun x lo hi H Q=>∃ a xs,x = .ref a/\iE K H a xs /\
 ¬ (HT.sIx xs.length 0 lo=0/\HT.sIx xs.length xs.length hi=xs.length)/\∀ p,H p=none->Q (.ref p) (upd H p (.tup (cutV xs lo hi)))
theorem JA:KW X (rSlT X.K):=by
 intro pins s σ H x v vl vu lo hi sl Q I rx hs pl pu h
 obtain ⟨a,xs,rfl,hx,hw,q⟩:=h
 cases rx
 obtain ⟨its,r,ht,hz⟩:=I.tuple hx
 have hlen:its.toArray.size=xs.length:=by rw [List.size_toArray];exact r.length.symm
 refine ⟨"tuple",_,PyProof.Rows.slot_tuple_getitem.lookup,ht.typeIs,?_⟩
 refine HT.getItem_tuple_cut ht hs pl pu (by rw [hlen];exact hw) ?_ (by rw [hlen];exact hz)
 rw [hlen]
 refine ⟨.ref s.heap.objs.size,_,I.laid (t':=s.toks) (o:=.tup (cutV xs lo hi)) (fun b ob q=>Heap.get?_push_of_some _ q) (Nat.le_refl _) ?_,rfl,q _ (I.hok.fresh (Nat.le_refl _))⟩
 exact ⟨Nat.le_trans (oE xs lo hi) hz,_,(r.drop (HT.sIx xs.length 0 lo)).take (HT.sIx xs.length xs.length hi - HT.sIx xs.length 0 lo),IsTup.new _ _⟩
noncomputable def rCatT (K:PySem.W.Frag):R2:=fun x y H Q=>∃ a b xs ys,x = .ref a/\y = .ref b/\iE K H a xs/\iE K H b ys/\xs≠[]/\xs.length + ys.length<=sizeLine /\
 (ys=[]->Q (.ref a) H)/\(ys≠[]->∀ p,H p=none->Q (.ref p) (upd H p (.tup (xs ++ ys))))
theorem aV.nil_iff {xs:List V}{us:cE}(r:aV xs us):us=[] ↔ xs=[]:=by
 cases r with
 | nil=>simp
 | cons _ _=>simp
theorem F0:iN X (binaryOp .Add) (rCatT X.K):=by
 intro pins s σ H x y v u Q I rx ry h
 obtain ⟨a,b,xs,ys,rfl,rfl,ha,hb,hx,hz,q1,q2⟩:=h
 cases rx
 cases ry
 obtain ⟨its,r1,p1,_⟩:=I.tuple ha
 obtain ⟨its2,r2,p2,_⟩:=I.tuple hb
 refine HT.cat_tup p1 p2 (fun z=>hx (r1.nil_iff.mp z)) (fun z=>⟨.ref a,H,I,rfl,q1 (r2.nil_iff.mp z)⟩) (fun z=>?_) (by rw [← r1.length,← r2.length];exact hz)
 refine ⟨.ref s.heap.objs.size,_,I.laid (t':=s.toks) (o:=.tup (xs ++ ys)) (fun b ob q=>Heap.get?_push_of_some _ q) (Nat.le_refl _) ?_,rfl,q2 (fun w=>z (r2.nil_iff.mpr w)) _ (I.hok.fresh (Nat.le_refl _))⟩
 exact ⟨by rw [List.length_append];exact hz,_,r1.append r2,IsTup.new _ _⟩
end
noncomputable def ixN (n:Nat)(i:Int):Option Nat:=if 0<=i then (if i < n then some i.toNat else none) else if -(n:Int)<=i then some (i + n).toNat else none
noncomputable def atI {α:Type}(xs:List α)(i:Int):Option α:=(ixN xs.length i).bind fun j=>xs[j]?
theorem zG {n:Nat}{i:Int}{j:Nat}(h:ixN n i=some j):seqIndex? i n=some j/\j < n/\-(n:Int)<=i/\i < n:=by
 unfold ixN at h
 by_cases h0:0<=i
 ·rw [if_pos h0] at h
  by_cases h1:i < n
  ·rw [if_pos h1] at h
   have e:i.toNat=j:=Option.some.inj h
   exact ⟨by rw [seqIndex_of h0 h1,e],by omega,by omega,h1⟩
  ·rw [if_neg h1] at h;cases h
 ·rw [if_neg h0] at h
  by_cases h1 : -(n:Int)<=i
  ·rw [if_pos h1] at h
   have e:(i + n).toNat=j:=Option.some.inj h
   exact ⟨by rw [seqIndex_neg (by omega) h1,e],by omega,h1,by omega⟩
  ·rw [if_neg h1] at h;cases h
theorem t8 {α:Type}{xs:List α}{i:Int}{v:α}(h:atI xs i=some v):∃ j,seqIndex? i xs.length=some j/\xs[j]?=some v/\j < xs.length/\-(xs.length:Int)<=i/\i < xs.length:=by
 unfold atI at h
 cases e:ixN xs.length i with
 | none=>rw [e] at h;cases h
 | some j =>
  rw [e] at h
  obtain ⟨h1,h2,h3,h4⟩:=zG e
  exact ⟨j,h1,h,h2,h3,h4⟩
theorem zQ {α:Type}{xs:List α}{j:Nat}{v:α}(h:xs[j]?=some v):atI xs (j:Int)=some v:=by
 have hj:j < xs.length:=(List.getElem?_eq_some_iff.mp h).1
 have e:ixN xs.length (j:Int)=some j:=by
  unfold ixN
  rw [if_pos (by omega),if_pos (by omega)];simp
 unfold atI;rw [e];exact h
theorem atI_last {α:Type}(xs:List α)(v:α):atI (xs ++ [v]) (-1)=some v:=by
 have hl:(xs ++ [v]).length=xs.length + 1:=by simp
 have e:ixN (xs ++ [v]).length (-1)=some xs.length:=by
  unfold ixN
  rw [hl,if_neg (by decide),if_pos (by omega)]
  congr 1
  omega
 unfold atI
 rw [e]
 show (xs ++ [v])[xs.length]?=some v
 simp
noncomputable def HE (b:Expr):Prop:=∀ o i,subscripted b false o i=operate [o,i] (getItem o i)
noncomputable def E4 (X:Cx)(r:R2):Prop :=
 ∀ (value slice:Expr) (pins:cZ) (s:Shared) (σ:St) (H:Hp) (x y:V) (v u:Value) (Q:VK),aN X pins σ H s->aQ x v->aQ y u->r x y H Q ->
  subscripted slice false v u=operate [v,u] (getItem v u)->wpAny (model X.prog X.w) X.A (subscriptTail value slice v u) (EP X pins σ Q) X.xe s
noncomputable def LT (X:Cx)(id:String)(r:V->List V->Hp->VK->Prop):Prop :=
 ∀ (pins:cZ) (s:Shared) (σ:St) (H:Hp) (x:V) (xs:List V) (v:Value) (us:cE) (Q:VK),aN X pins σ H s->aQ x v->aV xs us->r x xs H Q ->
  wpAny (model X.prog X.w) X.A (call (.builtin id) (v :: us)) (EP X pins σ Q) X.xe s
section
variable {X:Cx}{a b:Expr}{ta tb:TE}{pos:Pos}
theorem E4.or {r r':R2}(h:E4 X r)(h':E4 X r'):E4 X (fun x y H Q=>r x y H Q∨r' x y H Q):=by
 intro value slice pins s σ H x y v u Q I rx ry q hs
 rcases q with q | q
 ·exact h value slice pins s σ H x y v u Q I rx ry q hs
 ·exact h' value slice pins s σ H x y v u Q I rx ry q hs
theorem bM {r:R2}(hr:E4 X r)(ha:PE X a ta)(hb:PE X b tb)(hs:HE b):PE X (.Subscript a b pos) (tOp r ta tb):=by
 intro pins s σ H Q I h
 exact Subscript_ (binT ha hb I h fun v u s2 x y H2 I2 rx ry q=>hr a b pins s2 σ H2 x y v u Q I2 rx ry q (hs _ _))
noncomputable def rIxL (K:PySem.W.Frag):R2:=fun x y H Q=>∃ p xs i v,x = .ref p/\y = .int i/\fH K H p xs/\atI xs i=some v/\Q v H
noncomputable def rIxT (K:PySem.W.Frag):R2:=fun x y H Q=>∃ p xs i v,x = .ref p/\y = .int i/\iE K H p xs/\atI xs i=some v/\Q v H
noncomputable def rIxS:R2:=fun x y H Q=>∃ z i c,x = .str z/\y = .int i/\z.length<=sizeLine/\atI z.cps.toList i=some c/\Q (.str ⟨#[c]⟩) H
theorem GU:E4 X (rIxL X.K):=by
 intro value slice pins s σ H x y v u Q I rx ry h hs
 obtain ⟨p,xs,i,z,rfl,rfl,hq,he,q⟩:=h
 cases rx
 obtain ⟨t,rfl⟩:=ry
 obtain ⟨its,r,pl,hz⟩:=I.list hq
 obtain ⟨j,h1,h2,h3,h4,h5⟩:=t8 he
 obtain ⟨w,ew,rw'⟩:=r.get h2
 have hl:=r.length
 have hn:=line63
 have fin:EP X pins σ Q w s:=⟨z,H,I,rw',q⟩
 by_cases h0:0<=i
 ·have hj:i.toNat=j:=by
   rw [seqIndex_of h0 h5] at h1
   exact Option.some.inj h1
  exact item_listR pl.isList h0 (by omega) (by rw [hj];simpa using ew) fin hs
 ·have hj:(i + (its.toArray.size:Int)).toNat=j:=by
   rw [seqIndex_neg (by omega) h4] at h1
   rw [List.size_toArray,← hl]
   exact Option.some.inj h1
  exact subscriptTail_builtinR (x:=w) pl.isList.typeIs slot_list_getitem.lookup
   (wpAny_getItem_list_neg (Q:=fun r s'=>r=w/\EP X pins σ Q r s') pl.isList (by omega) (by rw [List.size_toArray] <;> omega) (by omega) (by rw [hj];simpa using ew) ⟨rfl,fin⟩) hs
theorem JY:E4 X (rIxT X.K):=by
 intro value slice pins s σ H x y v u Q I rx ry h hs
 obtain ⟨p,xs,i,z,rfl,rfl,hq,he,q⟩:=h
 cases rx
 obtain ⟨t,rfl⟩:=ry
 obtain ⟨its,r,pl,hz⟩:=I.tuple hq
 obtain ⟨j,h1,h2,h3,h4,h5⟩:=t8 he
 obtain ⟨w,ew,rw'⟩:=r.get h2
 have hl:=r.length
 have hn:=line63
 have fin:EP X pins σ Q w s:=⟨z,H,I,rw',q⟩
 exact subscriptTail_builtinR (x:=w) pl.typeIs slot_tuple_getitem.lookup
  (getItem_tuple (j:=j) (Q:=fun r s'=>r=w/\EP X pins σ Q r s') pl (by omega) (by omega) (by rw [List.size_toArray,← hl];exact h1) (by simpa using ew) ⟨rfl,fin⟩) hs
theorem JZ:E4 X rIxS:=by
 intro value slice pins s σ H x y v u Q I rx ry h hs
 obtain ⟨z,i,c,rfl,rfl,hz,he,q⟩:=h
 obtain ⟨t,rfl⟩:=rx
 obtain ⟨t',rfl⟩:=ry
 obtain ⟨j,h1,h2,h3,h4,h5⟩:=t8 he
 have hl:z.cps.toList.length=z.length:=by simp [Str.length]
 rw [hl] at h1 h4 h5
 have hn:=line63
 exact tail_any (typeIs_str s z t) slot_str_getitem.lookup (getItem_str (c:=c) (by
  have e1:decide (i < -(2 ^ 63:Int))=false:=decide_eq_false (by omega)
  have e2:decide (i ≥ 2 ^ 63)=false:=decide_eq_false (by omega)
  rw [e1,e2,Bool.or_false]) (by rw [h1];simpa using h2) ⟨.str ⟨#[c]⟩,H,I.tok _,⟨_,rfl⟩,q⟩) hs
noncomputable def rIx (K:PySem.W.Frag):R2:=fun x y H Q=>rIxL K x y H Q∨rIxT K x y H Q∨rIxS x y H Q
theorem D5:E4 X (rIx X.K):=GU.or (JY.or JZ)
theorem xE (its:cE)(n j:Nat)(u:Value):Obj.mapSeq (·.setIfInBounds j u) { cls:=.type "list",data:=.seq its.toArray n }={ cls:=.type "list",data:=.seq (its.set j u).toArray n }:=by
 simp [Obj.mapSeq]
theorem aN.lst {pins:cZ}{σ:St}{H:Hp}{s:Shared}{p:Addr}{xs:List V}(I:aN X pins σ H s)(h:H p=some (.lst xs)) :
  ∃ (its:cE) (n:Nat),aV xs its/\s.heap.get? p=some { cls:=.type "list",data:=.seq its.toArray n }/\xs.length<=sizeLine:=by
 obtain ⟨z,its,n,r,e⟩:=I.hok p _ h
 exact ⟨its,n,r,e,z⟩
theorem aN.lstUpd {pins:cZ}{σ:St}{H:Hp}{s:Shared}{p:Addr}{xs ys:List V}{its its':cE}{n n':Nat}{f:Obj->Obj}(I:aN X pins σ H s)(h:H p=some (.lst xs))
  (ho:s.heap.get? p=some { cls:=.type "list",data:=.seq its.toArray n }) (hf:f { cls:=.type "list",data:=.seq its.toArray n }={ cls:=.type "list",data:=.seq its'.toArray n' }) (r:aV ys its') (hz:ys.length<=sizeLine) (t:Nat) :
  aN X pins σ (upd H p (.lst ys)) { s with heap:=s.heap.update p f,toks:=t }:=by
 have e:(s.heap.update p f).get? p=some { cls:=.type "list",data:=.seq its'.toArray n' }:=by
  rw [Heap.get?_update_self f ho (by rw [hf] <;> rfl),hf]
 refine I.write (x:=p) (e:=p) (by rw [h];trivial) (.inl rfl) (fun b u hb q=>(Heap.get?_update_other _ _ (Ne.symm hb)).trans q) ⟨_,e⟩ ?_
 exact ⟨hz,its',n',r,e⟩
noncomputable def rSetL:V->V->V->Hp->(Hp->Prop)->Prop:=fun o i v H Q=>∃ p xs k j,o = .ref p/\i = .int k/\H p=some (.lst xs)/\ixN xs.length k=some j/\Q (upd H p (.lst (xs.set j v)))
theorem uO:K8 X rSetL:=by
 intro pins s σ H o i v ov iv u Q I ro ri rv h
 obtain ⟨p,xs,k,j,rfl,rfl,hp,hj,q⟩:=h
 cases ro
 obtain ⟨t,rfl⟩:=ri
 obtain ⟨its,n,r,ho,hz⟩:=I.lst hp
 obtain ⟨h1,h2,h3,h4⟩:=zG hj
 have hl:=r.length
 have hn:=line63
 have I':aN X pins σ (upd H p (.lst (xs.set j v))) { s with heap:=s.heap.update p (Obj.mapSeq (·.setIfInBounds j u)) } :=
  I.lstUpd hp ho (xE its n j u) (r.set rv j) (by rw [List.length_set];exact hz) s.toks
 by_cases h0:0<=k
 ·have hk:k.toNat=j:=by
   rw [seqIndex_of h0 h4] at h1
   exact Option.some.inj h1
  exact PySem.W.ki_setAt ho h0 (by omega) (by rw [List.size_toArray,← hl];exact h4) (by rw [hk];exact ⟨_,I',q⟩)
 ·have hk:(k + (its.toArray.size:Int)).toNat=j:=by
   rw [seqIndex_neg (by omega) h3] at h1
   rw [List.size_toArray,← hl]
   exact Option.some.inj h1
  exact PySem.W.ki_setBack ho (by omega) (by rw [List.size_toArray,← hl];exact h3) (by omega) (by rw [hk];exact ⟨_,I',q⟩)
theorem sY (lo hi:Option Int)(n:Nat):(sliceBounds lo hi none n).1=((HT.sIx n 0 lo:Nat):Int)/\(sliceBounds lo hi none n).2.1=((HT.sIx n n hi:Nat):Int)/\(sliceBounds lo hi none n).2.2=1:=by
 refine ⟨?_,?_,rfl⟩
 ·cases lo with
  | none=>simp [sliceBounds,HT.sIx]
  | some i =>
   simp only [sliceBounds,HT.sIx,Option.getD_none,show (1:Int) > 0 by decide,if_true]
   by_cases h:i < 0
   ·simp only [h,if_true] <;> omega
   ·simp only [h,if_false] <;> omega
 ·cases hi with
  | none=>simp [sliceBounds,HT.sIx]
  | some i =>
   simp only [sliceBounds,HT.sIx,Option.getD_none,show (1:Int) > 0 by decide,if_true]
   by_cases h:i < 0
   ·simp only [h,if_true] <;> omega
   ·simp only [h,if_false] <;> omega
theorem qO (its:cE)(lo hi:Option Int):slicePick its.toArray lo hi none=((its.drop (HT.sIx its.length 0 lo)).take (HT.sIx its.length its.length hi - HT.sIx its.length 0 lo)).toArray:=by
 obtain ⟨h1,h2,h3⟩:=sY lo hi its.toArray.size
 unfold slicePick
 rw [h1,h2,h3]
 simp only [sliceRange_one,pick_run,List.size_toArray] <;> rfl
noncomputable def rSlL (K:PySem.W.Frag):V->Option Int->Option Int->Hp->VK->Prop:=fun x lo hi H Q=>∃ a xs,x = .ref a/\fH K H a xs/\∀ p,H p=none->Q (.ref p) (upd H p (.lst (cutV xs lo hi)))
theorem FD:KW X (rSlL X.K):=by
 intro pins s σ H x v vl vu lo hi sl Q I rx hs pl pu h
 obtain ⟨a,xs,rfl,hx,q⟩:=h
 cases rx
 obtain ⟨its,r,ht,hz⟩:=I.list hx
 have hlen:=r.length
 refine ⟨"list",_,slot_list_getitem.lookup,ht.isList.typeIs,?_⟩
 refine wpAny_getItem_list_slice ht.isList hs pl pu .none (by simp) ?_ (by rw [List.size_toArray] <;> omega)
 rw [qO,← hlen]
 refine ⟨.ref s.heap.objs.size,_,I.laid (t':=s.toks) (o:=.lst (cutV xs lo hi)) (fun b ob q=>Heap.get?_push_of_some _ q) (Nat.le_refl _) ?_,rfl,q _ (I.hok.fresh (Nat.le_refl _))⟩
 exact ⟨Nat.le_trans (oE xs lo hi) hz,_,0,(r.drop (HT.sIx xs.length 0 lo)).take (HT.sIx xs.length xs.length hi - HT.sIx xs.length 0 lo),Heap.get?_push_size _ rfl⟩
theorem tK:iN X (compareOp .NotIn) (fun x y H Q=>∃ i j,x = .str i/\y = .str j/\Q (.bl (!(!(Builtin.Str.occurrences j i 0 j.length 1).isEmpty))) H):=by
 intro pins s σ H x y v u Q I rx ry h
 obtain ⟨i,j,rfl,rfl,q⟩:=h
 obtain ⟨t,rfl⟩:=rx
 obtain ⟨t',rfl⟩:=ry
 exact notIn_str ⟨.bl _,H,I,rfl,q⟩
theorem jP:cS X (.builtin "len") (fun xs H Q=>∃ p ys,xs=[.ref p]/\(fH X.K H p ys∨iE X.K H p ys)/\Q (.int ys.length) H):=by
 intro pins s σ H xs us Q I r h
 obtain ⟨p,ys,rfl,hq,q⟩:=h
 obtain ⟨u,rfl,rx⟩:=vals1 r
 cases rx
 have hn:=line63
 rcases hq with hq | hq
 ·obtain ⟨its,r',pl,hz⟩:=I.list hq
  have hlen:=r'.length
  exact Calls.call_len_list pl.isList (by simp only [List.size_toArray] <;> omega) ⟨.int ys.length,H,I.tok _,⟨s.toks + 1,by rw [List.size_toArray,hlen]⟩,q⟩
 ·obtain ⟨its,r',pl,hz⟩:=I.tuple hq
  have hlen:=r'.length
  exact len_tuple pl (by simp only [List.size_toArray] <;> omega) ⟨.int ys.length,H,I.tok _,⟨s.toks + 1,by rw [List.size_toArray,hlen]⟩,q⟩
theorem t0:cS X (.builtin "len") (fun xs H Q=>∃ z,xs=[.str z]/\z.length<=sizeLine/\Q (.int z.length) H):=by
 intro pins s σ H xs us Q I r h
 obtain ⟨z,rfl,hz,q⟩:=h
 obtain ⟨u,rfl,t,rfl⟩:=vals1 r
 have hn:=line63
 exact len_str (by omega) ⟨.int z.length,H,I.tok _,⟨_,rfl⟩,q⟩
theorem qU:cS X (.type "tuple") (fun xs H Q=>∃ p ys,xs=[.ref p]/\((fH X.K H p ys/\∀ l,H l=none->Q (.ref l) (upd H l (.tup ys)))∨(iE X.K H p ys/\Q (.ref p) H))):=by
 intro pins s σ H xs us Q I r h
 obtain ⟨p,ys,rfl,h⟩:=h
 obtain ⟨u,rfl,rx⟩:=vals1 r
 cases rx
 rcases h with ⟨hq,q⟩ | ⟨hq,q⟩
 ·obtain ⟨its,r',pl,hz⟩:=I.list hq
  have hlen:=r'.length
  refine call_tuple_list pl.isList (fun h' kp=>?_) (by simp only [List.size_toArray] <;> omega)
  have I1:aN X pins σ H { s with heap:=h' }:=I.kept (t':=s.toks) kp
  have I2:aN X pins σ (upd H h'.objs.size (.tup ys)) { s with heap:=h'.push { cls:=.type "tuple",data:=.seq its.toArray } } :=
   I1.laid (t':=s.toks) (fun b o e=>Heap.get?_push_of_some _ e) (Nat.le_refl _) (show bY X.prog X.w _ _ _ (.tup ys) from ⟨hz,its,r',IsTup.new _ _⟩)
  exact ⟨.ref h'.objs.size,_,I2,rfl,q _ (I1.hok.fresh (Nat.le_refl _))⟩
 ·obtain ⟨its,r',pl,hz⟩:=I.tuple hq
  exact call_tuple_same pl ⟨.ref p,H,I,rfl,q⟩
noncomputable def tyV (K:PySem.W.Frag)(T:String)(x:V)(H:Hp):Prop:=match x with
 | .str _=>T="str"
 | .int _=>T="int"
 | .ref p=>(T="list"/\∃ xs,fH K H p xs)∨(T="tuple"/\∃ o,K.lookup p=some o/\o.cls = .type "tuple"/\o.dict=none) ∨
   (T="dict"/\((∃ kvs,H p=some (.dK kvs))∨∃ kvs,H p=some (.dT kvs)))∨(T="set"/\∃ S n,H p=some (.set S n))
 | _=>False
theorem B3 {pins:cZ}{σ:St}{H:Hp}{s:Shared}{T:String}{x:V}{v:Value}(I:aN X pins σ H s)(r:aQ x v)(ty:tyV X.K T x H) :
  s.TypeIs v T/\∀ a,v = .ref a->∃ ob,s.heap.get? a=some ob/\ob.dict=none:=by
 cases x with
 | str z =>
  obtain ⟨t,rfl⟩:=r
  cases (show T="str" from ty)
  exact ⟨typeIs_str s z t,fun _ e=>nomatch e⟩
 | int i =>
  obtain ⟨t,rfl⟩:=r
  cases (show T="int" from ty)
  exact ⟨typeIs_int s i t,fun _ e=>nomatch e⟩
 | ref p =>
  cases r
  rcases ty with ⟨rfl,xs,hq⟩ | ⟨rfl,o,hk,hc,hd⟩ | ⟨rfl,hk⟩ | ⟨rfl,S,n,hk⟩
  ·obtain ⟨its,_,pl,_⟩:=I.list hq
   refine ⟨pl.isList.typeIs,fun a e=>?_⟩
   cases e
   obtain ⟨o,n,e,c,hd,_⟩:=pl
   exact ⟨o,e,hd⟩
  ·refine ⟨⟨o,I.kIn p o hk,hc⟩,fun a e=>?_⟩
   cases e
   exact ⟨o,I.kIn _ o hk,hd⟩
  ·have z:∃ o,s.heap.get? p=some o/\o.ExactDict:=by
    rcases hk with ⟨kvs,hk⟩ | ⟨kvs,hk⟩
    ·obtain ⟨_,_,_,_,o,_,_,e,ex,_⟩:=I.hok p _ hk
     exact ⟨o,e,ex⟩
    ·obtain ⟨_,_,_,_,o,_,_,e,ex,_⟩:=I.hok p _ hk
     exact ⟨o,e,ex⟩
   obtain ⟨o,e,ex⟩:=z
   refine ⟨⟨o,e,ex.1⟩,fun a e2=>?_⟩
   cases e2
   exact ⟨o,e,ex.2.1⟩
  ·obtain ⟨o,_,_,_,e,ex,_⟩:=I.hok p _ hk
   refine ⟨⟨o,e,ex.1⟩,fun a e2=>?_⟩
   cases e2
   exact ⟨o,e,ex.2.1⟩
 | _=>exact False.elim ty
noncomputable def tBM0 (K:PySem.W.Frag)(T:String)(r:V->List V->Hp->VK->Prop)(to:TE):TE:=fun σ H Q=>to σ H fun x H1=>tyV K T x H1/\r x [] H1 Q
noncomputable def tBM (K:PySem.W.Frag)(T:String)(r:V->List V->Hp->VK->Prop)(to:TE)(t:TA):TE:=fun σ H Q=>to σ H fun x H1=>tyV K T x H1/\t σ H1 fun xs H2=>r x xs H2 Q
variable {o e:Expr}{es:iW}{to:TE}{t:TA}{name:Str}{apos cpos:Pos}{T id:String}{r:V->List V->Hp->VK->Prop}
theorem CY (pa:PlainAttrs T)(slot:Slot T name id)(hty:typeOf (.builtin id)=pure (.type "method_descriptor"))(hm:LT X id r)(ho:PE X o to)
  (hbase:attributeBase o name X.env (eval o X.env)=eval o X.env:=by rfl) (hline:(apos.endLine == cpos.line)=true:=by rfl):PE X (.Call (.Attribute o name apos) [] [] cpos) (tBM0 X.K T r to):=by
 intro pins s σ H Q I h
 refine wpAny_Call_method0_late hbase hline (thn (ho pins s σ H _ I h) fun v s1 ⟨x,H1,I1,r1,ty,q1⟩=>?_)
 obtain ⟨h1,h2⟩:=B3 I1 r1 ty
 exact ⟨T,id,pa,slot,hty,h1,h2,Calls.callWith_builtin rfl (PySem.evalArgs_none (hm pins s1 σ H1 x [] v [] Q I1 r1 .nil q1))⟩
theorem j9 (pa:PlainAttrs T)(slot:Slot T name id)(hty:typeOf (.builtin id)=pure (.type "method_descriptor"))(hm:LT X id r)(ho:PE X o to)(ha:PA X (e :: es) t)
  (hbase:attributeBase o name X.env (eval o X.env)=eval o X.env:=by rfl)
  (hfew:((backTo cpos (starEach (e :: es) X.env)).all (fun x=>!x.1) && (backToKw cpos (keywordEach [] X.env)).all (fun x=>x.1.isSome)
   && decide ((e :: es).length + ([]:List Keyword).length + (if ([]:List Keyword).isEmpty then 0 else 1) < 30))=true:=by rfl)
  (hline:(apos.endLine == cpos.line)=true:=by rfl) (hs:starEach (e :: es) X.env=(false,eval e X.env) :: starEach es X.env:=by rfl) (hplain:(backTo cpos (starEach es X.env)).any (·.1)=false:=by rfl) :
  PE X (.Call (.Attribute o name apos) (e :: es) [] cpos) (tBM X.K T r to t):=by
 intro pins s σ H Q I h
 refine wpAny_Call_method_late hbase hfew hline rfl (thn (ho pins s σ H _ I h) fun v s1 ⟨x,H1,I1,r1,ty,q1⟩=>?_)
 obtain ⟨h1,h2⟩:=B3 I1 r1 ty
 refine ⟨T,id,pa,slot,hty,h1,h2,?_⟩
 have hA:=ha cpos pins s1 σ H1 _ I1 q1
 rw [hs] at hA ⊢
 refine Calls.callWith_builtin (by show (false || (backTo cpos (starEach es X.env)).any (·.1))=false;rw [hplain] <;> rfl) (Calls.evalArgs_plain ?_)
 exact thn hA fun us s2 ⟨vs,H2,I2,r2,q2⟩=>hm pins s2 σ H2 x vs v us Q I2 r1 r2 q2
end
noncomputable def LD (X:Cx)(id:String)(r:V->List V->Hp->VK->Prop):Prop :=
 ∀ (pins:cZ) (s:Shared) (σ:St) (H:Hp) (x:V) (xs:List V) (v:Value) (us:cE) (Q:VK),aN X pins σ H s->aQ x v->aV xs us->r x xs H Q ->
  wpAny (model X.prog X.w) X.A (call (.builtin id) (v :: us)) (EP X pins σ Q) X.xe s
theorem aV.one:∀ {x:V} {us:cE},aV [x] us->∃ u,us=[u]/\aQ x u
 | _,_,.cons r .nil=>⟨_,rfl,r⟩
theorem aV.zero:∀ {us:cE},aV [] us->us=[]
 | _,.nil=>rfl
theorem aV.dropLast {xs:List V}{us:cE}(h:aV xs us):aV xs.dropLast us.dropLast:=by
 induction h with
 | nil=>exact .nil
 | cons r t ih =>
  cases t with
  | nil=>exact .nil
  | cons q t'=>exact .cons r ih
theorem aV.eraseIdx:∀ {xs:List V} {us:cE} (i:Nat),aV xs us->aV (xs.eraseIdx i) (us.eraseIdx i)
 | _,_,_,.nil=>.nil
 | _,_,0,.cons _ t=>t
 | _,_,i + 1,.cons r t=>.cons r (aV.eraseIdx i t)
theorem aV.reverse {xs:List V}{us:cE}(h:aV xs us):aV xs.reverse us.reverse:=by
 induction h with
 | nil=>exact .nil
 | cons r t ih=>rw [List.reverse_cons,List.reverse_cons];exact aV.append ih (.cons r .nil)
theorem aV.rep {xs:List V}{us:cE}(h:aV xs us):∀ k:Nat,aV (List.replicate k xs).flatten (List.replicate k us).flatten
 | 0=>.nil
 | k + 1=>by
  rw [List.replicate_succ,List.replicate_succ,List.flatten_cons,List.flatten_cons]
  exact aV.append h (aV.rep h k)
theorem xR {α:Type}(l:List α):l.eraseIdx (l.length - 1)=l.dropLast:=by
 induction l with
 | nil=>rfl
 | cons a r ih =>
  cases r with
  | nil=>rfl
  | cons b r =>
   have e:(a :: b :: r).length - 1=((b :: r).length - 1) + 1:=by
    have h1:(a :: b :: r).length=r.length + 2:=rfl
    have h2:(b :: r).length=r.length + 1:=rfl
    omega
   rw [e,List.eraseIdx_cons_succ,ih]
   all_goals rfl
theorem rG {α:Type}:∀ (l:List α) (i:Nat),(l.eraseIdx i).length<=l.length
 | [],_=>Nat.le_refl _
 | _ :: _,0=>Nat.le_succ _
 | _ :: r,i + 1=>Nat.succ_le_succ (rG r i)
theorem rN (its:cE):∀ (k:Nat) (acc:cE),
  List.foldl (fun x1 x2=>x1 ++ x2) acc.toArray (List.replicate k its.toArray)=(acc ++ (List.replicate k its).flatten).toArray
 | 0,acc=>by simp
 | k + 1,acc=>by
  have e:acc.toArray ++ its.toArray=(acc ++ its).toArray:=by simp
  have e2:(acc ++ its) ++ (List.replicate k its).flatten=acc ++ (List.replicate (k + 1) its).flatten:=by
   rw [List.replicate_succ,List.flatten_cons,List.append_assoc]
  rw [← e2,← rN its k (acc ++ its),← e,List.replicate_succ,List.foldl_cons]
section
variable {X:Cx}{pins:cZ}{σ:St}{H:Hp}{s:Shared}{l b:Addr}{xs ys zs:List V}
theorem aN.lset {its its':cE}{n:Nat}{f:uH->uH}{t':Nat}(I:aN X pins σ H s)(hH:H l=some (.lst xs))
  (e:s.heap.get? l=some { cls:=.type "list",data:=.seq its.toArray n }) (hf:f its.toArray=its'.toArray) (hv:aV ys its') (hz:ys.length<=sizeLine) :
  aN X pins σ (upd H l (.lst ys)) { s with heap:=s.heap.update l (Obj.mapSeq f),toks:=t' }:=by
 have q:=PySem.IsL.update e f
 rw [hf] at q
 refine I.write (x:=l) (e:=l) (by rw [hH];exact trivial) (.inl rfl) (fun b' u hb hu=>(Heap.get?_update_other s.heap (Obj.mapSeq f) (Ne.symm hb)).trans hu) ⟨_,q⟩ ?_
 exact ⟨hz,its',_,hv,q⟩
theorem aN.lnew {its:cE}{t':Nat}(I:aN X pins σ H s)(hv:aV ys its)(hz:ys.length<=sizeLine) :
  aN X pins σ (upd H s.heap.objs.size (.lst ys)) { s with heap:=s.heap.push { cls:=.type "list",data:=.seq its.toArray },toks:=t' } :=
 I.laid (fun _ _ q=>Heap.get?_push_of_some _ q) (Nat.le_refl _) ⟨hz,its,0,hv,Heap.get?_push_size _ rfl⟩
theorem aN.fresh (I:aN X pins σ H s):H s.heap.objs.size=none:=I.hok.fresh (Nat.le_refl _)
theorem aN.lstM (I:aN X pins σ H s)(hH:H l=some (.lst xs)):xs.length<=sizeLine/\∃ (its:cE) (n:Nat),aV xs its/\xs.length=its.length/\s.heap.get? l=some { cls:=.type "list",data:=.seq its.toArray n }:=by
 obtain ⟨z,its,n,r,e⟩:=I.hok l _ hH
 exact ⟨z,its,n,r,r.length,e⟩
theorem pW {n:Nat}(h:n<=sizeLine):Builtin.List.listTooLong n=false:=by
 unfold Builtin.List.listTooLong
 exact decide_eq_false (by omega)
end
section
variable {X:Cx}
noncomputable def rAppend:V->List V->Hp->VK->Prop:=fun x vs H Q=>∃ l xs y,x = .ref l/\vs=[y]/\H l=some (.lst xs)/\xs.length < sizeLine/\Q .non (upd H l (.lst (xs ++ [y])))
theorem fE:LD X "list.append" rAppend:=by
 intro pins s σ H x vs v us Q I rx rv h
 obtain ⟨l,xs,y,rfl,rfl,hH,hz,q⟩:=h
 cases rx
 obtain ⟨u,rfl,ru⟩:=rv.one
 obtain ⟨z,its,n,r,hl,e⟩:=I.lstM hH
 refine call_meets F.slot_list_append ⟨_,e,rfl⟩ F.entry_list_append (F.args_list_append_2 _ _) (PySem.list_append l its.toArray n u (by rw [List.size_toArray];omega)) ⟨e,?_⟩
 refine ⟨.non,_,I.lset (its':=its ++ [u]) hH e (by simp) (r.append (.cons ru .nil)) ?_,rfl,q⟩
 rw [List.length_append,List.length_singleton]
 omega
noncomputable def rExtend:V->List V->Hp->VK->Prop:=fun x vs H Q=>∃ l b xs zs,x = .ref l/\vs=[.ref b]/\H l=some (.lst xs)/\H b=some (.lst zs)/\xs.length + zs.length<=sizeLine/\Q .non (upd H l (.lst (xs ++ zs)))
theorem AR:LD X "list.extend" rExtend:=by
 intro pins s σ H x vs v us Q I rx rv h
 obtain ⟨l,b,xs,zs,rfl,rfl,hH,hB,hz,q⟩:=h
 cases rx
 obtain ⟨u,rfl,ru⟩:=rv.one
 cases ru
 obtain ⟨z,its,n,r,hl,e⟩:=I.lstM hH
 obtain ⟨z2,its2,n2,r2,hl2,e2⟩:=I.lstM hB
 have hsz:its.toArray.size + its2.toArray.size<=sizeLine:=by rw [List.size_toArray,List.size_toArray];omega
 have hlong:¬ (!its.toArray.isEmpty && Builtin.List.listTooLong (its.toArray.size + its2.toArray.size))=true:=by
  rw [pW hsz,Bool.and_false]
  exact Bool.false_ne_true
 refine call_meets F.slot_list_extend ⟨_,e,rfl⟩ F.entry_list_extend (F.args_list_extend_2 _ _)
  (AutoSeq1.list_extend_list_list_0 l its.toArray n b its2.toArray n2 hlong (by rw [List.size_toArray];omega) (by omega)) ⟨e,e2,?_⟩
 refine ⟨.non,_,I.lset (its':=its ++ its2) hH e (by simp) (r.append r2) ?_,rfl,q⟩
 rw [List.length_append]
 omega
noncomputable def rPop:V->List V->Hp->VK->Prop:=fun x vs H Q=>∃ l xs y,x = .ref l/\vs=[]/\H l=some (.lst xs)/\xs[xs.length - 1]?=some y/\Q y (upd H l (.lst xs.dropLast))
theorem DV:LD X "list.pop" rPop:=by
 intro pins s σ H x vs v us Q I rx rv h
 obtain ⟨l,xs,y,rfl,rfl,hH,hy,q⟩:=h
 cases rx
 have hus:=rv.zero
 subst hus
 obtain ⟨z,its,n,r,hl,e⟩:=I.lstM hH
 obtain ⟨u,hu,ru⟩:=r.get hy
 have hy':its.toArray[its.toArray.size - 1]?=some u:=by
  show its.toArray[its.length - 1]?=some u
  rw [← Array.getElem?_toList,← hl]
  exact hu
 refine call_meets F.slot_list_pop ⟨_,e,rfl⟩ F.entry_list_pop (F.args_list_pop_1 _) (MeetsSeq.list_pop_last l its.toArray n u hy' (by rw [List.size_toArray];omega)) ⟨e,?_⟩
 refine ⟨y,_,I.lset (its':=its.dropLast) hH e ?_ r.dropLast ?_,ru,q⟩
 ·show its.toArray.eraseIdxIfInBounds (its.toArray.size - 1)=its.dropLast.toArray
  rw [List.size_toArray,List.eraseIdxIfInBounds_toArray,xR]
 ·rw [List.length_dropLast]
  omega
noncomputable def rPopAt:V->List V->Hp->VK->Prop:=fun x vs H Q=>∃ l xs i k y,x = .ref l/\vs=[.int i]/\H l=some (.lst xs)/\-(2 ^ 63)<=i/\i < 2 ^ 63/\seqIndex? i xs.length=some k/\xs[k]?=some y/\Q y (upd H l (.lst (xs.eraseIdx k)))
theorem DU:LD X "list.pop" rPopAt:=by
 intro pins s σ H x vs v us Q I rx rv h
 obtain ⟨l,xs,i,k,y,rfl,rfl,hH,h1,h2,hk,hy,q⟩:=h
 cases rx
 obtain ⟨u,rfl,ru⟩:=rv.one
 obtain ⟨t,rfl⟩:=ru
 obtain ⟨z,its,n,r,hl,e⟩:=I.lstM hH
 obtain ⟨w,hw,rw'⟩:=r.get hy
 refine call_meets F.slot_list_pop ⟨_,e,rfl⟩ F.entry_list_pop (F.args_list_pop_2 _ _)
  (MeetsSeq.list_pop_at l its.toArray n i t k w (fitsIndex_both h1 h2) (by rw [List.size_toArray,← hl];exact hk) (by rw [← Array.getElem?_toList];exact hw) (by rw [List.size_toArray];omega)) ⟨e,?_⟩
 refine ⟨y,_,I.lset (its':=its.eraseIdx k) hH e ?_ (r.eraseIdx k) ?_,rw',q⟩
 ·show its.toArray.eraseIdxIfInBounds k=(its.eraseIdx k).toArray
  rw [List.eraseIdxIfInBounds_toArray]
 ·have:=rG xs k
  omega
noncomputable def rCat:R2:=fun x y H Q=>∃ l b xs zs,x = .ref l/\y = .ref b/\H l=some (.lst xs)/\H b=some (.lst zs)/\xs.length + zs.length<=sizeLine/\∀ p,H p=none->Q (.ref p) (upd H p (.lst (xs ++ zs)))
theorem JL:iN X (binaryOp .Add) rCat:=by
 intro pins s σ H x y v u Q I rx ry h
 obtain ⟨l,b,xs,zs,rfl,rfl,hH,hB,hz,q⟩:=h
 cases rx
 cases ry
 obtain ⟨z,its,n,r,hl,e⟩:=I.lstM hH
 obtain ⟨z2,its2,n2,r2,hl2,e2⟩:=I.lstM hB
 refine PySem.P.add_list e e2 ?_ (by rw [List.size_toArray,List.size_toArray];omega)
 have ea:its.toArray ++ its2.toArray=(its ++ its2).toArray:=by simp
 rw [ea]
 exact ⟨.ref _,_,I.lnew (t':=s.toks) (r.append r2) (by rw [List.length_append];omega),rfl,q _ I.fresh⟩
noncomputable def rRep:R2:=fun x y H Q=>∃ l k xs,x = .ref l/\y = .int k/\H l=some (.lst xs)/\-(2 ^ 63)<=k/\k < 2 ^ 63/\xs.length * k.toNat<=sizeLine /\
 ∀ p,H p=none->Q (.ref p) (upd H p (.lst (List.replicate k.toNat xs).flatten))
theorem GS {α:Type}(xs:List α)(k:Nat):(List.replicate k xs).flatten.length=k * xs.length:=by
 induction k with
 | zero=>simp
 | succ k ih=>rw [List.replicate_succ,List.flatten_cons,List.length_append,ih,Nat.succ_mul,Nat.add_comm]
theorem nN:iN X (binaryOp .Mult) rRep:=by
 intro pins s σ H x y v u Q I rx ry h
 obtain ⟨l,k,xs,rfl,rfl,hH,h1,h2,hz,q⟩:=h
 cases rx
 obtain ⟨t,rfl⟩:=ry
 obtain ⟨z,its,n,r,hl,e⟩:=I.lstM hH
 have hlen:its.toArray.size * k.toNat<=sizeLine:=by rw [List.size_toArray,← hl];exact hz
 have hcap:¬ its.toArray.size * k.toNat > (2 ^ 63 - 1) / 8:=by
  have:(sizeLine:Nat)<=(2 ^ 63 - 1) / 8:=by decide
  omega
 have hfit:¬ (!Builtin.List.listFitsIndex k)=true:=by
  rw [fitsIndex_both h1 h2]
  exact Bool.false_ne_true
 have hlong:¬ Builtin.List.listTooLong (its.toArray.size * k.toNat)=true:=by
  rw [pW hlen]
  exact Bool.false_ne_true
 have hnew:List.foldl (fun x1 x2=>x1 ++ x2) #[] (List.replicate (if its.toArray.isEmpty=true then 0 else k.toNat) its.toArray)=(List.replicate k.toNat its).flatten.toArray:=by
  have f0:∀ m:Nat,List.foldl (fun x1 x2=>x1 ++ x2) #[] (List.replicate m its.toArray)=(List.replicate m its).flatten.toArray:=fun m=>by
   have:=rN its m []
   rw [List.nil_append] at this
   exact this
  rw [f0]
  cases its with
  | nil=>simp
  | cons a r'=>rw [if_neg (by simp)]
 refine wpAny_binaryOp_repeat_ref (T:="list") (U:="int") (by decide) ⟨_,e,rfl⟩ (fun s'=>typeIs_int s' k t) noFill_list_mul F.fills_int_mul F.slot_int_rmul repeat_list F.slot_int_index.lookup
  (call_meets F.slot_int_rmul (typeIs_int s k t) F.entry_int_rmul (F.args_int_rmul_2 _ _) (int___rmul___int_list k t l its.toArray n)
   ⟨e,rfl,⟨_,e,rfl⟩,call_meets F.slot_list_mul ⟨_,e,rfl⟩ F.entry_list_mul (F.args_list_mul_2 _ _) (AutoListH.list___mul___list_int_3 l its.toArray n k t hfit hcap hlong) ⟨e,?_⟩⟩)
 rw [hnew]
 exact ⟨.ref _,_,I.lnew (t':=s.toks) (r.rep k.toNat) (by rw [GS,Nat.mul_comm];exact hz),rfl,q _ I.fresh⟩
end
end L2
namespace Att
open PySem PySem.W PySem.Calls PyProof.Rows
theorem oT {P:Params}{h:Heap}:∀ (ns:List Int) (vs:cE),WellAll P h vs (ns.map WData.int)->IntsAre vs ns:=by
 intro ns
 induction ns with
 | nil =>
  intro vs w
  rw [List.map_nil] at w
  cases w
  exact .nil
 | cons n ns ih =>
  intro vs w
  rw [List.map_cons] at w
  cases w with
  | cons a b =>
   cases a
   exact .cons _ _ (ih _ b)
theorem AC {l:OpenLaw}{n:Nat}(hn:l.most=some n){P:Params}{h:Heap}{args:List WData}{vals:cE}
  (hpre:l.row.toRowW.claim.pre args=true) (hwl:WellAll P h vals args) :
  ∃ a vs ns,vals=[Value.ref a]/\args=[WData.list (ns.map WData.int)]/\h.get? a=some { cls:=.type "list",data:=.seq vs.toArray }/\IntsAre vs ns/\ns.length<=n:=by
 have hsh:WShape.hasAll [] args [.list .int]=true:=(pre_splitW hpre).1
 have hc:l.pre.holds [] { args:=args }=true:=(pre_splitW hpre).2
 obtain ⟨d,r,rfl,h1,h2⟩:=hasAllW_cons hsh
 obtain rfl:=hasAllW_nil h2
 obtain ⟨xs,rfl,h3⟩:=hasW_list h1
 obtain ⟨ns,rfl⟩:=items_int h3
 have hlen:ns.length<=n:=by
  unfold OpenLaw.pre at hc
  have h4:(WTm.not (.lt (.lit (.int (n:Int))) (.len (.arg 0)))).holds [] { args:=[.list (ns.map .int)] }=true:=by
   have h4:=(holds_andW hc).1
   rw [hn] at h4
   exact h4
  have h5:=condW_of h4 (w_not (w_lt w_lit (w_len_list (w_arg rfl))))
  rw [List.length_map] at h5
  refine Nat.le_of_not_lt fun q=>?_
  have q':(n:Int) < ((ns.length:Nat):Int):=by omega
  first
   | (rw [decide_eq_true q'] at h5;exact absurd h5 (by decide))
   | (simp at h5;omega)
 cases hwl with
 | cons w1 w2 =>
  cases w2
  cases w1 with
  | list ho hall=>exact ⟨_,_,ns,rfl,rfl,ho,oT ns _ hall,hlen⟩
theorem AF (l:OpenLaw)(args:List WData):l.row.toRowW.claim.post args (.bool true) args=true :=
 postW_of (r:=l.row.toRowW) (X:=(true == true))
  (show WShape.has [] (.bool true) .bool=true by first | rfl | decide | simp [WShape.has,WShape.arms,WShape.armsAll])
  (show (WTm.eq .res (.lit (.bool true))).value [] { args:=args,res:=some (.bool true),after:=args }=some (.bool (true == true)) from w_eq_bool (w_res rfl) w_lit) rfl
theorem vS {l:OpenLaw}{n:Nat}{q:Program}{loose:aW}{XP:(eJ)->Heap->Prop}{YP:World->Heap->Prop}{d:DefRec}
  (hn:l.most=some n) (hdf:d.params.defaults=[])
  (call:∀ (w:World) (s₀ s₁:Shared) (mg mb:eJ) (fa:Addr) (o:Obj) (pm cd doc:Value) (a:Addr) (vs:cE) (ns:List Int),
   Ground q loose [] XP w s₀ mg mb s₁.heap->YP w s₁.heap ->
   s₁.heap.get? fa=some o->o.data = .func (docDef d.name d.params d.body d.scope pm cd doc)->s₁.heap.CodeRec cd d.name->mg d.name=some (.ref fa) ->
   s₁.heap.get? a=some { cls:=.type "list",data:=.seq vs.toArray }->IntsAre vs ns->ns.length<=n->s₁.gens = #[] ->
   codeAny (model l.prog w) callerA (.call (.ref fa) ⟨[.ref a],[]⟩) (fun r s'=>r = .ok (.ret (.bool true))/\OldK s₁.heap s'.heap/\s'.os=s₁.os/\AllBare s'.gens) s₁) :
  WalkO q loose XP YP l.row.toRowW d [] (fun f vs=>PySem.call f vs):=by
 intro w s₀ s₁ mg mb G Y fa o pm cd doc dV kV ho hd hcd hD hmg hg args vals as hpre hlay hrd hwl hlo
 obtain rfl:dV = .none:=Dflts.none hD hdf
 obtain rfl:kV = .none:=Dflts.noKw hD
 obtain ⟨a,vs,ns,rfl,rfl,hobj,hints,hlen⟩:=AC hn hpre hwl
 refine enter_call (codeAny_mono (call w s₀ s₁ mg mb fa o pm cd doc a vs ns G Y ho (fd_plain hd) hcd hmg hobj hints hlen hg) fun r s' hq=>?_)
 obtain ⟨rfl,h2,h3,h4⟩:=hq
 exact ⟨.inl ⟨.bool true,.bool true,[],rfl,fun _=>rfl,.bool true,AF l _,fun _=>⟨List.Pairwise.nil,fun _ hm=>(nomatch hm)⟩⟩,h2,h3,h4⟩
end Att
namespace L2
open PySem PySem.Spec PyProof.Rows
theorem qW:∀ {vs:cE} {ns:List Int},IntsAre vs ns->aV (ns.map V.int) vs
 | _,_,.nil=>.nil
 | _,_,.cons n t h=>.cons ⟨t,rfl⟩ (qW h)
noncomputable def KM (H:Hp):Prop:=∀ b,H b=none∨∃ o xs,H b=some (.frz o (.lst xs))
theorem D1 {P:Program}{w:World}{K:PySem.W.Frag}{mg mb:eJ}{CX:sG}{k:Nat}{fa a:Addr}{fd:FuncData}{x:Str}{sp:Sp}{s₁:Shared}{vs:cE}{ns:List Int}
  (KX:K.In s₁.heap) (hns:s₁.heap.Ns mainGlobals mg) (hb:s₁.heap.Ns builtinsNs mb) (hbb:∀ x:Str,x≠"__name__"->mb x=bootBuiltins x) (hlim:s₁.heap.NoLimit) (hg:s₁.gens = #[])
  (ha:s₁.heap.get? a=some { cls:=.type "list",data:=.seq vs.toArray }) (hi:IntsAre vs ns) (hl:ns.length<=sizeLine) (hr:fR k callerA)
  (F:∀ base:Heap,K.In base->base.Ns mainGlobals mg->cF P w K mg base CX k fa fd [x] sp) (hbind:∀ (s:Shared) (u:Value),BindsTo s fd ⟨[u],[]⟩ [(x,u)])
  (hsp:∀ H:Hp,KM H->fH K H a (ns.map V.int)->sp [.ref a] H (fun v _=>v = .bl true) fun _ _ _=>False)
  (hCX:∀ H e s',CX [] H s₁ (fun _ _ _=>False) e s'->False) :
  codeAny (model P w) callerA (.call (.ref fa) ⟨[.ref a],[]⟩) (fun r s'=>r = .ok (.ret (.bool true))/\OldK s₁.heap s'.heap/\s'.os=s₁.os/\AllBare s'.gens) s₁:=by
 have rv:=qW hi
 have lenV:=hi.length
 -- from an abstract heap in which nothing but the script may be tracked
 have core:∀ H:Hp,KM H->fH K H a (ns.map V.int)->iG P w H s₁.heap->(∀ b,H b≠none->b=a)->(H a≠none->K.lookup a=none) ->
   codeAny (model P w) callerA (.call (.ref fa) ⟨[.ref a],[]⟩) (fun r s'=>r = .ok (.ret (.bool true))/\OldK s₁.heap s'.heap/\s'.os=s₁.os/\AllBare s'.gens) s₁:=by
  intro H hO hS hok hA hK
  have base_of:∀ {b:Addr} {o:Obj},s₁.heap.get? b=some o->H b=none->(hidT s₁.heap H).get? b=some o:=fun e n=>D6 e n
  have noA:∀ {b:Addr} {o:Obj} {es:Array DictEntry} {ep:Nat},s₁.heap.get? b=some o->o.data = .dict es ep->H b=none:=fun {b o es ep} e d=>by
   cases q:H b with
   | none=>rfl
   | some u =>
    have e':b=a:=hA b (by rw [q];simp)
    subst e'
    rw [ha] at e;cases e
    have d':Data.seq vs.toArray _=Data.dict es ep:=d
    cases d'
  have nsK:∀ {b:Addr} {m:eJ},s₁.heap.Ns b m->(hidT s₁.heap H).Ns b m:=fun {b m} ⟨o,es,ep,e,d,r⟩=>⟨o,es,ep,base_of e (noA e d),d,r⟩
  have hKb:K.In (hidT s₁.heap H):=fun b o e=>base_of (KX b o e) (by
   cases q:H b with
   | none=>rfl
   | some u =>
    have e':b=a:=hA b (by rw [q];simp)
    subst e'
    rw [hK (by rw [q];simp)] at e;cases e)
  have hM:Mod K mg (hidT s₁.heap H):=⟨hKb,nsK hns,⟨mb,nsK hb,hbb⟩,let ⟨mc,h1,h2⟩:=hlim;⟨mc,nsK h1,h2⟩⟩
  have e0:uG P w K mg (hidT s₁.heap H) callerA [] s₁ H:=⟨rfl,hM,fun b o e=>GN e,Nat.le_of_eq (AX _ _),trivial,fun b hb=>absurd (show b ∈ ([]:List Addr) from hb) (by simp),hok,.of_eq hg⟩
  refine codeAny_mono ((F _ hKb (nsK hns)).run callerA [] s₁ H ⟨[.ref a],[]⟩ [.ref a] [.ref a] _ _ hr e0 (hbind s₁ (.ref a)) (.cons rfl .nil) (hsp H hO hS)) fun r s' h=>?_
  cases r with
  | error e=>exact (hCX H e s' h).elim
  | ok fl =>
   cases fl with
   | next=>exact False.elim h
   | brk=>exact False.elim h
   | cont=>exact False.elim h
   | ret u =>
    obtain ⟨v,H',os,bare,un,hok',r',q⟩:=h
    have q':v = .bl true:=q
    subst q'
    obtain rfl:u=Value.bool true:=r'
    refine ⟨rfl,OldK.of_keep fun b o e=>?_,os,bare⟩
    cases q:H b with
    | none=>exact un.keep b o e q (by intro z;exact absurd (show b ∈ ([]:List Addr) from z) (by simp)) (by simp)
    | some u =>
     rcases hO b with z | ⟨ob,xs,z⟩
     ·rw [q] at z;cases z
     ·have z2:=un.frzs b ob _ z
      obtain ⟨e1,_⟩:=hok b _ z
      obtain ⟨e2,_⟩:=hok' b _ z2
      rw [e] at e1;cases e1
      exact e2
 cases hk:K.lookup a with
 | some o =>
  -- the script is one of the module's own objects
  have e:=KX a o hk
  rw [ha] at e
  cases e
  refine core (fun _=>none) (fun _=>.inl rfl) (.inr ⟨_,vs.toArray,_,hk,rfl,rfl,rfl,by rw [List.size_toArray,lenV];exact hl,by simpa using rv⟩) (fun b u z=>by have z':(none:Option HO)=some u:=z;cases z') (fun b z=>absurd rfl z) fun z=>absurd rfl z
 | none =>
  refine core (fun b=>if b=a then some (.frz { cls:=.type "list",data:=.seq vs.toArray } (.lst (ns.map V.int))) else none) (fun b=>?_) (.inl (.inr ⟨{ cls:=.type "list",data:=.seq vs.toArray },if_pos rfl⟩)) (fun b u z=>?_) (fun b z=>?_) fun _=>hk
  ·by_cases hb:b=a
   ·exact .inr ⟨_,_,if_pos hb⟩
   ·exact .inl (if_neg hb)
  ·by_cases hb:b=a
   ·have z':=(if_pos hb).symm.trans z
    cases z'
    subst hb
    exact ⟨ha,by rw [List.length_map];exact hl,vs,_,rv,ha⟩
   ·have z':=(if_neg hb).symm.trans z
    cases z'
  ·by_cases hb:b=a
   ·exact hb
   ·exact absurd (if_neg hb) z
theorem FA {l:PySem.W.OpenLaw}{n k:Nat}{q:Program}{loose:aW}{XP:(eJ)->Heap->Prop}{YP:World->Heap->Prop}{d:DefRec}{K:Params->PySem.W.Frag}{CX:World->sG}{sp:World->Sp}{x:Str}
  (hn:l.most=some n) (hn2:n<=sizeLine) (hdf:d.params.defaults=[]) (hr:fR k callerA)
  (hY:∀ (w:World) (h:Heap),YP w h->(K w.params).In h)
  (F:∀ (w:World) (mg:eJ) (fa:Addr) (h:Heap),(K w.params).In h->h.Ns mainGlobals mg->mg d.name=some (.ref fa) ->
   ∃ fd:FuncData,(∀ (s:Shared) (u:Value),BindsTo s fd ⟨[u],[]⟩ [(x,u)]) /\
    ∀ base:Heap,(K w.params).In base->base.Ns mainGlobals mg->cF l.prog w (K w.params) mg base (CX w) k fa fd [x] (sp w))
  (hsp:∀ (w:World) (H:Hp) (a:Addr) (ns:List Int),ns.length<=n->KM H->fH (K w.params) H a (ns.map V.int)->sp w [.ref a] H (fun v _=>v = .bl true) fun _ _ _=>False)
  (hCX:∀ (w:World) (H:Hp) (s:Shared) (e:Value) (s':Shared),CX w [] H s (fun _ _ _=>False) e s'->False) :
  PySem.W.WalkO q loose XP YP l.row.toRowW d [] (fun f vs=>PySem.call f vs):=by
 refine Att.vS hn hdf fun w s₀ s₁ mg mb fa o pm cd doc a vs ns G Y ho hd hcd hmg hobj hints hlen hg=>?_
 have KX:=hY w _ Y
 obtain ⟨fd,hb,hF⟩:=F w mg fa _ KX G.T.g hmg
 exact D1 KX G.T.g G.T.b G.T.builtins G.T.nolimit hg hobj hints (Nat.le_trans hlen hn2) hr hF hb (fun H hO hS=>hsp w H a ns hlen hO hS) fun H e s'=>hCX w H s₁ e s'
noncomputable abbrev bP:sG:=fun _ _ _ _ _ _=>False
noncomputable abbrev E0:XK:=fun _ _ _=>False
theorem pass0 {X:Cx}:fY bP X E0:=fun _ _ _ _ _ _ _ h=>h.elim
structure gN (K:PySem.W.Frag)(x qual:Str)(st:Stmt)(f:Addr)(fd:FuncData):Prop where
 ex:∃ (oc:Value) (od:Option Addr) (kV doc pm:Value) (an:Option Addr) (cdv ct:Value) (osl:Array (Option Value)),
  fd=PySem.W.fnOf x qual (aT st) (aM st) (aD st) .none kV doc pm an cdv ct/\K.lookup f=some ⟨oc,od,.func fd,osl⟩/\PySem.W.codeIn K cdv qual=true
 kp:PySem.W.keepIn K (.ref f)=true
section
variable {P:Program}{w:World}{K:PySem.W.Frag}{mg:eJ}{base:Heap}
theorem gN.ok {x qual:Str}{st:Stmt}{f:Addr}{fd:FuncData}{N ps:aW}{k:Nat}{sp:Sp}(F:gN K x qual st f fd)(S:aZ N ps (aD st))(len:∀ vs H Q E,sp vs H Q E->vs.length=ps.length)
  (hbody:∀ (cdv:Value) (A:Around) (outer:List Env) (s:Shared) (H:Hp) (vs:List V) (Q:VK) (E:XK),fR k (A.deeper (envOfC qual (aD st) s.heap.objs.size f cdv))->sp vs H Q E ->
   ∃ t,oH (cxOf bP P w K mg base N qual (aD st) f cdv A outer s H E).nox (aM st) t/\t { nx:=fun _ H'=>Q .non H',rt:=Q } (start N vs) H):cF P w K mg base bP (k + 1) f fd ps sp:=by
 obtain ⟨oc,od,kV,doc,pm,an,cdv,ct,osl,rfl,lk,hcd⟩:=F.ex
 refine IA lk hcd S len fun A outer s H vs Q E hr hsp=>?_
 obtain ⟨t,h,q⟩:=hbody cdv A outer s H vs Q E hr hsp
 exact ⟨t,h.nox,q⟩
theorem gN.binds {x qual:Str}{st:Stmt}{f:Addr}{fd:FuncData}{ps:aW}(F:gN K x qual st f fd)
  (h:∀ (kV doc pm:Value) (an:Option Addr) (cdv ct:Value) (us:cE),us.length=ps.length->bindArgs (PySem.W.fnOf x qual (aT st) (aM st) (aD st) .none kV doc pm an cdv ct) ⟨us,[]⟩=pure (ps.zip us)):fK K fd ps []:=by
 obtain ⟨oc,od,kV,doc,pm,an,cdv,ct,osl,rfl,lk,hcd⟩:=F.ex
 exact .all (h kV doc pm an cdv ct)
theorem bL {x qual:Str}{st:Stmt}{f:Addr}{oc:Value}{od an:Option Addr}{osl:Array (Option Value)}{kV doc pm cdv ct:Value}(l:K.lookup f=some ⟨oc,od,.func (PySem.W.fnOf x qual (aT st) (aM st) (aD st) .none kV doc pm an cdv ct),osl⟩)
  (c:PySem.W.codeIn K cdv qual=true) (k:PySem.W.keepIn K (.ref f)=true):gN K x qual st f (PySem.W.fnOf x qual (aT st) (aM st) (aD st) .none kV doc pm an cdv ct):=⟨⟨oc,od,kV,doc,pm,an,cdv,ct,osl,rfl,l,c⟩,k⟩
end
section
variable {X:Cx}
theorem pv (i:Nat){x:Str}{pos:Pos}(hN:X.N[i]?=some x:=by rfl)(hv:LH X.env.scope x:=by first | exact Or.inl rfl | exact Or.inr (Or.inl rfl) | exact Or.inr (Or.inr rfl))(hd:(x == ("__debug__" : Str))=false:=by decide)
  (hcd:(x == ("__classdict__" : Str))=false:=by decide):PE X (.Name x pos) (tVar i):=JH hN hv hd hcd
end
theorem ite2 {c A B:Prop}[Decidable c](h1:c->A)(h2:¬ c->B):if c then A else B:=by
 by_cases h:c
 ·rw [if_pos h]
  exact h1 h
 ·rw [if_neg h]
  exact h2 h
noncomputable def aJ (H H':Hp):Prop:=∀ b o,H b=some o->H' b=some o
theorem aJ.refl (H:Hp):aJ H H:=fun _ _ h=>h
theorem aJ.trans {H H1 H2:Hp}(a:aJ H H1)(b:aJ H1 H2):aJ H H2:=fun c o h=>b c o (a c o h)
theorem aJ.free {H H':Hp}(e:aJ H H'){l:Addr}(h:H' l=Option.none):H l=Option.none:=by
 cases q:H l with
 | none=>rfl
 | some o =>
  rw [e l o q] at h
  cases h
theorem aJ.seq {K:PySem.W.Frag}{H H':Hp}{a:Addr}{xs:List V}(e:aJ H H')(h:fH K H a xs):fH K H' a xs:=by
 rcases h with (h | ⟨o,h⟩) | h
 ·exact .inl (.inl (e _ _ h))
 ·exact .inl (.inr ⟨o,e _ _ h⟩)
 ·exact .inr h
section
variable {κ:Type}[DecidableEq κ]
noncomputable def valV (kvs:List (κ×V))(k:κ):Option V:=(kvs.find? fun kv=>decide (kv.1=k)).map (·.2)
noncomputable def putK (kvs:List (κ×V))(k:κ)(v:V):List (κ×V) :=
 if (kvs.any fun kv=>decide (kv.1=k))=true then kvs.map (fun kv=>if kv.1=k then (kv.1,v) else kv) else kvs ++ [(k,v)]
theorem lS {p:κ×V}{r:List (κ×V)}{k:κ}(e:p.1=k):valV (p :: r) k=some p.2:=by simp [valV,List.find?_cons,e]
theorem lT {p:κ×V}{r:List (κ×V)}{k:κ}(e:¬ p.1=k):valV (p :: r) k=valV r k:=by simp [valV,List.find?_cons,e]
theorem vE (kvs:List (κ×V))(k:κ)(v:V):(putK kvs k v).length<=kvs.length + 1:=by
 unfold putK
 split
 ·rw [List.length_map];omega
 ·rw [List.length_append,List.length_cons,List.length_nil];omega
theorem mT.getD {o:Option V}{u:Option Value}{d:V}{d':Value}(r:mT o u)(rd:aQ d d'):aQ (o.getD d) (u.getD d'):=by
 cases o with
 | none=>cases u with
  | none=>exact rd
  | some _=>exact (show False from r).elim
 | some _=>cases u with
  | none=>exact (show False from r).elim
  | some _=>exact r
theorem KV.val {kvs:List (κ×V)}{vs:List (κ×Value)}(r:KV kvs vs)(k:κ):mT (valV kvs k) (valueAt vs k):=by
 unfold KV at r
 induction r with
 | nil=>exact True.intro
 | @cons p q ps qs h t ih =>
  obtain ⟨h1,h2⟩:=h
  by_cases e:p.1=k
  ·have e':q.1=k:=h1.symm.trans e
   have b:valueAt (q :: qs) k=some q.2:=by simp [valueAt,List.find?_cons,e']
   rw [lS e,b];exact h2
  ·have e':¬ q.1=k:=fun z=>e (h1.trans z)
   have b:valueAt (q :: qs) k=valueAt qs k:=by simp [valueAt,List.find?_cons,e']
   rw [lT e,b];exact ih
theorem KV.any {kvs:List (κ×V)}{vs:List (κ×Value)}(r:KV kvs vs)(k:κ):(kvs.any fun kv=>decide (kv.1=k))=vs.any fun kv=>decide (kv.1=k):=by
 unfold KV at r
 induction r with
 | nil=>rfl
 | cons h t ih=>rw [List.any_cons,List.any_cons,ih,h.1]
theorem KV.repl {kvs:List (κ×V)}{vs:List (κ×Value)}(r:KV kvs vs)(k:κ){y:V}{u:Value}(ry:aQ y u) :
  KV (kvs.map fun kv=>if kv.1=k then (kv.1,y) else kv) (vs.map fun kv=>if kv.1=k then (kv.1,u) else kv):=by
 unfold KV at r ⊢
 induction r with
 | nil=>exact .nil
 | @cons p q ps qs h t ih =>
  rw [List.map_cons,List.map_cons]
  refine .cons ?_ ih
  obtain ⟨h1,h2⟩:=h
  by_cases e:p.1=k
  ·rw [if_pos e,if_pos (h1.symm.trans e)];exact ⟨h1,ry⟩
  ·rw [if_neg e,if_neg (fun z=>e (h1.trans z))];exact ⟨h1,h2⟩
theorem KV.put {kvs:List (κ×V)}{vs:List (κ×Value)}(r:KV kvs vs)(k:κ){y:V}{u:Value}(ry:aQ y u):KV (putK kvs k y) (stored vs k u):=by
 unfold putK stored
 rw [r.any k]
 by_cases e:(vs.any fun kv=>decide (kv.1=k))=true
 ·rw [if_pos e,if_pos e];exact r.repl k ry
 ·rw [if_neg e,if_neg e];exact Paired.snoc r ⟨rfl,ry⟩
theorem KV.length {kvs:List (κ×V)}{vs:List (κ×Value)}(r:KV kvs vs):kvs.length=vs.length:=Paired.length r
end
theorem vG {P:Program}{w:World}{k:eZ}{u:Value}(r:aQ (kV k) u):(cB P w).is k u=true:=by
 cases k with
 | inl i=>obtain ⟨t,e⟩:=(show ∃ t,u=Value.int i t from r);subst e;exact vB P w i t
 | inr x=>obtain ⟨t,e⟩:=(show ∃ t,u=Value.str x t from r);subst e;exact vA P w x t
theorem rJ {P:Program}{w:World}:∀ {ks:List eZ} {us:cE},aV (ks.map kV) us->ItemsAre (cB P w) ks us
 | [],_,r=>by rw [List.map_nil] at r;cases r;exact .nil
 | k :: ks,_,r=>by
  rw [List.map_cons] at r
  cases r with
  | cons h t=>exact .cons (vG h) (rJ t)
noncomputable abbrev KT (H:Hp):List (List eZ×V)->List (List eZ×Addr×Value)->Prop:=Paired fun p q=>p.1=q.1/\H q.2.1=some (.tup (p.1.map kV))/\aQ p.2 q.2.2
theorem KT.val {H:Hp}{kvs:List (List eZ×V)}{xs:List (List eZ×Addr×Value)}(r:KT H kvs xs)(k:List eZ):mT (valV kvs k) ((atKey xs k).map (·.2)):=by
 induction r with
 | nil=>exact True.intro
 | @cons p q ps qs h t ih =>
  obtain ⟨h1,_,h2⟩:=h
  by_cases e:p.1=k
  ·have e':q.1=k:=h1.symm.trans e
   have b:atKey (q :: qs) k=some q.2:=by simp [atKey,List.find?_cons,e']
   rw [lS e,b];exact h2
  ·have e':¬ q.1=k:=fun z=>e (h1.trans z)
   have b:atKey (q :: qs) k=atKey qs k:=by simp [atKey,List.find?_cons,e']
   rw [lT e,b];exact ih
section
variable {P:Program}{w:World}{H:Hp}{h:Heap}{a:Addr}
theorem HU {u:HO}(ok:iG P w H h)(e:Rd H a u):bY P w H h a u:=e.ok ok
theorem zK {kvs:List (eZ×V)}(ok:iG P w H h)(e:Rd H a (.dK kvs)):kvs.length<=sizeLine/\(a == sysModules)=false/\∃ vs,KV kvs vs/\h.DictOf (cB P w) a vs :=
 show bY P w H h a (.dK kvs) from HU ok e
theorem EG {kvs:List (eZ×V)}(ok:iG P w H h)(e:H a=some (.dK kvs)):kvs.length<=sizeLine/\(a == sysModules)=false/\∃ vs,KV kvs vs/\h.DictOf (cB P w) a vs:=zK ok (.inl e)
theorem D3 {ks:List eZ}(ok:iG P w H h)(e:H a=some (.tup (ks.map kV))):(tupleKind (cB P w)).is h ks a:=by
 obtain ⟨_,its,r,o,h1,h2,n,h3⟩:=(show bY P w H h a (.tup (ks.map kV)) from ok a _ e)
 exact ⟨o,its.toArray,n,h1,h2,h3,by simpa using rJ r⟩
theorem IB {kvs:List (List eZ×V)}(ok:iG P w H h)(e:Rd H a (.dT kvs)):kvs.length<=sizeLine/\(a == sysModules)=false /\
  ∃ xs,KT H kvs xs/\h.DictOfH (tupleKind (cB P w)) a xs:=by
 obtain ⟨z,y,xs,r,o,es,ep,h1,h2,h3,h4,h5⟩:=(show bY P w H h a (.dT kvs) from HU ok e)
 refine ⟨z,y,xs,r,o,es,ep,h1,h2,h3,h4,fun x hx=>?_,h5⟩
 have all:∀ {l:List (List eZ×V)} {m:List (List eZ×Addr×Value)},KT H l m->∀ x ∈ m,(tupleKind (cB P w)).is h x.1 x.2.1:=by
  intro l m q
  induction q with
  | nil=>intro x hx;exact nomatch hx
  | @cons p q ps qs hq t ih =>
   intro x hx
   rcases List.mem_cons.mp hx with e | hx
   ·subst e
    exact D3 ok (by rw [← hq.1];exact hq.2.1)
   ·exact ih x hx
 exact all r x hx
end
noncomputable def BN (H:Hp)(a:Addr)(y:V)(r:Option V):Prop :=
 (∃ kvs k,Rd H a (.dK kvs)/\y=kV k/\r=valV kvs k)∨∃ kvs k b,Rd H a (.dT kvs)/\y = .ref b/\H b=some (.tup (k.map kV))/\r=valV kvs k
theorem BN.k {H:Hp}{a:Addr}{kvs:List (eZ×V)}{k:eZ}(e:H a=some (.dK kvs)):BN H a (kV k) (valV kvs k):=.inl ⟨kvs,k,.inl e,rfl,rfl⟩
section
variable {X:Cx}{pins:cZ}{σ:St}{H:Hp}{s:Shared}{a:Addr}{y v:V}{u r:Value}{o:Option V}{A:Around}{E:cY}
theorem aN.big (I:aN X pins σ H s):sysModules < s.heap.objs.size:=by
 have h:mainGlobals < s.heap.objs.size:=(I.mod.glob.keeps I.bk).lt
 exact Nat.lt_trans (by decide) h
theorem G4 {h':Heap}{t':Nat}{ob:HO}(I:aN X pins σ H s)(mu:LC (H a))(hs:Heap.SameBut a s.heap h')(he:∃ q,h'.get? a=some q)(new:bY X.prog X.w (upd H a ob) h' a ob) :
  aN X pins σ (upd H a ob) { s with heap:=h',toks:=t' } :=
 I.write (x:=a) (e:=a) mu (.inl rfl) (fun b q hb z=>(hs.2 b hb).trans z) he new
theorem EH {P:Program}{w:World}{H':Hp}{h':Heap}{kvs:List (eZ×V)}{vs:List (eZ×Value)}(z:kvs.length<=sizeLine)(hd:(a == sysModules)=false)(rel:KV kvs vs)(dd:h'.DictOf (cB P w) a vs) :
  bY P w H' h' a (.dK kvs):=⟨z,hd,vs,rel,dd⟩
end
section
variable {X:Cx}{pins:cZ}{σ:St}{H:Hp}{s:Shared}{a:Addr}{kvs:List (eZ×V)}{k:eZ}{u:Value}{A:Around}{E:cY}
theorem K6 {Q:cY}(I:aN X pins σ H s)(e:Rd H a (.dK kvs))(h:∀ t s',aN X pins σ H s'->Q (.int kvs.length t) s'):wpAny (model X.prog X.w) A (call (.builtin "len") [.ref a]) Q E s:=by
 obtain ⟨z,hd,vs,rel,dd⟩:=zK I.hok e
 refine call_len_dict hd dd (by rw [← rel.length];rw [sizeLine_eq] at z;omega) ?_
 rw [← rel.length]
 exact h _ _ (I.tok _)
end
theorem vL {P:Program}{w:World}{H:Hp}(h:Heap)(hb:sysModules < h.objs.size):bY P w H (h.push { cls:=.type "dict",data:=.dict #[] }) h.objs.size (.dK []) :=
 ⟨Nat.zero_le _,beq_eq_false_iff_ne.mpr (Ne.symm (Nat.ne_of_lt hb)),[],.nil,Heap.DictOf.new h⟩
noncomputable def IU:TE:=fun _ H Q=>∀ p,H p=none->Q (.ref p) (upd H p (.dK []))
section
variable {X:Cx}{pos:Pos}
theorem CV:PE X (.Dict [] [] pos) IU:=fun pins s σ H Q I h =>
 wpAny_Dict_empty ⟨.ref s.heap.objs.size,_,I.laid (a:=s.heap.objs.size) (o:=.dK []) (t':=s.toks) (fun _ _ q=>Heap.get?_push_of_some _ q) (Nat.le_refl _) (vL s.heap I.big),rfl,h _ (I.hok.fresh (Nat.le_refl _))⟩
end
noncomputable def wI:List (TE×TE)->St->Hp->(List (V×V)->Hp->Prop)->Prop
 | [],_,H,Q=>Q [] H
 | (tk,tv) :: r,σ,H,Q=>tk σ H fun x H1=>tv σ H1 fun y H2=>wI r σ H2 fun ps H3=>Q ((x,y) :: ps) H3
noncomputable abbrev VV:List (V×V)->List (Value×Value)->Prop:=Paired fun p q=>aQ p.1 q.1/\aQ p.2 q.2
noncomputable def LL (X:Cx)(pos:Pos)(keys:List (Option Expr))(values:iW)(trs:List (TE×TE)):Prop :=
 ∀ (pins:cZ) (s:Shared) (σ:St) (H:Hp) (Q:List (V×V)->Hp->Prop),aN X pins σ H s->wI trs σ H Q ->
  wpAny (model X.prog X.w) X.A (evalPairs (pairTrees keys values X.env pos)) (fun vs s'=>∃ ps H',aN X pins σ H' s'/\VV ps vs/\Q ps H') X.xe s
theorem FP {X:Cx}{pos:Pos}:LL X pos [] [] []:=fun pins s σ H Q I h=>pairTrees_nil_walk ⟨[],H,I,.nil,h⟩
theorem CN {X:Cx}{pos:Pos}{k v:Expr}{ks:List (Option Expr)}{vs:iW}{tk tv:TE}{trs:List (TE×TE)}(hk:PE X k tk)(hv:PE X v tv)(hr:LL X pos ks vs trs) :
  LL X pos (some k :: ks) (v :: vs) ((tk,tv) :: trs):=fun pins s σ H Q I h =>
 pairTrees_cons_walk (thn (hk pins s σ H _ I h) fun u s1 ⟨x,H1,I1,rx,q1⟩=>thn (hv pins s1 σ H1 _ I1 q1) fun w2 s2 ⟨y,H2,I2,ry,q2⟩ =>
  thn (hr pins s2 σ H2 _ I2 q2) fun ws s3 ⟨ps,H3,I3,rel,q3⟩=>⟨(x,y) :: ps,H3,I3,.cons ⟨rx,ry⟩ rel,q3⟩)
noncomputable def gH (kvs more:List (eZ×V)):List (eZ×V):=more.foldl (fun acc kv=>putK acc kv.1 kv.2) kvs
theorem KV.merge:∀ {more:List (eZ×V)} {rs:List (eZ×Value)} {kvs:List (eZ×V)} {vs:List (eZ×Value)},KV more rs->KV kvs vs->KV (gH kvs more) (merged vs rs):=by
 intro more rs kvs vs r
 unfold KV at r
 induction r generalizing kvs vs with
 | nil=>intro q;exact q
 | @cons p q ps qs h t ih =>
  intro r0
  have e:KV (putK kvs p.1 p.2) (stored vs q.1 q.2):=by
   have:=r0.put p.1 h.2
   rw [← h.1];exact this
  exact ih e
theorem iP:∀ (more kvs:List (eZ×V)),(gH kvs more).length<=kvs.length + more.length
 | [],kvs=>by show kvs.length<=kvs.length + 0;omega
 | p :: r,kvs=>by
  have h1:=iP r (putK kvs p.1 p.2)
  have h2:=vE kvs p.1 p.2
  show (gH (putK kvs p.1 p.2) r).length<=_
  rw [List.length_cons];omega
theorem qE {P:Program}{w:World}:∀ {kvs:List (eZ×V)} {ws:List (Value×Value)},VV (kvs.map fun kv=>(kV kv.1,kv.2)) ws->∃ rs,Carries (cB P w) ws rs/\KV kvs rs
 | [],_,r=>by rw [List.map_nil] at r;cases r;exact ⟨[],True.intro,.nil⟩
 | p :: kvs,_,r=>by
  rw [List.map_cons] at r
  cases r with
  | @cons a b as bs h t =>
   obtain ⟨rs,c,q⟩:=qE (P:=P) (w:=w) t
   obtain ⟨b1,b2⟩:=b
   exact ⟨(p.1,b2) :: rs,⟨vG h.1,rfl,c⟩,.cons ⟨rfl,h.2⟩ q⟩
noncomputable def tDisp (trs:List (TE×TE)):TE:=fun σ H Q=>∀ p,H p=none->wI trs σ (upd H p (.dK [])) fun ps H2=>H2 p=some (.dK [])/\∃ kvs:List (eZ×V),ps=kvs.map (fun kv=>(kV kv.1,kv.2))/\kvs.length<=15/\Q (.ref p) (upd H2 p (.dK (gH [] kvs)))
theorem FV {X:Cx}{pos:Pos}{keys:List (Option Expr)}{values:iW}{trs:List (TE×TE)}(h:LL X pos keys values trs)(hall:keys.all (·.isSome)=true)(hl:keys.length=values.length)(h0:keys≠[])
  (h15:keys.length<=15):PE X (.Dict keys values pos) (tDisp trs):=by
 intro pins s σ H Q I q
 have hn:=I.hok.fresh (Nat.le_refl s.heap.objs.size)
 have I1:=I.laid (a:=s.heap.objs.size) (o:=.dK []) (h':=s.heap.push { cls:=.type "dict",data:=.dict #[] }) (t':=s.toks) (fun _ _ q=>Heap.get?_push_of_some _ q) (Nat.le_refl _) (vL s.heap I.big)
 refine wpAny_Dict_walk (knd:=cB X.prog X.w) hall hl h0 h15 (thn (h pins _ σ _ _ I1 (q _ hn)) fun ws s2 ⟨ps,H2,I2,rel,e,kvs,ep,lk,q2⟩=>?_)
 subst ep
 obtain ⟨rs,c,rk⟩:=qE (P:=X.prog) (w:=X.w) rel
 obtain ⟨z,hd,vs0,r0,dd⟩:=EG I2.hok e
 cases r0
 refine ⟨rs,c,dd,fun h' dd' hs=>⟨.ref s.heap.objs.size,_,?_,rfl,q2⟩⟩
 have hz:(gH [] kvs).length<=sizeLine:=by
  have h1:=iP kvs []
  rw [List.length_nil] at h1
  rw [sizeLine_eq];omega
 have he:∃ q,h'.get? s.heap.objs.size=some q:=let ⟨q,_,_,hq,_⟩:=dd';⟨q,hq⟩
 exact G4 I2 (by rw [e];exact True.intro) hs he (EH hz hd (rk.merge .nil) dd')
structure M1 (X:Cx)(o:Expr)(m:Str)(apos:Pos)(e:Expr)(cpos:Pos):Prop where
 base:attributeBase o m X.env (eval o X.env)=eval o X.env
 few:((backTo cpos (starEach [e] X.env)).all (fun x=>!x.1) && (backToKw cpos (keywordEach [] X.env)).all (fun x=>x.1.isSome)
  && decide (([e]:iW).length + ([]:List Keyword).length + (if ([]:List Keyword).isEmpty then 0 else 1) < 30))=true
 line:(apos.endLine == cpos.line)=true
 trees:backTo cpos (starEach [e] X.env)=[(false,eval e X.env)]
noncomputable def L1 (H:Hp)(a:Addr):Prop:=(∃ kvs,Rd H a (.dK kvs))∨∃ kvs,Rd H a (.dT kvs)
theorem J4 {X:Cx}{pins:cZ}{σ:St}{H:Hp}{s:Shared}{a:Addr}(I:aN X pins σ H s)(d:L1 H a) :
  s.TypeIs (.ref a) "dict"/\(∀ b,Value.ref a = .ref b->∃ ob,s.heap.get? b=some ob/\ob.dict=none)/\(a == sysModules)=false:=by
 rcases d with ⟨kvs,e⟩ | ⟨kvs,e⟩
 ·obtain ⟨_,hd,vs,_,dd⟩:=zK I.hok e
  refine ⟨dd.typeIs,fun b q=>?_,hd⟩
  cases q
  obtain ⟨ob,_,_,h1,h2,_⟩:=dd
  exact ⟨ob,h1,h2.2.1⟩
 ·obtain ⟨_,hd,xs,_,dd⟩:=IB I.hok e
  refine ⟨dd.typeIs,fun b q=>?_,hd⟩
  cases q
  obtain ⟨ob,_,_,h1,h2,_⟩:=dd
  exact ⟨ob,h1,h2.2.1⟩
section
variable {X:Cx}{pins:cZ}{σ:St}{H:Hp}{s:Shared}{a:Addr}{y d:V}{u r:Value}{o:Option V}{A:Around}{E:cY}
theorem J9 {Q:cY}(hu:A.units + 1 < cLine)(I:aN X pins σ H s)(g:BN H a y o)(ry:aQ y u)(h:∀ w' s',aN X pins σ H s'->aQ (o.getD .non) w'->Q w' s') :
  wpAny (model X.prog X.w) A (call (.builtin "dict.get") [.ref a,u]) Q E s:=by
 rcases g with ⟨kvs,k,e,ey,l⟩ | ⟨kvs,k,b,e,ey,eb,l⟩
 ·subst ey
  obtain ⟨z,hd,vs,rel,dd⟩:=zK I.hok e
  refine call_meetsIn PySem.F.slot_dict_get dd.typeIs PySem.F.entry_dict_get (PySem.F.args_dict_get_2 _ _) (meets_dict_get (cB X.prog X.w) a (vG ry) hd) ⟨_,dd.mapOf,h _ _ (I.tok _) ?_⟩
  rw [l]
  exact (rel.val k).getD rfl
 ·subst ey
  cases (show u=Value.ref b from ry)
  obtain ⟨z,hd,xs,rel,dd⟩:=IB I.hok e
  refine call_meetsIn PySem.F.slot_dict_get dd.typeIs PySem.F.entry_dict_get (PySem.F.args_dict_get_2 _ _) (meetsH_dict_get (tupleKind (cB X.prog X.w)) a b hd) ⟨tupleKind_room_in1 hu,k,xs,D3 I.hok eb,dd,h _ _ (I.tok _) ?_⟩
  rw [l]
  exact (rel.val k).getD rfl
end
noncomputable def IV (td ty:TE):TE:=fun σ H Q=>td σ H fun x H1=>∃ a,x = .ref a/\L1 H1 a/\ty σ H1 fun y H2=>∃ o,BN H2 a y o/\Q (o.getD .non) H2
section
variable {X:Cx}{o e f:Expr}{apos cpos:Pos}{td ty tx:TE}
theorem uV (hu:X.A.units + 1 < cLine)(ho:PE X o td)(he:PE X e ty)(m:M1 X o "get" apos e cpos):PE X (.Call (.Attribute o "get" apos) [e] [] cpos) (IV td ty):=by
 intro pins s σ H Q I h
 refine wpAny_Call_method m.base m.few m.line PySem.F.plainAttrs_dict PySem.F.slot_dict_get PySem.F.type_dict_get (thn (ho pins s σ H _ I h) fun u s1 ⟨x,H1,I1,rx,a,ex,d,q1⟩=>?_)
 subst ex
 obtain rfl:u=Value.ref a:=rx
 obtain ⟨t1,t2,_⟩:=J4 I1 d
 refine ⟨t1,t2,?_⟩
 rw [m.trees]
 refine Calls.callWith_builtin rfl (Calls.evalArgs_plain (Calls.spliced_cons (thn (he pins s1 σ H1 _ I1 q1) fun iv s2 ⟨y,H2,I2,ry,ov,g,q2⟩=>Calls.spliced_nil ?_)))
 exact J9 hu I2 g ry fun w' s3 I3 rw'=>⟨_,H2,I3,rw',q2⟩
end
section
variable {κ:Type}[DecidableEq κ]
theorem yX:∀ {l:List κ} {k:κ},l.Nodup->¬ k ∈ l->(l ++ [k]).Nodup
 | [],k,_,_=>by simp
 | a :: r,k,h,hk=>by
  obtain ⟨h1,h2⟩:=List.nodup_cons.mp h
  show (a :: (r ++ [k])).Nodup
  refine List.nodup_cons.mpr ⟨fun m=>?_,yX h2 fun m=>hk (List.mem_cons.mpr (Or.inr m))⟩
  rcases List.mem_append.mp m with q | q
  ·exact h1 q
  ·exact hk (List.mem_cons.mpr (Or.inl (List.mem_singleton.mp q).symm))
end
section
variable {X:Cx}
theorem BD:cS X (.builtin "len") (fun xs H Q=>∃ a kvs,xs=[V.ref a]/\H a=some (.dK kvs)/\Q (.int kvs.length) H):=by
 intro pins s σ H xs us Q I r h
 obtain ⟨a,kvs,rfl,ha,q⟩:=h
 obtain ⟨u,rfl,ru⟩:=vals1 r
 cases ru
 exact K6 I (.inl ha) fun t s' I'=>⟨.int kvs.length,H,I',⟨t,rfl⟩,q⟩
end
noncomputable def closL (cells:List (Str×Addr)):List (Str×NameKind)->List (Str×Addr)->List (Str×Addr)
 | [],cs=>cs
 | (n,k) :: r,cs=>closL cells r (if k = .free then (n,(cells.lookup n).getD 0) :: cs else cs)
theorem lA {scope:Scope}{env:Env}(h:∀ x ∈ scope.names,x.2 = .free->∃ c,env.cells.lookup x.1=some c):closureFor scope env=pure (closL env.cells scope.names []):=by
 have go:∀ (l:List (Str×NameKind)) (cs:List (Str×Addr)),(∀ x ∈ l,x.2 = .free->∃ c,env.cells.lookup x.1=some c) ->
   (forIn l cs fun (x:Str×NameKind) (r:List (Str×Addr))=>match x with | (name,kind)=>if (kind == NameKind.free)=true then do let a ← cellOf env name;pure (ForInStep.yield ((name,a) :: r)) else pure (ForInStep.yield r):Sem (List (Str×Addr)))=pure (closL env.cells l cs):=by
  intro l
  induction l with
  | nil=>intro cs _;rfl
  | cons x r ih =>
   intro cs hx
   obtain ⟨n,k⟩:=x
   have hr:=fun y hy=>hx y (List.mem_cons_of_mem _ hy)
   rw [List.forIn_cons]
   by_cases hk:k = .free
   ·subst hk
    obtain ⟨c,hc⟩:=hx (n,.free) List.mem_cons_self rfl
    have hc':List.lookup n env.cells=some c:=hc
    have e1:cellOf env n=pure c:=by unfold cellOf;rw [hc']
    simp only [beq_self_eq_true,if_true,e1,pure_bind]
    rw [ih _ hr]
    show _=pure (closL env.cells r (if NameKind.free = .free then (n,(env.cells.lookup n).getD 0) :: cs else cs))
    rw [if_pos rfl,hc']
    rfl
   ·have hb:(k == NameKind.free)=false:=by simpa using hk
    simp only [hb,Bool.false_eq_true,if_false,pure_bind]
    rw [ih _ hr]
    show _=pure (closL env.cells r (if k = .free then (n,(env.cells.lookup n).getD 0) :: cs else cs))
    rw [if_neg hk]
 exact (congrArg (fun (m:Sem (List (Str×Addr)))=>m >>= fun s=>pure s) (go scope.names [] h)).trans rfl
theorem rS {cells:List (Str×Addr)}{x:Str}{c:Addr}:∀ (l:List (Str×NameKind)) (cs:List (Str×Addr)),(closL cells l cs).lookup x=some c->cs.lookup x=some c∨(x,NameKind.free) ∈ l/\c=(cells.lookup x).getD 0
 | [],_,h=>.inl h
 | (n,k) :: r,cs,h=>by
  unfold closL at h
  rcases rS r _ h with q | ⟨q,e⟩
  ·by_cases hk:k = .free
   ·rw [if_pos hk] at q
    rw [List.lookup_cons] at q
    by_cases hx:x=n
    ·subst hx
     rw [beq_self_eq_true] at q
     subst hk
     exact .inr ⟨List.mem_cons_self,(Option.some.inj q).symm⟩
    ·have hb:(x == n)=false:=by simpa using hx
     rw [hb] at q
     exact .inl q
   ·rw [if_neg hk] at q
    exact .inl q
  ·exact .inr ⟨List.mem_cons_of_mem _ q,e⟩
theorem rT {cells:List (Str×Addr)}{x:Str}:∀ (l:List (Str×NameKind)) (cs:List (Str×Addr)),((x,NameKind.free) ∈ l∨(cs.lookup x).isSome)->((closL cells l cs).lookup x).isSome
 | [],cs,h=>by
  rcases h with h | h
  ·cases h
  ·exact h
 | (n,k) :: r,cs,h=>by
  unfold closL
  refine rT r _ ?_
  by_cases hk:k = .free
  ·rw [if_pos hk,List.lookup_cons]
   by_cases hx:x=n
   ·subst hx
    rw [beq_self_eq_true]
    exact .inr rfl
   ·have hb:(x == n)=false:=by simpa using hx
    rw [hb]
    rcases h with h | h
    ·rcases List.mem_cons.mp h with e | e
     ·cases e;exact absurd rfl hx
     ·exact .inl e
    ·exact .inr h
  ·rw [if_neg hk]
   rcases h with h | h
   ·rcases List.mem_cons.mp h with e | e
    ·cases e;exact absurd rfl hk
    ·exact .inl e
   ·exact .inr h
theorem kF {α β:Type}[BEq α][LawfulBEq α]{x:α}{v:β}:∀ {l:List (α×β)},l.lookup x=some v->(x,v) ∈ l
 | [],h=>by simp at h
 | (n,k) :: r,h=>by
  rw [List.lookup_cons] at h
  by_cases e:x=n
  ·subst e;rw [beq_self_eq_true] at h;cases h;exact List.mem_cons_self
  ·have hb:(x == n)=false:=by simpa using e
   rw [hb] at h
   exact List.mem_cons_of_mem _ (kF h)
theorem jJ {env:Env}{x:Str}:∀ {names:List (Str×NameKind)} {k':NameKind},(∀ y ∈ names,y.2≠.cell) ->
  (names.map fun (n,k)=>if (k == NameKind.free && env.scope.kind == .function && env.kindOf n == some .cell) then (n,NameKind.cell) else (n,k)).lookup x=some k'->(k' = .cell∨k' = .free)->names.lookup x=some .free
 | [],_,_,h,_=>by simp at h
 | (n,k) :: r,k',hc,h,hk'=>by
  have ih:=@jJ env x r k' (fun y hy=>hc y (List.mem_cons_of_mem _ hy))
  have hk:=hc (n,k) List.mem_cons_self
  have h:List.lookup x ((if (k == NameKind.free && env.scope.kind == .function && env.kindOf n == some .cell)=true then (n,NameKind.cell) else (n,k)) :: _)=some k':=h
  by_cases hx:x=n
  ·subst hx
   rw [List.lookup_cons,beq_self_eq_true]
   by_cases q:(k == NameKind.free && env.scope.kind == .function && env.kindOf x == some .cell)=true
   ·simp only [Bool.and_eq_true,beq_iff_eq] at q
    show some k=some .free
    rw [q.1.1]
   ·rw [if_neg q,List.lookup_cons,beq_self_eq_true] at h
    have h:some k=some k':=h
    cases h
    rcases hk' with e | e
    ·exact absurd e hk
    ·show some k=some .free
     rw [e]
  ·have hb:(x == n)=false:=by simpa using hx
   rw [List.lookup_cons,hb]
   by_cases q:(k == NameKind.free && env.scope.kind == .function && env.kindOf n == some .cell)=true
   ·rw [if_pos q,List.lookup_cons,hb] at h
    exact ih h hk'
   ·rw [if_neg q,List.lookup_cons,hb] at h
    exact ih h hk'
theorem jZ {env:Env}{x:Str}:∀ {names:List (Str×NameKind)},names.lookup x=some .free ->
  (names.map fun (n,k)=>if (k == NameKind.free && env.scope.kind == .function && env.kindOf n == some .cell) then (n,NameKind.cell) else (n,k)).lookup x=some .cell ∨
  (names.map fun (n,k)=>if (k == NameKind.free && env.scope.kind == .function && env.kindOf n == some .cell) then (n,NameKind.cell) else (n,k)).lookup x=some .free
 | [],h=>by simp at h
 | (n,k) :: r,h=>by
  have ih:=@jZ env x r
  show List.lookup x ((if (k == NameKind.free && env.scope.kind == .function && env.kindOf n == some .cell)=true then (n,NameKind.cell) else (n,k)) :: _)=_∨List.lookup x ((if (k == NameKind.free && env.scope.kind == .function && env.kindOf n == some .cell)=true then (n,NameKind.cell) else (n,k)) :: _)=_
  by_cases hx:x=n
  ·subst hx
   rw [List.lookup_cons,beq_self_eq_true] at h
   have h:some k=some .free:=h
   cases h
   by_cases q:(NameKind.free == NameKind.free && env.scope.kind == .function && env.kindOf x == some .cell)=true
   ·rw [if_pos q,List.lookup_cons,beq_self_eq_true];exact .inl rfl
   ·rw [if_neg q,List.lookup_cons,beq_self_eq_true];exact .inr rfl
  ·have hb:(x == n)=false:=by simpa using hx
   rw [List.lookup_cons,hb] at h
   by_cases q:(k == NameKind.free && env.scope.kind == .function && env.kindOf n == some .cell)=true
   ·rw [if_pos q,List.lookup_cons,hb];exact ih h
   ·rw [if_neg q,List.lookup_cons,hb];exact ih h
noncomputable def srcOk (N:aW)(names:List (Str×NameKind)):List (Option Nat)->aW->Bool
 | [],[]=>true
 | none :: r,_ :: n=>srcOk N names r n
 | some i :: r,x :: n=>N[i]? == some x && names.lookup x == some .free && srcOk N names r n
 | _,_=>false
theorem nD {N:aW}{names:List (Str×NameKind)}:∀ {src:List (Option Nat)} {n:aW},srcOk N names src n=true->src.length=n.length
 | [],[],_=>rfl
 | none :: r,_ :: n,h=>by simp [nD (src:=r) (n:=n) h]
 | some i :: r,x :: n,h=>by
  simp only [srcOk,Bool.and_eq_true] at h
  simp [nD (src:=r) (n:=n) h.2]
 | [],_ :: _,h=>by simp [srcOk] at h
 | none :: _,[],h=>by simp [srcOk] at h
 | some _ :: _,[],h=>by simp [srcOk] at h
theorem nE {N:aW}{names:List (Str×NameKind)}:∀ {src:List (Option Nat)} {n:aW} {j i:Nat} {x:Str},srcOk N names src n=true->src[j]?=some (some i)->n[j]?=some x->N[i]?=some x/\names.lookup x=some .free
 | [],_,_,_,_,_,h,_=>by simp at h
 | _ :: _,[],_,_,_,_,_,h=>by simp at h
 | none :: r,_ :: n,0,_,_,_,h,_=>by simp at h
 | none :: r,_ :: n,j + 1,_,_,h,h1,h2=>nE (src:=r) (n:=n) (j:=j) h (by simpa using h1) (by simpa using h2)
 | some k :: r,y :: n,0,i,x,h,h1,h2=>by
  simp at h1 h2
  subst h1 h2
  simp only [srcOk,Bool.and_eq_true,beq_iff_eq] at h
  exact h.1
 | some _ :: r,_ :: n,j + 1,_,_,h,h1,h2=>by
  simp only [srcOk,Bool.and_eq_true] at h
  exact nE (src:=r) (n:=n) (j:=j) h.2 (by simpa using h1) (by simpa using h2)
structure bG (X:Cx)(scope:Scope)(N':aW)(src:List (Option Nat)):Prop where
 kind:scope.kind = .function
 cell:∀ y ∈ scope.names,y.2≠.cell
 names:∀ y ∈ scope.names,y.2 = .local->scope.names.lookup y.1=some .local
 free:∀ y ∈ scope.names,y.2 = .free->(X.env.scope.names.lookup y.1=some .cell∨X.env.scope.names.lookup y.1=some .free)
 nd:N'.Nodup
 map:srcOk X.N scope.names src N'=true
noncomputable def stC (src:List (Option Nat))(σ:St):St:=src.map fun o=>o.bind fun i=>(σ[i]?).join
noncomputable def blk (X:Cx)(scope:Scope)(N':aW)(C:Addr)(s₂:Shared)(H₂:Hp)(fp:List Addr):Cx :=
 { X with N:=N',s₀:=s₂,H₀:=H₂,env:=compEnvC scope (closL X.env.cells scope.names []) C X.env,outer:=X.stack,stack:=X.stack,ex:=fp,fn:=fun _=>false,pn:=[],xe:=fun _ _=>False }
section
variable {X:Cx}{pins:cZ}{σ:St}{H:Hp}{s:Shared}{scope:Scope}{N':aW}{src:List (Option Nat)}
theorem bG.cells (S:bG X scope N' src)(I:aN X pins σ H s):∀ x ∈ scope.names,x.2 = .free->∃ c,X.env.cells.lookup x.1=some c:=fun x hx hk=>I.ok.has x.1 (S.free x hx hk)
theorem bG.cl (S:bG X scope N' src)(I:aN X pins σ H s){x:Str}{c:Addr}(h:(closL X.env.cells scope.names []).lookup x=some c):X.env.cells.lookup x=some c:=by
 rcases rS _ _ h with q | ⟨q,e⟩
 ·simp at q
 ·obtain ⟨d,hd⟩:=S.cells I (x,.free) q rfl
  have hd:X.env.cells.lookup x=some d:=hd
  rw [hd] at e
  rw [hd,e];rfl
theorem bG.clHas (S:bG X scope N' src)(I:aN X pins σ H s){x:Str}(h:scope.names.lookup x=some .free):∃ c,(closL X.env.cells scope.names []).lookup x=some c/\X.env.cells.lookup x=some c:=by
 have q:=rT (cells:=X.env.cells) (x:=x) scope.names [] (.inl (kF h))
 obtain ⟨c,hc⟩:=Option.isSome_iff_exists.mp q
 exact ⟨c,hc,S.cl I hc⟩
theorem bG.ok (S:bG X scope N' src)(I:aN X pins σ H s){fp:List Addr}{C:Addr}(hf:∀ b ∈ fp,j5 X pins H b)(hlt:∀ b ∈ fp,b < s.heap.objs.size)(hC:s.heap.objs.size<=C):(blk X scope N' C s H fp).Ok where
 mod:=I.mod
 kind:=S.kind
 glob:=I.ok.glob
 blt:=I.ok.blt
 above:=hC
 inj:=fun x y c h1 h2=>I.ok.inj x y c (S.cl I h1) (S.cl I h2)
 has:=fun x hx=>by
  have q:scope.names.lookup x=some .free:=by
   rcases hx with h | h
   ·exact jJ S.cell h (.inl rfl)
   ·exact jJ S.cell h (.inr rfl)
  obtain ⟨c,hc,_⟩:=S.clHas I q
  exact ⟨c,hc⟩
 cab:=fun x c h _=>by cases h
 hd:=I.ok.hd
 frames:=I.ok.frames
 stk:=.inl rfl
 exf:=fun b hb=>⟨Nat.ne_of_lt (Nat.lt_of_lt_of_le (hlt b hb) hC),fun x c e=>(hf b hb).2.2.2.2.1 x c (S.cl I e)⟩
 bs:=I.bs
 bsz:=Nat.le_trans I.ok.bsz I.sz
 noex:=fun b o e hb=>by
  rcases (hf b hb).2.2.2.1 with z | z
  ·exact I.ok.noex b o e z
  ·exact absurd (Nat.lt_of_lt_of_le (Heap.lt_size e) (Nat.le_trans I.ok.bsz z)) (Nat.lt_irrefl _)
 exfs:=fun b hb z=>by
  rcases List.mem_cons.mp (I.stkSub b z) with e | e
  ·exact (hf b hb).2.1 e
  ·exact (hf b hb).2.2.1 e
 funs:=I.stack
 frf:=I.stkFree
theorem bG.start (S:bG X scope N' src)(I:aN X pins σ H s){fp:List Addr}{C:Addr}{h':Heap}{tk:Nat}{m:eJ}{pl:cZ}(hf:∀ b ∈ fp,j5 X pins H b)(hlt:∀ b ∈ fp,b < s.heap.objs.size)(hC:s.heap.objs.size<=C)
  (old:∀ b o,s.heap.get? b=some o->h'.get? b=some o) (hns:h'.Ns C m)
  (hpl:∀ p ∈ pl,h'.get? p.1=some p.2/\s.heap.objs.size<=p.1/\p.1≠C/\∀ v,p.2.data≠.cell v) :
  aN (blk X scope N' C s H fp) pl (stC src σ) H { s with heap:=h',toks:=tk } where
 ok:=S.ok I hf hlt hC
 os:=rfl
 bare:=I.bare
 base:=Un.kept old
 loc:=by
  obtain ⟨m0,hn0,hl0⟩:=I.loc
  refine ⟨m,hns,fun j x v h1 h2 h3=>?_⟩
  have h2:(src.map fun o=>o.bind fun i=>(σ[i]?).join)[j]?=some (some v):=h2
  rw [List.getElem?_map] at h2
  cases e:src[j]? with
  | none=>rw [e] at h2;cases h2
  | some o =>
   rw [e] at h2
   cases o with
   | none=>cases h2
   | some i =>
    have h2:some ((σ[i]?).join)=some (some v):=h2
    obtain ⟨e1,e2⟩:=nE S.map e h1
    have hv:σ[i]?=some (some v):=by
     cases q:σ[i]? with
     | none=>rw [q] at h2;cases h2
     | some w=>rw [q] at h2;cases w with
      | none=>cases h2
      | some w=>cases h2;rfl
    have hfr:=S.free (x,.free) (kF e2) rfl
    obtain ⟨u,r,l⟩:=hl0 i x v e1 hv (.inr hfr)
    refine ⟨u,r,.inr ⟨jZ e2,?_⟩⟩
    obtain ⟨c,hc,hc'⟩:=S.clHas I e2
    refine ⟨c,hc,?_⟩
    rcases l with ⟨k,_⟩ | ⟨_,c',hc2,hcell⟩
    ·have k:X.env.scope.names.lookup x=some .local:=k
     have hfr:X.env.scope.names.lookup x=some .cell∨X.env.scope.names.lookup x=some .free:=hfr
     rw [k] at hfr
     rcases hfr with z | z <;> cases z
    ·rw [hc'] at hc2;cases hc2
     obtain ⟨o,ho,hd⟩:=hcell
     exact ⟨o,old _ _ ho,hd⟩
 cell:=fun x c e=>by
  obtain ⟨v,o,ho,hd⟩:=I.cell x c (S.cl I e)
  exact ⟨v,o,old _ _ ho,hd⟩
 free:=I.hok.fresh hC
 freeC:=fun x c e=>I.freeC x c (S.cl I e)
 pin:=fun p hp=>by
  obtain ⟨a,b,c,d⟩:=hpl p (by simpa [blk] using hp)
  refine ⟨a,I.hok.fresh b,c,fun z=>?_,d⟩
  rcases List.mem_cons.mp (I.stkSub _ z) with e | e
  ·exact absurd (Nat.lt_of_lt_of_le I.lt (by rw [← e];exact b)) (Nat.lt_irrefl _)
  ·exact I.nofs b e
 hok:=I.hok.kept old
 len:=by
  show (src.map _).length=N'.length
  rw [List.length_map]
  exact nD S.map
end
noncomputable def sM (ifs:iW)(env:Env):Sem Bool:=forIn ifs true fun c (b:Bool)=>if b=true then isTrue c env (eval c env) >>= fun b=>pure (.yield b) else pure (.yield b)
section
variable (M:Model)(A:Around)(env:Env)(E:cY)
noncomputable def Drawn (it:Value)(tg:Expr)(stop go:Shared->Prop)(s:Shared):Prop :=
 wpAny M A (pyNext it) (fun r t=>r.elim (stop t) fun v=>wpAny M A (letOwnedTupleGo tg it v) (fun _ t=>wpAny M A (assign tg env v) (fun _=>go) E t) E t) E s
noncomputable def xZ (ifs:iW)(lay:Sem Unit)(nxt:Shared->Prop)(s:Shared):Prop :=
 wpAny M A (sM ifs env) (fun ok t=>if ok=true then wpAny M A lay (fun _=>nxt) E t else nxt t) E s
end
noncomputable def pG (p:Pos)(it:Value)(tg:Expr)(env:Env)(k:Sem PySem.Fin):Sem PySem.Fin:=standAt p >>= fun _=>pyNext it >>= fun r=>match r with
 | none=>pure (.done .next)
 | some v=>letOwnedTupleGo tg it v >>= fun _=>assign tg env v >>= fun _=>k
noncomputable def layOn (ifs:iW)(lay:Sem Unit)(env:Env)(c:Code):Sem PySem.Fin:=sM ifs env >>= fun ok=>if ok=true then lay >>= fun _=>again c else again c
noncomputable def p0 (elt:Expr)(acc:Value)(env:Env):Sem Unit:=eval elt env >>= fun x=>call (.builtin "list.append") [acc,x] >>= fun _=>pure ()
section
variable {M:Model}{A:Around}{env:Env}{E:cY}{it:Value}{tg:Expr}{s:Shared}
theorem Drawn.mono {stop go stop' go':Shared->Prop}(h:Drawn M A env E it tg stop go s)(h1:∀ t,stop t->stop' t)(h2:∀ t,go t->go' t):Drawn M A env E it tg stop' go' s :=
 thn h fun r t q=>by
  cases r
  ·exact h1 t q
  ·exact thn q fun _ _ q=>thn q fun _ t q=>h2 t q
theorem Drawn.run {p:Pos}{k:Sem PySem.Fin}{Q:PySem.Fin->Shared->Prop}(h:Drawn M A env E it tg (Q (.done .next)) (fun t=>wpAny M A k Q E t) s):wpAny M A (pG p it tg env k) Q E s:=by
 unfold pG
 refine wpAny_bind (wpAny_standAt (wpAny_bind (thn h fun r t q=>?_)))
 cases r
 ·exact wpAny_pure q
 ·exact wpAny_bind (thn q fun _ _ q=>wpAny_bind q)
theorem xZ.run {ifs:iW}{lay:Sem Unit}{c:Code}{Q:PySem.Fin->Shared->Prop}(h:xZ M A env E ifs lay (Q (.again c)) s):wpAny M A (layOn ifs lay env c) Q E s:=by
 unfold layOn
 refine wpAny_bind (thn h fun ok t q=>?_)
 cases ok
 ·exact wpAny_pure q
 ·exact wpAny_bind (thn q fun _ _ q=>wpAny_pure q)
end
theorem pF (elt tg iter:Expr)(ifs:iW)(scope:Scope)(pos:Pos)(it acc:Value)(env:Env) :
  compTurn (.ListComp elt [⟨tg,iter,ifs,0⟩] scope pos) 0 it acc env=pG iter.pos it tg env (layOn ifs (p0 elt acc env) env (.compLoop (.ListComp elt [⟨tg,iter,ifs,0⟩] scope pos) 0 it acc env)):=rfl
section
variable {prog:Program}{w:World}{A:Around}{R:Result->Shared->Prop}{s:Shared}{tg ce:Expr}{d:Nat}{it acc:Value}{env:Env}{p:Pos}{k:Sem PySem.Fin}
noncomputable abbrev XN (prog:Program)(w:World)(A:Around)(env:Env)(R:Result->Shared->Prop):cY:=notedBy (model prog w) A env fun x t=>R (.error x) t
inductive HM:Expr->Prop
 | lst (e gs sc p):HM (.ListComp e gs sc p)
 | set (e gs sc p):HM (.SetComp e gs sc p)
 | dct (k e gs sc p):HM (.DictComp k e gs sc p)
theorem EI (hk:HM ce){Q:PySem.Fin->Shared->Prop}{E:cY}(h:wpAny (model prog w) A (Sem.onRaise (compTurn ce d it acc env) fun x=>noteFrame x env >>= fun _=>theTreesLotGoes x) Q E s):wpAny (model prog w) (A.under (.compLoop ce d it acc env)) ((model prog w).den (.compLoop ce d it acc env)) Q E s:=by
 cases hk <;> exact h
theorem A4 (hk:HM ce){Q:PySem.Fin->Shared->Prop}{E:cY}(h:wpAny (model prog w) A (compStart ce d it acc env) Q (notedBy (model prog w) A env E) s):wpAny (model prog w) (A.under (.compStart ce d it acc env)) ((model prog w).den (.compStart ce d it acc env)) Q E s:=by
 cases hk <;> exact wpAny_notedAt h
theorem xH (hk:HM ce)(hb:compTurn ce d it acc env=pG p it tg env k)(I:Nat->Shared->Prop)
  (turn:∀ n s,I n s->Drawn (model prog w) A env (XN prog w A env R) it tg (R (.ok .next)) (fun t=>wpAny (model prog w) A k (fun f t=>f = .again (.compLoop ce d it acc env)/\∃ m,m < n/\I m t) (XN prog w A env R) t) s)
  (n:Nat) (h:I n s):codeAny (model prog w) A (.compLoop ce d it acc env) R s:=by
 apply codeAny_loop rfl I _ n h
 intro n s i
 have q:=turn n s i
 apply EI hk
 rw [hb]
 apply wpAny_noted
 apply Drawn.run
 exact q.mono (fun _ z=>z) fun t z=>thn z fun f t ⟨hf,m⟩=>by subst hf;exact ⟨rfl,m⟩
end
noncomputable def KJ (X:Cx)(ifs:iW)(t:TT):Prop :=
 ∀ (pins:cZ) (s:Shared) (σ:St) (H:Hp) (Q:Bool->Hp->Prop),aN X pins σ H s->t σ H Q->wpAny (model X.prog X.w) X.A (sM ifs X.env) (TP X pins σ Q) X.xe s
noncomputable def tYes:TT:=fun _ H Q=>Q true H
theorem eD {X:Cx}:KJ X [] tYes:=fun _ _ _ H _ I h=>wpAny_tests_nil ⟨H,I,h⟩
theorem kT {X:Cx}{c:Expr}{t:TT}(h:PT X c t):KJ X [c] t:=fun pins s σ H Q I q=>wpAny_tests_one (h pins s σ H Q I q)
noncomputable abbrev KY (β:Type):=Nat->Nat->β->St->Hp->Prop
noncomputable abbrev CW:=KY (List V)
structure sC (Y:Cx)(tg:Expr)(J:It)(fp:List Addr)(it:Addr)(tn:HG):Prop where
 obj:∀ i h,tn i h->∀ b ∈ fp,∃ o,h.get? b=some o/\∀ v,o.data≠.cell v
 keep:∀ i h h',tn i h->(∀ b ∈ fp,∀ o,h.get? b=some o->h'.get? b=some o)->tn i h'
 item:∀ (i:Nat) (pins:cZ) (s:Shared) (σ:St) (H:Hp) (E:cY),aN Y pins σ H s->(∀ b ∈ fp,j5 Y pins H b)->tn i s.heap->J.go i H ->
  wpAny (model Y.prog Y.w) Y.A (pyNext (.ref it)) (fun r s1=>∃ u,r=some u /\
   wpAny (model Y.prog Y.w) Y.A (letOwnedTupleGo tg (.ref it) u) (fun _ s2=>∃ x H',aN Y pins σ H' s2/\aQ x u/\J.yld i H x H'/\tn (i + 1) s2.heap/\∀ b ∈ fp,H' b=none) E s1) E s
 done:∀ (i:Nat) (pins:cZ) (s:Shared) (σ:St) (H:Hp) (E:cY),aN Y pins σ H s->(∀ b ∈ fp,j5 Y pins H b)->tn i s.heap->J.stop i H ->
  wpAny (model Y.prog Y.w) Y.A (pyNext (.ref it)) (fun r s1=>r=none/\aN Y pins σ H s1) E s
 self:∀ (A:Around) (i:Nat) (s:Shared) (Q:cY) (E:cY),tn i s.heap->Q (.ref it) s->wpAny (model Y.prog Y.w) A (pyIter (.ref it)) Q E s
theorem qV.y {Y:Cx}{tg:Expr}{J:It}{fp:List Addr}{it:Addr}{tn:HG}(T:qV Y.prog Y.w Y.K tg J fp it tn)(hc:Y.calm=true):sC Y tg J fp it tn :=
 ⟨T.obj,T.keep,T.item Y rfl rfl rfl hc,T.done Y rfl rfl rfl hc,T.self⟩
noncomputable def KO {β:Type}(F:Heap->Addr->β->Prop):Prop:=∀ h a x,F h a x->∃ o,h.get? a=some o/\(∀ v,o.data≠.cell v)/\∀ h':Heap,h'.get? a=some o->F h' a x
noncomputable def HL (h:Heap)(a:Addr)(acc:List V):Prop:=acc.length<=sizeLine/\∃ items,h.PlainList a items/\aV acc items.toList
theorem nR:KO HL:=fun _ _ _ ⟨l,it,⟨n,e⟩,r⟩=>⟨_,e,(fun _ z=>nomatch z),fun _ e'=>⟨l,it,⟨n,e'⟩,r⟩⟩
section
variable {β:Type}{F:Heap->Addr->β->Prop}{Y:Cx}{pins:cZ}{D it:Addr}{fp:List Addr}{tn:HG}{J:It}{W:KY β}{Fin:β->St->Hp->Prop}{R:Result->Shared->Prop}{tg:Expr}{g:TG}{Nx:Nat->Nat->β->St->Hp->Prop}
noncomputable def BQ (F:Heap->Addr->β->Prop)(Y:Cx)(pins:cZ)(D:Addr)(fp:List Addr)(tn:HG)(W:KY β)(n:Nat)(s:Shared):Prop :=
 ∃ i σ H acc,aN Y pins σ H s/\tn i s.heap/\(∀ b ∈ fp,H b=none)/\H D=none/\F s.heap D acc/\W i n acc σ H
structure L0 (F:Heap->Addr->β->Prop)(Y:Cx)(D:Addr)(fp:List Addr)(tn:HG)(i:Nat)(acc:β)(more:cZ)(o:Obj):Prop where
 fill:∀ h:Heap,h.get? D=some o->F h D acc
 own:∀ p ∈ more,p.1 ∈ fp
 back:∀ {pl:cZ} {σ:St} {H:Hp} {s:Shared},(∀ p ∈ more,p ∈ pl)->aN Y pl σ H s->tn i s.heap/\∀ b ∈ fp,H b=none
structure oG (Y:Cx)(pins:cZ)(D:Addr)(fp:List Addr):Prop where
 off:D ∉ fp
 list:∀ H:Hp,H D=none->j5 Y pins H D
 iter:∀ H:Hp,(∀ b ∈ fp,H b=none)->∀ b ∈ fp,j5 Y pins H b
theorem JG {a:Addr×Obj}{pn pins more:cZ}:a ∈ pn ++ (pins ++ a :: more):=by simp
theorem oG.pin {σ:St}{H:Hp}{s:Shared}{o:Obj}(P:oG Y pins D fp)(I:aN Y pins σ H s)(hD:H D=none)(ho:s.heap.get? D=some o)(hc:∀ v,o.data≠.cell v):aN Y (pins ++ [(D,o)]) σ H s:=by
 refine I.pins_of fun p hp=>?_
 simp only [List.mem_append,List.mem_singleton] at hp
 rcases hp with hp | rfl
 ·exact I.pin p (List.mem_append_right _ hp)
 ·have f:=P.list H hD
  exact ⟨ho,f.1,f.2.1,f.2.2.1,hc⟩
theorem oG.more {o:Obj}(P:oG Y pins D fp)(H:Hp)(hn:∀ b ∈ fp,H b=none)(b:Addr)(hb:b ∈ fp):j5 Y (pins ++ [(D,o)]) H b:=by
 have f:=P.iter H hn b hb
 refine ⟨f.1,f.2.1,f.2.2.1,f.2.2.2.1,f.2.2.2.2.1,fun p hp z=>?_⟩
 rw [← List.append_assoc,List.mem_append,List.mem_singleton] at hp
 rcases hp with hp | rfl
 ·exact f.2.2.2.2.2 p hp z
 ·exact P.off (show D ∈ fp from (show D=b from z) ▸ hb)
theorem xD {more:cZ}{o:Obj}{σ:St}{H:Hp}{s:Shared}(I:aN Y (pins ++ (D,o) :: more) σ H s):H D=none/\s.heap.get? D=some o/\aN Y pins σ H s:=by
 have q:=I.pin (D,o) JG
 exact ⟨q.2.1,q.1,I.pins_of fun p hp=>I.pin p (by simp [hp])⟩
theorem A3 (hF:KO F)(hx:∀ e s,¬ Y.xe e s)(T:sC Y tg J fp it tn)(P:oG Y pins D fp)(hg:PG Y tg g)
  (turn:∀ i m acc σ H,W i m acc σ H->(J.stop i H/\Fin acc σ H)∨(J.go i H/\∀ x H',J.yld i H x H'->g x σ H' (Nx i m acc)))
  (hR:∀ s σ H acc,aN Y pins σ H s->H D=none->F s.heap D acc->Fin acc σ H->R (.ok .next) s)
  (n:Nat) (s:Shared) (B:BQ F Y pins D fp tn W n s) {E:cY} :
  Drawn (model Y.prog Y.w) Y.A Y.env E (.ref it) tg (R (.ok .next))
   (fun t=>∃ i acc o more σ H,L0 F Y D fp tn (i + 1) acc more o/\aN Y (pins ++ (D,o) :: more) σ H t/\Nx i n acc σ H) s:=by
 obtain ⟨i,σ,H,acc,I,st,fr,fD,sx,w⟩:=B
 obtain ⟨o,ho,hcl,sx2⟩:=hF _ _ _ sx
 have Ip:=P.pin I fD ho hcl
 rcases turn i n acc σ H w with ⟨stop,fin⟩ | ⟨go,step⟩
 ·refine thn (T.done i _ s σ H _ Ip (P.more H fr) st stop) fun r t ⟨hr,It⟩=>?_
  subst hr
  obtain ⟨l1,l2,l3⟩:=xD It
  exact hR t σ H acc l3 l1 (sx2 _ l2) fin
 ·refine thn (T.item i _ s σ H _ Ip (P.more H fr) st go) fun r t ⟨u,hr,q⟩=>?_
  subst hr
  refine thn q fun _ t1 ⟨x,H1,I1,r1,y1,st1,fr1⟩=>?_
  have I1p:=I1.pinned (P.more H1 fr1) (T.obj _ _ st1)
  rw [List.append_assoc] at I1p
  refine wpAny_mono (hg _ t1 σ H1 x u _ I1p r1 (step x H1 y1)) (fun _ t2 ⟨σ2,H2,I2,q2⟩=>?_) fun e t z=>(hx e t z).elim
  refine ⟨i,acc,o,pR fp t1.heap,σ2,H2,⟨sx2,fun p hp=>(rA hp).1,fun {pl σ3 H3 s3} sub I3=>?_⟩,I2,q2⟩
  have at3:∀ b ∈ fp,∀ o,t1.heap.get? b=some o->s3.heap.get? b=some o/\H3 b=none:=fun b hb o e=>by
   have z:=I3.pin (b,o) (List.mem_append_right _ (sub _ (lI hb e)))
   exact ⟨z.1,z.2.1⟩
  refine ⟨T.keep _ _ _ st1 fun b hb o e=>(at3 b hb o e).1,fun b hb=>?_⟩
  obtain ⟨o,e,_⟩:=T.obj _ _ st1 b hb
  exact (at3 b hb o e).2
noncomputable def KP (F:Heap->Addr->β->Prop)(Y:Cx)(D:Addr)(lay:Sem Unit)(q:St->Hp->(β->Hp->Prop)->Prop)(acc:β):Prop :=
 ∀ (E:cY) (pl:cZ) (o:Obj) (σ:St) (H:Hp) (t:Shared) (N:β->Hp->Prop),aN Y pl σ H t->(D,o) ∈ pl->(∀ h:Heap,h.get? D=some o->F h D acc)->q σ H N ->
  wpAny (model Y.prog Y.w) Y.A lay (fun _ t3=>∃ t2 h3 tk H2 acc',t3={ t2 with heap:=h3,toks:=tk }/\aN Y pl σ H2 t2/\Heap.SameBut D t2.heap h3/\F h3 D acc'/\N acc' H2) E t
theorem D0 {ifs:iW}{lay:Sem Unit}{tt:TT}{tl:St->Hp->(β->Hp->Prop)->Prop}{i n:Nat}{acc:β}{more:cZ}{o:Obj}{σ:St}{H:Hp}{t:Shared}{E:cY}(hx:∀ e s,¬ Y.xe e s)(P:oG Y pins D fp)(T:sC Y tg J fp it tn)(ht:KJ Y ifs tt)(hl:KP F Y D lay tl acc)
  (B:L0 F Y D fp tn (i + 1) acc more o) (I:aN Y (pins ++ (D,o) :: more) σ H t)
  (q:tt σ H fun b H3=>if b=true then tl σ H3 fun a H4=>∃ m',m' < n/\W (i + 1) m' a σ H4 else ∃ m',m' < n/\W (i + 1) m' acc σ H3) :
  xZ (model Y.prog Y.w) Y.A Y.env E ifs lay (fun t=>∃ m,m < n/\BQ F Y pins D fp tn W m t) t:=by
 refine wpAny_mono (ht _ t σ H _ I q) (fun ok t1 ⟨H1,I1,q1⟩=>?_) fun e t z=>(hx e t z).elim
 cases ok
 ·rw [if_neg Bool.false_ne_true] at q1 ⊢
  obtain ⟨m,hm,w⟩:=q1
  obtain ⟨b1,b2⟩:=B.back (fun p hp=>by simp [hp]) I1
  obtain ⟨l1,l2,l3⟩:=xD I1
  exact ⟨m,hm,i + 1,σ,H1,acc,l3,b1,b2,l1,B.fill _ l2,w⟩
 ·rw [if_pos rfl] at q1 ⊢
  refine thn (hl _ _ o σ H1 t1 _ I1 (by simp) B.fill q1) fun _ t3 ⟨t2,h3,tk,H2,acc',e3,I2,s3,f3,m,hm,w⟩=>?_
  subst e3
  obtain ⟨b1,b2⟩:=B.back (fun p hp=>by simp [hp]) I2
  obtain ⟨l1,l2,l3⟩:=xD I2
  have f:=P.list H2 l1
  have far:∀ b o,b≠D->t2.heap.get? b=some o->h3.get? b=some o:=fun b o hb e=>s3.extBut b o hb e
  exact ⟨m,hm,i + 1,σ,H2,acc',l3.turned (t':=tk) far f.1 f.2.1 f.2.2.2.1 f.2.2.2.2.1 f.2.2.2.2.2,T.keep _ _ _ b1 fun b hb o e=>far b o (fun z=>P.off (z ▸ hb)) e,b2,l1,f3,w⟩
theorem xZ.go {ifs:iW}{lay:Sem Unit}{c:Code}{n:Nat}{t:Shared}{E:cY}(h:xZ (model Y.prog Y.w) Y.A Y.env E ifs lay (fun t=>∃ m,m < n/\BQ F Y pins D fp tn W m t) t) :
  wpAny (model Y.prog Y.w) Y.A (layOn ifs lay Y.env c) (fun f t=>f = .again c/\∃ m,m < n/\BQ F Y pins D fp tn W m t) E t :=
 xZ.run (thn h fun ok t q=>by
  cases ok
  ·exact ⟨rfl,q⟩
  ·exact thn q fun _ _ q=>⟨rfl,q⟩)
end
noncomputable def tlLst (te:TE)(acc:List V):St->Hp->(List V->Hp->Prop)->Prop:=fun σ H N=>te σ H fun y H4=>acc.length < sizeLine/\N (acc ++ [y]) H4
theorem pZ {Y:Cx}{D:Addr}{elt:Expr}{te:TE}{acc:List V}(hx:∀ e s,¬ Y.xe e s)(he:PE Y elt te):KP HL Y D (p0 elt (.ref D) Y.env) (tlLst te acc) acc:=by
 intro E pl o σ H t N I hm hf q
 refine wpAny_bind (wpAny_mono (he _ t σ H _ I q) (fun y t2 ⟨yv,H2,I2,r2,hl,w⟩=>?_) fun e t z=>(hx e t z).elim)
 obtain ⟨hz,items,p2,rv⟩:=hf _ (I2.pin (D,o) (List.mem_append_right _ hm)).1
 have small:items.size<=sizeLine:=by rw [← Array.length_toList,← rv.length];exact hz
 refine wpAny_bind (wpAny_list_append_plain (hsz:=small) p2 fun h3 p3 s3=>wpAny_pure ⟨t2,h3,t2.toks,H2,acc ++ [yv],rfl,I2,s3,⟨?_,items.push y,p3,?_⟩,w⟩)
 ·rw [List.length_append]
  exact hl
 ·rw [Array.toList_push]
  exact rv.append (.cons r2 .nil)
noncomputable def II (J:It)(g:TG)(tt:TT)(te:TE)(Fin:List V->Hp->Prop)(W:CW):Prop:=∀ i m acc σ H,W i m acc σ H ->
 (J.stop i H/\Fin acc H) ∨
 (J.go i H/\∀ x H',J.yld i H x H'->g x σ H' fun σ2 H2=>tt σ2 H2 fun b H3 =>
  if b=true then te σ2 H3 fun y H4=>acc.length < sizeLine/\∃ m',m' < m/\W (i + 1) m' (acc ++ [y]) σ2 H4 else ∃ m',m' < m/\W (i + 1) m' acc σ2 H3)
noncomputable def tComp (src:List (Option Nat))(wi:TI)(g:TG)(tt:TT)(te:TE):TE:=fun σ H Q=>wi σ H fun J H1=>∃ W:CW,(∃ m,W 0 m [] (stC src σ) H1)/\II J g tt te (fun acc H=>∀ p,H p=none->Q (.ref p) (upd H p (.lst acc))) W
section
variable {prog:Program}{w:World}{A:Around}{ce:Expr}{c:Comprehension}{rest:List Comprehension}
theorem vN (hk:HM ce)(hcl:clausesOf ce=c :: rest)(ha:c.is_async=0){it acc:Value}{env:Env}{R:Result->Shared->Prop}{s:Shared}(h0:codeAny (model prog w) A (.compLoop ce 0 it acc env) R s)
  (h:wpAny (model prog w) A (pyIter it) (fun it' s'=>codeAny (model prog w) A (.compLoop ce 0 it' acc env) R s') (XN prog w A env R) s) :
  codeAny (model prog w) A (.compStart ce 0 it acc env) R s:=by
 apply codeAny_of_tree
 apply A4 hk
 obtain ⟨tg,iter,ifs,_⟩:=c
 cases ha
 unfold compStart
 rw [hcl]
 change wpAny _ _ (ask >>= _) _ _ s
 apply wpAny_bind
 apply wpAny_askSetting
 by_cases b:(⟨(model prog w).prog,(model prog w).w.params⟩:Setting).params.followText "comprehension-iter-twice" = true
 ·rw [if_pos b]
  exact wpAny_pure ⟨rfl,h0⟩
 ·rw [if_neg b]
  refine wpAny_bind (wpAny_rule ?_)
  change wpAny _ _ (standAt iter.pos >>= _) _ _ s
  exact wpAny_bind (wpAny_standAt (wpAny_bind (thn h fun it' s' z=>wpAny_pure ⟨rfl,z⟩)))
noncomputable def EW {β:Type}(F:Heap->Addr->β->Prop)(e0:β)(prog:Program)(w:World)(A:Around)(mk:Sem Value):Prop :=
 ∀ (Q:cY) (E:cY) (s:Shared),(∀ o:Obj,o.isFreed=false->(∀ h:Heap,h.get? s.heap.objs.size=some o->F h s.heap.objs.size e0)->Q (.ref s.heap.objs.size) { s with heap:=s.heap.push o })->wpAny (model prog w) A mk Q E s
theorem nQ:EW HL [] prog w A (newList []):=fun _ _ _ q=>wpAny_newObj_type (q _ rfl fun _ e=>⟨Nat.zero_le _,#[],⟨_,e⟩,.nil⟩)
end
section
variable {β:Type}{F:Heap->Addr->β->Prop}{e0:β}{mk:Sem Value}{ce:Expr}{cls:List Comprehension}{ob:HO}
variable {X:Cx}{scope:Scope}{N':aW}{src:List (Option Nat)}{pins:cZ}{σ:St}{H₂:Hp}{s₂:Shared}{fp:List Addr}{it:Addr}{tn:HG}{J:It}{tg iter:Expr}{ifs:iW}
theorem G8 {pl:cZ}{σc:St}{H':Hp}{s':Shared}{C D:Addr}(I2:aN X pins σ H₂ s₂)(hf:∀ b ∈ fp,j5 X pins H₂ b)
  (I':aN (blk X scope N' C s₂ H₂ fp) pl σc H' s') (hD:s₂.heap.objs.size<=D) (hDn:H' D=none) (ok:bY X.prog X.w (upd H' D ob) s'.heap D ob):aN X pins σ (upd H' D ob) s':=by
 have u:=I'.base
 have neD:∀ b o,s₂.heap.get? b=some o->b≠D:=fun b o e=>Nat.ne_of_lt (Nat.lt_of_lt_of_le (Heap.lt_size e) hD)
 have neT:∀ b o,H' b=some o->b≠D:=fun b o e z=>by rw [z,hDn] at e;cases e
 refine I2.call' (ch:=fp) I'.os ⟨u.keep,u.slot,fun b o e n hx=>?_,u.there,fun b xs e=>?_,fun b o xs e=>?_,fun b ps e=>?_⟩ (fun b o e=>?_) I'.bare fun b hb=>?_
 ·rw [aE (neD b o e)];exact u.free b o e n hx
 ·have q:=u.tups b xs e
  rw [aE (neT b _ q)];exact q
 ·have q:=u.frzs b o xs e
  rw [aE (neT b _ q)];exact q
 ·obtain ⟨more,q⟩:=u.tbls b ps e
  exact ⟨more,by rw [aE (neT b _ q)];exact q⟩
 ·by_cases hb:b=D
  ·subst hb
   rw [upd_same] at e
   cases e
   exact ok
  ·rw [aE hb] at e
   exact (I'.hok b o e).stay (fun _ _ _ q=>q) (fun c q=>by rw [aE (neT c _ q)];exact q) fun c xs q=>by rw [aE (neT c _ q)];exact q
 ·obtain ⟨f0,f1,f2,f3,f4,f5⟩:=hf b hb
  exact ⟨f3,f1,f4,f5⟩
theorem tQ {P:Program}{w:World}{H:Hp}{h:Heap}{a:Addr}{acc:List V}:HL h a acc->bY P w H h a (.lst acc):=fun ⟨hz,items,⟨n,ho⟩,r⟩=>⟨hz,items.toList,n,r,by simpa using ho⟩
structure zT (F:Heap->Addr->β->Prop)(e0:β)(X:Cx)(scope:Scope)(N':aW)(src:List (Option Nat))(s₂:Shared)(H₂:Hp)(σ:St)(fp:List Addr)(tn:HG)(D C:Addr)(t:Shared):Prop where
 at_:s₂.heap.objs.size=D
 le:s₂.heap.objs.size<=C
 ne:D≠C
 place:oG (blk X scope N' C s₂ H₂ fp) [] D fp
 betw:∀ W:KY β,(∃ m,W 0 m e0 (stC src σ) H₂)->∃ m,BQ F (blk X scope N' C s₂ H₂ fp) [] D fp tn W m t
theorem B4 {h h':Heap}{o o':Obj}(ho:o.isFreed=false)(hs:Heap.SameBut (h.push o).objs.size ((h.push o).push o') h'):(∀ b x,h.get? b=some x->h'.get? b=some x)/\h'.get? h.objs.size=some o:=by
 have key:∀ b x,(h.push o).get? b=some x->h'.get? b=some x:=fun b x e=>hs.extBut b x (Nat.ne_of_lt (Heap.lt_size e)) (Heap.get?_push_of_some o' e)
 exact ⟨fun b x e=>key b x (Heap.get?_push_of_some o e),key _ _ (Heap.get?_push_size h ho)⟩
theorem vR {RR:Value->Addr->Result->Shared->Prop}{E:cY}(hmk:EW F e0 X.prog X.w X.A mk)(hk:HM ce)(hcl:clausesOf ce=⟨tg,iter,ifs,0⟩ :: cls)(S:bG X scope N' src)(I2:aN X pins σ H₂ s₂)(T:∀ C,sC (blk X scope N' C s₂ H₂ fp) tg J fp it tn)(st2:tn 0 s₂.heap)(hf:∀ b ∈ fp,j5 X pins H₂ b)
  (k:∀ D C t,zT F e0 X scope N' src s₂ H₂ σ fp tn D C t->codeAny (model X.prog X.w) X.A (.compLoop ce 0 (.ref it) (.ref D) (blk X scope N' C s₂ H₂ fp).env) (RR (.ref D) C) t) :
  wpAny (model X.prog X.w) X.A mk (fun acc s₃=>wpAny (model X.prog X.w) X.A (newFunctionEnv scope X.env.globals (closL X.env.cells scope.names []) [] X.env.qual none .none (some X.env)) (fun cenv s₄ =>
   codeAny (model X.prog X.w) X.A (.compStart ce 0 (.ref it) acc { cenv with scope:=relabel scope X.env }) (RR acc cenv.locals) s₄) E s₃) E s₂:=by
 refine hmk _ _ _ fun o of ox=>?_
 refine wpAny_newFunctionEnv S.cell (fun _ z=>nomatch z) (fun h₁ ns sb=>?_) S.kind
 obtain ⟨old,new⟩:=B4 of sb
 have sz:(s₂.heap.push o).objs.size=s₂.heap.objs.size + 1:=Heap.size_push ..
 dsimp only at ns old new ⊢
 rw [sz] at ns ⊢
 have lt:∀ b ∈ fp,b < s₂.heap.objs.size:=fun b hb=>let ⟨_,e,_⟩:=(T 0).obj 0 _ st2 b hb;Heap.lt_size e
 have st1:tn 0 h₁:=(T 0).keep _ _ _ st2 fun b _ o e=>old b o e
 have off:s₂.heap.objs.size ∉ fp:=fun z=>Nat.lt_irrefl _ (lt _ z)
 have I1:=S.start (tk:=s₂.toks + ([]:List (Str×Value)).length) (pl:=[]) I2 hf lt (Nat.le_succ _) old ns (fun _ z=>nomatch z)
 have pl:oG (blk X scope N' (s₂.heap.objs.size + 1) s₂ H₂ fp) [] s₂.heap.objs.size fp:=by
  refine ⟨off,fun H hn=>?_,fun H hn b hb=>?_⟩
  ·have f:=I2.fpOk (Nat.le_refl _) hn
   refine ⟨hn,Nat.ne_of_lt (Nat.lt_succ_self _),fun z=>?_,.inr (Nat.le_refl _),fun x c e=>f.2.2.2.2.1 x c (S.cl I2 e),fun _ z=>nomatch z⟩
   exact (List.mem_cons.mp (I2.stkSub _ z)).elim f.2.1 f.2.2.1
  ·exact ⟨hn b hb,Nat.ne_of_lt (Nat.lt_succ_of_lt (lt b hb)),I1.ok.exfs b hb,.inl hb,fun x c e=>(hf b hb).2.2.2.2.1 x c (S.cl I2 e),fun _ z=>nomatch z⟩
 have bg:zT F e0 X scope N' src s₂ H₂ σ fp tn s₂.heap.objs.size (s₂.heap.objs.size + 1) { s₂ with heap:=h₁,toks:=s₂.toks + ([]:List (Str×Value)).length } :=
  ⟨rfl,Nat.le_succ _,Nat.ne_of_lt (Nat.lt_succ_self _),pl,fun W ⟨m,w⟩=>⟨m,0,_,H₂,e0,I1,st1,fun b hb=>(hf b hb).1,I2.hok.fresh (Nat.le_refl _),ox _ new,w⟩⟩
 have go:=k _ _ _ bg
 exact vN hk hcl rfl go ((T 0).self _ 0 _ _ _ st1 go)
theorem zT.out {D C:Addr}{t s:Shared}{H':Hp}{σc:St}(B:zT F e0 X scope N' src s₂ H₂ σ fp tn D C t)(I2:aN X pins σ H₂ s₂)(hf:∀ b ∈ fp,j5 X pins H₂ b)(I:aN (blk X scope N' C s₂ H₂ fp) [] σc H' s)(hD:H' D=none)(ok:bY X.prog X.w (upd H' D ob) s.heap D ob) :
  H' C=none/\(∃ m,s.heap.Ns C m)/\aN X pins σ (upd H' D ob) s :=
 ⟨I.free,⟨_,I.loc.choose_spec.1⟩,G8 I2 hf I (Nat.le_of_eq B.at_) hD ok⟩
variable {elt:Expr}{pos:Pos}{g:TG}{tt:TT}{te:TE}{tl:β->St->Hp->(β->Hp->Prop)->Prop}
noncomputable def KU (J:It)(g:TG)(tt:TT)(tl:β->St->Hp->(β->Hp->Prop)->Prop)(Fin:β->Hp->Prop)(W:KY β):Prop:=∀ i m acc σ H,W i m acc σ H ->
 (J.stop i H/\Fin acc H) ∨
 (J.go i H/\∀ x H',J.yld i H x H'->g x σ H' fun σ2 H2=>tt σ2 H2 fun b H3 =>
  if b=true then tl acc σ2 H3 fun a H4=>∃ m',m' < m/\W (i + 1) m' a σ2 H4 else ∃ m',m' < m/\W (i + 1) m' acc σ2 H3)
theorem lJ {W:KY β}{Fin:β->Hp->Prop}{RR:Value->Addr->Result->Shared->Prop}{E:cY}{lay:Value->Env->Sem Unit}{obj:Addr->β->HO}{ps:Pos}(hF:KO F)(hmk:EW F e0 X.prog X.w X.A mk)(hk:HM ce)(hcl:clausesOf ce=⟨tg,iter,ifs,0⟩ :: cls)(hb:∀ it acc env,compTurn ce 0 it acc env=pG ps it tg env (layOn ifs (lay acc env) env (.compLoop ce 0 it acc env)))(hok:∀ H h D acc,F h D acc->bY X.prog X.w H h D (obj D acc))
  (S:bG X scope N' src) (I2:aN X pins σ H₂ s₂) (T:∀ C,sC (blk X scope N' C s₂ H₂ fp) tg J fp it tn) (st2:tn 0 s₂.heap) (hf:∀ b ∈ fp,j5 X pins H₂ b)
  (hg:∀ C,PG (blk X scope N' C s₂ H₂ fp) tg g) (ht:∀ C,KJ (blk X scope N' C s₂ H₂ fp) ifs tt) (hl:∀ C D acc,KP F (blk X scope N' C s₂ H₂ fp) D (lay (.ref D) (blk X scope N' C s₂ H₂ fp).env) (tl acc) acc)
  (w0:∃ m,W 0 m e0 (stC src σ) H₂) (turn:KU J g tt tl Fin W)
  (hRR:∀ D C s' H' acc,s₂.heap.objs.size<=C->H' C=none->D≠C->(∃ m,s'.heap.Ns C m)->aN X pins σ (upd H' D (obj D acc)) s'->H' D=none->Fin acc H'->RR (.ref D) C (.ok .next) s') :
  wpAny (model X.prog X.w) X.A mk (fun acc s₃=>wpAny (model X.prog X.w) X.A (newFunctionEnv scope X.env.globals (closL X.env.cells scope.names []) [] X.env.qual none .none (some X.env)) (fun cenv s₄ =>
   codeAny (model X.prog X.w) X.A (.compStart ce 0 (.ref it) acc { cenv with scope:=relabel scope X.env }) (RR acc cenv.locals) s₄) E s₃) E s₂:=by
 refine vR hmk hk hcl S I2 T st2 hf fun D C t B=>?_
 obtain ⟨m,b⟩:=B.betw W w0
 refine xH hk (hb ..) (BQ F (blk X scope N' C s₂ H₂ fp) [] D fp tn W) (fun n s b=>?_) m b
 refine (A3 (Y:=blk X scope N' C s₂ H₂ fp) hF (fun _ _ z=>z) (T C) B.place (hg C) turn (fun s σc H acc I hD hp fin=>?_) n s b).mono (fun _ z=>z) ?_
 ·obtain ⟨o1,o2,o3⟩:=B.out I2 hf I hD (hok _ _ _ _ hp)
  exact hRR D C s H acc B.le o1 B.ne o2 o3 hD fin
 ·rintro t ⟨i,acc,o,more,σ3,H3,mid,I3,q3⟩
  exact xZ.go (D0 (W:=W) (fun _ _ z=>z) B.place (T C) (ht C) (hl C D acc) mid I3 q3)
theorem vK {Q:VK}{D C:Addr}{s':Shared}{H':Hp}(I2:aN X pins σ H₂ s₂)(hC:s₂.heap.objs.size<=C)(hCn:H' C=none)(hDC:D≠C)(hns:∃ m,s'.heap.Ns C m)(I':aN X pins σ (upd H' D ob) s')(q:Q (.ref D) (upd H' D ob)) :
  compPost (model X.prog X.w) X.A X.xe none (EP X pins σ Q) (.ref D) C (.ok .next) s':=by
 obtain ⟨m,hn⟩:=hns
 have f:=I2.fpOk (H':=upd H' D ob) hC (by rw [aE (Ne.symm hDC)];exact hCn)
 exact ⟨m,hn,fun h' hs'=>⟨.ref D,_,I'.turned (t':=s'.toks) (fun b o hb e=>hs'.extBut b o hb e) f.1 f.2.1 f.2.2.2.1 f.2.2.2.2.1 f.2.2.2.2.2,rfl,q⟩⟩
theorem EE {D':gR}{D C:Addr}{s':Shared}{H':Hp}{i:Nat}{y:Str}{py:Pos}(hN:X.N.Nodup)(hiy:X.N[i]?=some y)(hy:X.env.scope.names.lookup y=some .local)(I2:aN X pins σ H₂ s₂)(hC:s₂.heap.objs.size<=C)(hCn:H' C=none)(hDC:D≠C)(hns:∃ m,s'.heap.Ns C m)(I':aN X pins σ (upd H' D ob) s')(q:D'.nx (σ.set i (some (.ref D))) (upd H' D ob)) :
  compPost (model X.prog X.w) X.A X.xe (some (assign (.Name y py) X.env)) (fun _ s'=>SP X pins D' .next s') (.ref D) C (.ok .next) s':=by
 obtain ⟨m,hn⟩:=hns
 have f:=I2.fpOk (H':=upd H' D ob) hC (by rw [aE (Ne.symm hDC)];exact hCn)
 refine wpAny_assign_Name (qZ I' hN hiy (.inl hy) (v:=.ref D) rfl (fun t It ⟨a,sb,ha⟩=>?_) (.inr hy))
 have ne:C≠a:=ha.elim (fun e=>e ▸ f.2.1) fun e z=>f.2.2.2.2.1 y a e z.symm
 exact ⟨m,hn.sameBut sb ne,fun h' hs'=>⟨_,_,It.turned (t':=t.toks) (fun b o hb e=>hs'.extBut b o hb e) f.1 f.2.1 f.2.2.2.1 f.2.2.2.2.1 f.2.2.2.2.2,q⟩⟩
theorem zX {gens:List Comprehension}{y:Str}{py spos:Pos}{Q:Flow->Shared->Prop}{s:Shared}(hsw:swapsWith (.ListComp elt gens scope pos) (some (.Name y py)) spos.line X.env=pure true)
  (h:wpAny (model X.prog X.w) X.A (comprehension (.ListComp elt gens scope pos) scope X.env (firstIterPos gens pos) (newList []) (firstAsync gens) (firstIter gens X.env) (some (assign (.Name y py) X.env))) (fun _=>Q .next) X.xe s) :
  wpAny (model X.prog X.w) X.A (exec (.Assign [.Name y py] (.ListComp elt gens scope pos) spos) X.env) Q X.xe s:=by
 have u:wpAny (model X.prog X.w) X.A (evalThenUse (.ListComp elt gens scope pos) X.env (assign (.Name y py) X.env)) (fun _=>Q .next) X.xe s:=wpAny_bind (thn h fun _ _ q=>wpAny_pure q)
 exact (exec_Assign_Name_used y py _ spos hsw) ▸ wpAny_bind (wpAny_standAt (wpAny_bind (thn u fun _ _ q=>wpAny_pure q)))
theorem rQ {wi:TI}{use:Option (Value->Sem Unit)}{Q:cY}{s:Shared}{H:Hp}{K:It->Hp->Prop}{ps:Pos}(hcl:clausesOf ce=⟨tg,iter,ifs,0⟩ :: cls)(S:bG X scope N' src)(hi:PI X tg iter wi)(hs:∀ x,foldedSetIterable iter X.env x=pure x)(I:aN X pins σ H s)(h:wi σ H K)
  (k:∀ s₂ H₂ it fp tn J,aN X pins σ H₂ s₂->qV X.prog X.w X.K tg J fp it tn->tn 0 s₂.heap->(∀ b ∈ fp,j5 X pins H₂ b)->K J H₂ ->
   wpAny (model X.prog X.w) X.A mk (fun acc s₃=>wpAny (model X.prog X.w) X.A (newFunctionEnv scope X.env.globals (closL X.env.cells scope.names []) [] X.env.qual none .none (some X.env)) (fun cenv s₄ =>
    codeAny (model X.prog X.w) X.A (.compStart ce 0 (.ref it) acc { cenv with scope:=relabel scope X.env }) (compPost (model X.prog X.w) X.A X.xe use Q acc cenv.locals) s₄) X.xe s₃) X.xe s₂) :
  wpAny (model X.prog X.w) X.A (comprehension ce scope X.env ps mk false (eval iter X.env) use) Q X.xe s:=by
 refine wpAny_comprehension_free hcl hs (lA (S.cells I)) S.kind S.names (thn (hi pins s σ H K I h) fun _ _ q=>thn q ?_)
 rintro _ s₂ ⟨it,fp,tn,J,H₂,rfl,I2,T,st,f,q⟩
 exact k s₂ H₂ it fp tn J I2 T st f q
theorem eM {wi:TI}(hc:X.calm=true)(S:bG X scope N' src)(hi:PI X tg iter wi)(hg:∀ C s H fp,PG (blk X scope N' C s H fp) tg g)(ht:∀ C s H fp,KJ (blk X scope N' C s H fp) ifs tt)(he:∀ C s H fp,PE (blk X scope N' C s H fp) elt te)
  (hs:∀ x,foldedSetIterable iter X.env x=pure x:=by intro _;rfl):PE X (.ListComp elt [⟨tg,iter,ifs,0⟩] scope pos) (tComp src wi g tt te):=by
 intro pins s σ H Q I h
 rw [eval_ListComp]
 refine rQ rfl S hi hs I h fun s₂ H₂ it fp tn J I2 T st f ⟨W,w0,turn⟩=>?_
 exact lJ (lay:=p0 elt) (tl:=tlLst te) (obj:=fun _=>.lst) nR nQ (.lst ..) rfl (pF elt tg iter ifs scope pos) (fun _ _ _ _=>tQ) S I2 (fun C=>qV.y (Y:=blk X scope N' C s₂ H₂ fp) T hc) st f (fun C=>hg C s₂ H₂ fp) (fun C=>ht C s₂ H₂ fp) (fun C D acc=>pZ (fun _ _ z=>z) (he C s₂ H₂ fp)) w0 turn fun D C s' H' acc a1 a2 a3 a4 a5 a6 fin=>vK I2 a1 a2 a3 a4 a5 (fin D a6)
theorem kU {wi:TI}{i:Nat}{y:Str}{py spos:Pos}(hN:X.N.Nodup)(hiy:X.N[i]?=some y)(hy:X.env.scope.names.lookup y=some .local)(hsw:swapsWith (.ListComp elt [⟨tg,iter,ifs,0⟩] scope pos) (some (.Name y py)) spos.line X.env=pure true)
  (hc:X.calm=true) (S:bG X scope N' src) (hi:PI X tg iter wi) (hg:∀ C s H fp,PG (blk X scope N' C s H fp) tg g) (ht:∀ C s H fp,KJ (blk X scope N' C s H fp) ifs tt) (he:∀ C s H fp,PE (blk X scope N' C s H fp) elt te)
  (hs:∀ x,foldedSetIterable iter X.env x=pure x:=by intro _;rfl):PS X (.Assign [.Name y py] (.ListComp elt [⟨tg,iter,ifs,0⟩] scope pos) spos) (tAsg (tComp src wi g tt te) (gName i)):=by
 intro pins s σ H D I h
 refine zX hsw ?_
 refine rQ rfl S hi hs I h fun s₂ H₂ it fp tn J I2 T st f ⟨W,w0,turn⟩=>?_
 exact lJ (lay:=p0 elt) (tl:=tlLst te) (obj:=fun _=>.lst) nR nQ (.lst ..) rfl (pF elt tg iter ifs scope pos) (fun _ _ _ _=>tQ) S I2 (fun C=>qV.y (Y:=blk X scope N' C s₂ H₂ fp) T hc) st f (fun C=>hg C s₂ H₂ fp) (fun C=>ht C s₂ H₂ fp) (fun C D acc=>pZ (fun _ _ z=>z) (he C s₂ H₂ fp)) w0 turn fun D C s' H' acc a1 a2 a3 a4 a5 a6 fin=>EE hN hiy hy I2 a1 a2 a3 a4 a5 (fin D a6)
end
noncomputable def tN:aW->Bool
 | []=>true
 | x :: r=>!r.contains x && tN r
theorem rC:∀ {l:aW},tN l=true->l.Nodup
 | [],_=>List.nodup_nil
 | x :: r,h=>by
  simp only [tN,Bool.and_eq_true,Bool.not_eq_true',List.contains_eq_mem,decide_eq_false_iff_not] at h
  exact List.nodup_cons.mpr ⟨h.1,rC h.2⟩
noncomputable def compB (N:aW)(names:List (Str×NameKind))(scope:Scope)(N':aW)(src:List (Option Nat)):Bool :=
 decide (scope.kind = .function) && scope.names.all (fun y=>decide (y.2≠.cell)) && scope.names.all (fun y=>decide (y.2≠.local) || decide (scope.names.lookup y.1=some .local)) &&
 scope.names.all (fun y=>decide (y.2≠.free) || (decide (names.lookup y.1=some .cell) || decide (names.lookup y.1=some .free))) && tN N' && srcOk N scope.names src N'
theorem bG.by {X:Cx}{N:aW}{names:List (Str×NameKind)}{scope:Scope}{N':aW}{src:List (Option Nat)}(h:compB N names scope N' src=true)(hN:X.N=N)(hE:X.env.scope.names=names):bG X scope N' src:=by
 subst hN hE
 simp only [compB,Bool.and_eq_true,List.all_eq_true,Bool.or_eq_true,decide_eq_true_eq] at h
 obtain ⟨⟨⟨⟨⟨h1,h2⟩,h3⟩,h4⟩,h5⟩,h6⟩:=h
 exact ⟨h1,h2,fun y hy hk=>(h3 y hy).resolve_left fun z=>z hk,fun y hy hk=>(h4 y hy).resolve_left fun z=>z hk,rC h5,h6⟩
noncomputable def dQ (P:Program)(w:World)(K:PySem.W.Frag)(mg:eJ)(base:Heap)(CX:sG)(k:Nat)(x:Str)(sp:Sp):Prop :=
 ∃ f fd ps,cF P w K mg base CX k f fd ps sp/\mg x=some (.ref f)/\PySem.W.keepIn K (.ref f)=true/\fK K fd ps []
section
variable {X:Cx}{CX:sG}{k:Nat}{sp:Sp}{E:XK}{x:Str}{p pos:Pos}{e:Expr}{es:iW}{t:TA}
theorem aO (O:dQ X.prog X.w X.K X.mg X.base CX k x sp)(hr:fR k X.A)(hx:fY CX X E)(hg:Gl X x)(ha:PA X (e :: es) t)(hdb:(x == ("__debug__" : Str))=false:=by decide)
  (he:starEach (e :: es) X.env=(false,eval e X.env) :: starEach es X.env:=by rfl) (hpl:(backTo pos (starEach es X.env)).any (·.1)=false:=by rfl):PE X (.Call (.Name x p) (e :: es) [] pos) (tCall sp [] E t):=by
 obtain ⟨f,fd,ps,F,hm,hk,hb⟩:=O
 exact FW F hr hg hm hk hb .nil hx ha hdb he hpl
theorem cK {v:V}(hm:∃ u,X.mg x=some u/\aQ v u)(hg:Gl X x)(hd:(x == ("__debug__" : Str))=false:=by decide):PE X (.Name x pos) (tC v):=by
 obtain ⟨u,h,r⟩:=hm
 exact FU hg h r hd
end
noncomputable def ET (P:Program)(w:World)(K:PySem.W.Frag)(mg:eJ)(base:Heap)(CX:sG)(k:Nat)(C:Addr)(m:Str)(sp:Sp):Prop :=
 ∃ f fd ps,cF P w K mg base CX k f fd ps sp/\HK K C m f/\fK K fd ps []/\BO K C
section
variable {X:Cx}
noncomputable def ixV (H:Hp):V->V->Option V
 | .ref p,.int i=>match H p with
  | some (.lst xs)=>atI xs i
  | some (.tup xs)=>atI xs i
  | some (.frz _ (.lst xs))=>atI xs i
  | _=>none
 | .str z,.int i=>if z.length<=sizeLine then (atI z.cps.toList i).map fun c=>.str ⟨#[c]⟩ else none
 | _,_=>none
theorem dF:E4 X (fun x y H Q=>∃ v,ixV H x y=some v/\Q v H):=by
 intro value slice pins s σ H x y v u Q I rx ry h hs
 obtain ⟨z,e,q⟩:=h
 refine D5 value slice pins s σ H x y v u Q I rx ry ?_ hs
 cases x with
 | ref p =>
  cases y with
  | int i =>
   unfold ixV at e
   dsimp only at e
   split at e
   ·rename_i xs hp;exact .inl ⟨p,xs,i,z,rfl,rfl,fH.of hp,e,q⟩
   ·rename_i xs hp;exact .inr (.inl ⟨p,xs,i,z,rfl,rfl,iE.of hp,e,q⟩)
   ·rename_i o xs hp;exact .inl ⟨p,xs,i,z,rfl,rfl,.inl (.inr ⟨o,hp⟩),e,q⟩
   ·cases e
  | _=>cases e
 | str t =>
  cases y with
  | int i =>
   unfold ixV at e
   dsimp only at e
   split at e
   ·rename_i hz
    cases ea:atI t.cps.toList i with
    | none=>rw [ea] at e;cases e
    | some c =>
     rw [ea] at e
     cases e
     exact .inr (.inr ⟨t,i,c,rfl,rfl,hz,ea,q⟩)
   ·cases e
  | _=>cases e
 | _=>cases e
noncomputable def lenV (H:Hp):V->Option Nat
 | .ref p=>match H p with
  | some (.lst xs)=>some xs.length
  | some (.tup xs)=>some xs.length
  | some (.frz _ (.lst xs))=>some xs.length
  | some (.dK kvs)=>some kvs.length
  | _=>none
 | .str z=>if z.length<=sizeLine then some z.length else none
 | _=>none
theorem cS.or' {f:Value}{r r':List V->Hp->VK->Prop}(h:cS X f r)(h':cS X f r'):cS X f (fun xs H Q=>r xs H Q∨r' xs H Q):=by
 intro pins s σ H xs us Q I rs q
 rcases q with q | q
 ·exact h pins s σ H xs us Q I rs q
 ·exact h' pins s σ H xs us Q I rs q
theorem cS.imp {f:Value}{r r':List V->Hp->VK->Prop}(h:cS X f r)(i:∀ xs H Q,r' xs H Q->r xs H Q):cS X f r':=fun pins s σ H xs us Q I rs q=>h pins s σ H xs us Q I rs (i _ _ _ q)
theorem iN.imp {f:Value->Value->Sem Value}{r r':R2}(h:iN X f r)(i:∀ x y H Q,r' x y H Q->r x y H Q):iN X f r':=fun pins s σ H x y v u Q I rx ry q=>h pins s σ H x y v u Q I rx ry (i _ _ _ _ q)
noncomputable def r1 (f:Hp->V->Option V):List V->Hp->VK->Prop:=fun xs H Q=>∃ x v,xs=[x]/\f H x=some v/\Q v H
theorem bH:cS X (.builtin "len") (r1 fun H x=>(lenV H x).map fun n=>.int n):=by
 refine ((jP.or' t0).or' BD).imp fun xs H Q h=>?_
 obtain ⟨x,v,rfl,e,q⟩:=h
 cases x with
 | ref p =>
  unfold lenV at e
  dsimp only at e
  split at e
  ·rename_i xs hp;cases e;exact .inl (.inl ⟨p,xs,rfl,.inl (fH.of hp),q⟩)
  ·rename_i xs hp;cases e;exact .inl (.inl ⟨p,xs,rfl,.inr (iE.of hp),q⟩)
  ·rename_i o xs hp;cases e;exact .inl (.inl ⟨p,xs,rfl,.inl (.inl (.inr ⟨o,hp⟩)),q⟩)
  ·rename_i kvs hp;cases e;exact .inr ⟨p,kvs,rfl,hp,q⟩
  ·cases e
 | str z =>
  unfold lenV at e
  dsimp only at e
  split at e
  ·rename_i hz;cases e;exact .inl (.inr ⟨z,rfl,hz,q⟩)
  ·cases e
 | _=>cases e
noncomputable def intV:V->Option V
 | .int i=>some (.int i)
 | .bl k=>some (.int (if k then 1 else 0))
 | _=>none
theorem rY:cS X (.type "int") (r1 fun _ x=>intV x):=by
 refine BE.imp fun xs H Q h=>?_
 obtain ⟨x,v,rfl,e,q⟩:=h
 cases x with
 | int i=>cases e;exact .inl ⟨i,rfl,q⟩
 | bl k=>cases e;exact .inr ⟨k,rfl,q⟩
 | _=>cases e
noncomputable def addV:V->V->Option V
 | .int i,.int j=>some (.int (i + j))
 | .str i,.str j=>if i.length + j.length<=sizeLine then some (.str (i ++ j)) else none
 | _,_=>none
noncomputable def catO (H:Hp):V->V->Option HO
 | .ref a,.ref b=>match H a,H b with
  | some (.lst xs),some (.lst ys)=>if xs.length + ys.length<=sizeLine then some (.lst (xs ++ ys)) else none
  | some (.tup xs),some (.tup ys)=>if xs.length + ys.length<=sizeLine/\xs≠[]/\ys≠[] then some (.tup (xs ++ ys)) else none
  | _,_=>none
 | _,_=>none
noncomputable def rAddF:R2:=fun x y H Q=>(∃ v,addV x y=some v/\Q v H)∨(∃ o,catO H x y=some o/\∀ p,H p=none->Q (.ref p) (upd H p o))
theorem aY:iN X (binaryOp .Add) rAddF:=by
 refine ((JM.or w8).or (JL.or F0)).imp fun x y H Q h=>?_
 rcases h with ⟨v,e,q⟩ | ⟨o,e,q⟩
 ·cases x with
  | int i=>cases y with
   | int j=>cases e;exact .inl (.inl ⟨i,j,rfl,rfl,q⟩)
   | _=>cases e
  | str i=>cases y with
   | str j =>
    unfold addV at e
    dsimp only at e
    split at e
    ·rename_i hz;cases e;exact .inl (.inr ⟨i,j,rfl,rfl,hz,q⟩)
    ·cases e
   | _=>cases e
  | _=>cases e
 ·cases x with
  | ref a=>cases y with
   | ref b =>
    unfold catO at e
    dsimp only at e
    split at e
    ·rename_i xs ys ha hb
     split at e
     ·rename_i hz;cases e;exact .inr (.inl ⟨a,b,xs,ys,rfl,rfl,ha,hb,hz,q⟩)
     ·cases e
    ·rename_i xs ys ha hb
     split at e
     ·rename_i hz;cases e;exact .inr (.inr ⟨a,b,xs,ys,rfl,rfl,iE.of ha,iE.of hb,hz.2.1,hz.1,fun w=>absurd w hz.2.2,fun _=>q⟩)
     ·cases e
    ·cases e
   | _=>cases e
  | _=>cases e
end
inductive D where
 | non | bl (b:Bool) | int (i:Int) | str (x:Str) | tup (xs:List D) | lst (xs:List D)
mutual
noncomputable def cD (H:Hp):D->V->Prop
 | .non,v=>v = .non
 | .bl b,v=>v = .bl b
 | .int i,v=>v = .int i
 | .str x,v=>v = .str x
 | .tup ds,v=>∃ a vs,v = .ref a/\H a=some (.tup vs)/\Reps H ds vs
 | .lst ds,v=>∃ a vs,v = .ref a/\H a=some (.lst vs)/\Reps H ds vs
noncomputable def Reps (H:Hp):List D->List V->Prop
 | [],vs=>vs=[]
 | d :: ds,vs=>∃ v r,vs=v :: r/\cD H d v/\Reps H ds r
end
mutual
theorem cD.same {H H':Hp}(s:aJ H H'):∀ {d:D} {v:V},cD H d v->cD H' d v
 | .non,_,h=>h
 | .bl _,_,h=>h
 | .int _,_,h=>h
 | .str _,_,h=>h
 | .tup _,_,⟨a,vs,e,h,r⟩=>⟨a,vs,e,s _ _ h,Reps.same s r⟩
 | .lst _,_,⟨a,vs,e,h,r⟩=>⟨a,vs,e,s _ _ h,Reps.same s r⟩
theorem Reps.same {H H':Hp}(s:aJ H H'):∀ {ds:List D} {vs:List V},Reps H ds vs->Reps H' ds vs
 | [],_,h=>h
 | _ :: _,_,⟨v,r,e,h,q⟩=>⟨v,r,e,cD.same s h,Reps.same s q⟩
end
theorem Reps.length {H:Hp}:∀ {ds:List D} {vs:List V},Reps H ds vs->vs.length=ds.length
 | [],_,h=>by cases h;rfl
 | _ :: _,_,⟨v,r,e,_,q⟩=>by subst e;simp [Reps.length q]
theorem Reps.append {H:Hp}:∀ {ds es:List D} {vs ws:List V},Reps H ds vs->Reps H es ws->Reps H (ds ++ es) (vs ++ ws)
 | [],_,_,_,h,k=>by cases h;exact k
 | _ :: _,_,_,_,⟨v,r,e,h,q⟩,k=>by subst e;exact ⟨v,r ++ _,rfl,h,Reps.append q k⟩
theorem Reps.get {H:Hp}:∀ {ds:List D} {vs:List V} {i:Nat} {v:V},Reps H ds vs->vs[i]?=some v->∃ d,ds[i]?=some d/\cD H d v
 | [],_,_,_,h,e=>by cases h;simp at e
 | d :: _,_,0,_,⟨v,r,e,h,q⟩,k=>by subst e;simp at k;subst k;exact ⟨d,rfl,h⟩
 | _ :: _,_,i + 1,_,⟨v,r,e,h,q⟩,k=>by subst e;simp at k;obtain ⟨d,h1,h2⟩:=Reps.get q k;exact ⟨d,by simpa using h1,h2⟩
mutual
noncomputable def eqD:D->D->Bool
 | .non,.non=>true
 | .bl a,.bl b=>a == b
 | .bl a,.int b=>(if a then 1 else 0) == b
 | .int a,.bl b=>a == (if b then 1 else 0)
 | .int a,.int b=>a == b
 | .str a,.str b=>a == b
 | .tup xs,.tup ys=>eqDs xs ys
 | .lst xs,.lst ys=>eqDs xs ys
 | _,_=>false
noncomputable def eqDs:List D->List D->Bool
 | [],[]=>true
 | x :: xs,y :: ys=>eqD x y && eqDs xs ys
 | _,_=>false
end
mutual
noncomputable def depD:D->Nat
 | .tup xs=>depDs xs + 1
 | .lst xs=>depDs xs + 1
 | _=>0
noncomputable def depDs:List D->Nat
 | []=>0
 | x :: xs=>max (depD x) (depDs xs)
end
end L2
namespace L2
open PySem PySem.Spec PyProof.Rows PySem.SeqAt
mutual
theorem cD.inj {H:Hp}:∀ {d e:D} {v:V},cD H d v->cD H e v->d=e
 | .non,e,v,h,k=>by cases h;cases e <;> first | rfl | (exact absurd k (by simp [cD])) | (obtain ⟨_,_,z,_⟩:=k;cases z)
 | .bl b,e,v,h,k=>by cases h;cases e <;> first | (cases k;rfl) | (exact absurd k (by simp [cD])) | (obtain ⟨_,_,z,_⟩:=k;cases z)
 | .int b,e,v,h,k=>by cases h;cases e <;> first | (cases k;rfl) | (exact absurd k (by simp [cD])) | (obtain ⟨_,_,z,_⟩:=k;cases z)
 | .str b,e,v,h,k=>by cases h;cases e <;> first | (cases k;rfl) | (exact absurd k (by simp [cD])) | (obtain ⟨_,_,z,_⟩:=k;cases z)
 | .tup ds,e,v,⟨a,vs,h1,h2,h3⟩,k=>by
  subst h1
  cases e with
  | tup es =>
   obtain ⟨b,ws,k1,k2,k3⟩:=k
   cases k1
   rw [h2] at k2
   cases k2
   rw [Reps.inj h3 k3]
  | lst es =>
   obtain ⟨b,ws,k1,k2,k3⟩:=k
   cases k1
   rw [h2] at k2
   cases k2
  | _=>exact absurd k (by simp [cD])
 | .lst ds,e,v,⟨a,vs,h1,h2,h3⟩,k=>by
  subst h1
  cases e with
  | lst es =>
   obtain ⟨b,ws,k1,k2,k3⟩:=k
   cases k1
   rw [h2] at k2
   cases k2
   rw [Reps.inj h3 k3]
  | tup es =>
   obtain ⟨b,ws,k1,k2,k3⟩:=k
   cases k1
   rw [h2] at k2
   cases k2
  | _=>exact absurd k (by simp [cD])
theorem Reps.inj {H:Hp}:∀ {ds es:List D} {vs:List V},Reps H ds vs->Reps H es vs->ds=es
 | [],[],_,_,_=>rfl
 | [],e :: es,_,h,k=>by cases h;obtain ⟨_,_,z,_⟩:=k;cases z
 | d :: ds,[],_,h,k=>by cases k;obtain ⟨_,_,z,_⟩:=h;cases z
 | d :: ds,e :: es,_,⟨v,r,h1,h2,h3⟩,⟨w,q,k1,k2,k3⟩=>by
  subst h1
  cases k1
  rw [cD.inj h2 k2,Reps.inj h3 k3]
end
mutual
theorem kG:∀ d:D,eqD d d=true
 | .non=>rfl
 | .bl b=>by simp [eqD]
 | .int b=>by simp [eqD]
 | .str b=>by simp [eqD]
 | .tup xs=>by rw [eqD];exact nU xs
 | .lst xs=>by rw [eqD];exact nU xs
theorem nU:∀ ds:List D,eqDs ds ds=true
 | []=>rfl
 | d :: ds=>by rw [eqDs,kG d,nU ds];rfl
end
theorem qH (n:Nat)(f:Nat->Bool):(List.range (n + 1)).all f=(f 0 && (List.range n).all fun j=>f (j + 1)):=by
 have e:=List.range_succ_eq_map (n:=n);rw [e,List.all_cons,List.all_map]
 rfl
theorem hU:∀ ds es:List D,eqDs ds es=((List.range (min ds.length es.length)).all (fun j=>eqD (ds.getD j .non) (es.getD j .non)) && ds.length == es.length)
 | [],[]=>rfl
 | [],e :: es=>by simp [eqDs]
 | d :: ds,[]=>by simp [eqDs]
 | d :: ds,e :: es=>by
  rw [eqDs,hU ds es]
  have e1:min (d :: ds).length (e :: es).length=min ds.length es.length + 1:=by simp only [List.length_cons];omega
  rw [e1,qH]
  simp only [List.getD_cons_zero,List.getD_cons_succ,List.length_cons]
  rw [Bool.and_assoc]
  congr 2
  rw [Bool.eq_iff_iff];simp
section
variable {P:Program}{w:World}{H:Hp}{s:Shared}
theorem hG (ok:iG P w H s.heap){a:Addr}{vs:List V}(h:H a=some (.lst vs)):∃ its:cE,aV vs its/\s.heap.IsList a its.toArray:=by
 obtain ⟨_,its,n,r,e⟩:=ok a _ h
 exact ⟨its,r,⟨_,e,rfl,n,rfl⟩⟩
theorem jO (ok:iG P w H s.heap){a:Addr}{vs:List V}(h:H a=some (.tup vs)):∃ its:cE,aV vs its/\s.heap.IsTuple a its.toArray:=by
 obtain ⟨_,its,r,e⟩:=ok a _ h
 exact ⟨its,r,e⟩
theorem fG (A:Around):A.in1.units=A.units + 1:=rfl
noncomputable def LR (u:Value):Prop:=u = .none∨(∃ b,u = .bool b)∨(∃ i t,u = .int i t)∨(∃ x t,u = .str x t)∨∃ a,u = .ref a
theorem B9 {H:Hp}{d:D}{v:V}{u:Value}(h:cD H d v)(r:aQ v u):LR u:=by
 cases d with
 | non=>cases h;exact .inl r
 | bl b=>cases h;exact .inr (.inl ⟨b,r⟩)
 | int i=>cases h;obtain ⟨t,e⟩:=r;exact .inr (.inr (.inl ⟨i,t,e⟩))
 | str x=>cases h;obtain ⟨t,e⟩:=r;exact .inr (.inr (.inr (.inl ⟨x,t,e⟩)))
 | tup ds=>obtain ⟨a,vs,e,_⟩:=h;subst e;exact .inr (.inr (.inr (.inr ⟨a,r⟩)))
 | lst ds=>obtain ⟨a,vs,e,_⟩:=h;subst e;exact .inr (.inr (.inr (.inr ⟨a,r⟩)))
theorem G1 {A:Around}{s:Shared}{u u':Value}{b:Bool}(hu:LR u)(hu':LR u')(hs:u≠u')(q:RcAt A s u u' b):EqAt A s u u' b:=by
 intro prog w E Q hq
 unfold eqBool
 refine wpAny_holding ?_
 refine wpAny_ite_split (fun hab=>absurd (eq_of_beq hab) hs) (fun _=>?_)
 have q':=q prog w E (fun v s'=>wpAny (model prog w) A (truthOfDropped v) Q E s') (wpAny_truthy_bool hq)
 rcases hu with rfl | ⟨_,rfl⟩ | ⟨_,_,rfl⟩ | ⟨_,_,rfl⟩ | ⟨_,rfl⟩ <;> rcases hu' with rfl | ⟨_,rfl⟩ | ⟨_,_,rfl⟩ | ⟨_,_,rfl⟩ | ⟨_,rfl⟩ <;> exact wpAny_bind q'
theorem zI {A:Around}{d e:D}{v v':V}{u u':Value}(h:cD H d v)(k:cD H e v')(r:aQ v u)(r':aQ v' u')(q:RcAt A s u u' (eqD d e)):EqAt A s u u' (eqD d e):=by
 by_cases hs:u=u'
 ·subst hs
  have e1:v=v':=r.inj r'
  subst e1
  have e2:=cD.inj h k
  subst e2
  rw [kG]
  exact EqAt.same u
 ·exact G1 (B9 h r) (B9 k r') hs q
noncomputable def pD (s:Shared)(H:Hp)(n:Nat):Prop:=∀ (d e:D) (A:Around) (v v':V) (u u':Value),depD d < n->cD H d v->cD H e v'->aQ v u->aQ v' u'->A.units + depD d < cLine->RcAt A s u u' (eqD d e)
theorem tY {n:Nat}(ih:pD s H n):∀ {ds es:List D} {A:Around} {vs ws:List V} {us us':cE},depDs ds < n->Reps H ds vs->Reps H es ws->aV vs us->aV ws us'->A.units + depDs ds < cLine ->
  ∀ j (h1:j < us.length) (h2:j < us'.length),EqAt A s us[j] us'[j] (eqD (ds.getD j .non) (es.getD j .non)):=by
 intro ds
 induction ds with
 | nil=>intro es A vs ws us us' _ h _ r _ _ j h1;cases h;cases r;exact absurd h1 (Nat.not_lt_zero _)
 | cons d ds hs =>
  intro es A vs ws us us' hn h k r r' hu j h1 h2
  cases es with
  | nil=>cases k;cases r';exact absurd h2 (Nat.not_lt_zero _)
  | cons e es =>
   obtain ⟨v,vr,q1,q2,q3⟩:=h
   obtain ⟨y,wr,p1,p2,p3⟩:=k
   subst q1 p1
   rw [depDs] at hu hn
   cases r with
   | cons r1 r2 =>
    cases r' with
    | cons r1' r2' =>
     cases j with
     | zero=>exact zI q2 p2 r1 r1' (ih d e A v y _ _ (Nat.lt_of_le_of_lt (Nat.le_max_left _ _) hn) q2 p2 r1 r1' (Nat.lt_of_le_of_lt (Nat.add_le_add_left (Nat.le_max_left _ _) _) hu))
     | succ j=>exact hs (Nat.lt_of_le_of_lt (Nat.le_max_right _ _) hn) q3 p3 r2 r2' (Nat.lt_of_le_of_lt (Nat.add_le_add_left (Nat.le_max_right _ _) _) hu) j (Nat.lt_of_succ_lt_succ h1) (Nat.lt_of_succ_lt_succ h2)
theorem FL (ok:iG P w H s.heap){n:Nat}(ih:pD s H n){ds es:List D}{A:Around}{v v':V}{u u':Value}(hn:depDs ds < n)(h:cD H (.tup ds) v)(k:cD H (.tup es) v')(r:aQ v u)(r':aQ v' u')(hu:A.units + depDs ds + 1 < cLine):RcAt A s u u' (eqD (.tup ds) (.tup es)):=by
 obtain ⟨a,vs,h1,h2,h3⟩:=h
 obtain ⟨b,ws,k1,k2,k3⟩:=k
 subst h1 k1;cases r;cases r'
 obtain ⟨its,rv,hl⟩:=jO ok h2
 obtain ⟨its2,rv2,hl2⟩:=jO ok k2
 have q:=RcAt.tuples (A:=A) hl hl2 (by omega) (e:=fun j=>eqD (ds.getD j .non) (es.getD j .non)) fun j h1 h2=>tY ih hn h3 k3 rv rv2 (A:=A.in1) (by rw [fG];omega) j h1 h2
 have e1:its.toArray.size=ds.length:=by rw [List.size_toArray,← rv.length,h3.length]
 have e2:its2.toArray.size=es.length:=by rw [List.size_toArray,← rv2.length,k3.length]
 rw [e1,e2,← hU] at q
 exact q
theorem FM (ok:iG P w H s.heap){n:Nat}(ih:pD s H n){ds es:List D}{A:Around}{v v':V}{u u':Value}(hn:depDs ds < n)(h:cD H (.lst ds) v)(k:cD H (.lst es) v')(r:aQ v u)(r':aQ v' u')(hu:A.units + depDs ds + 1 < cLine):RcAt A s u u' (eqD (.lst ds) (.lst es)):=by
 obtain ⟨a,vs,h1,h2,h3⟩:=h
 obtain ⟨b,ws,k1,k2,k3⟩:=k
 subst h1 k1;cases r;cases r'
 obtain ⟨its,rv,hl⟩:=hG ok h2
 obtain ⟨its2,rv2,hl2⟩:=hG ok k2
 have e1:its.toArray.size=ds.length:=by rw [List.size_toArray,← rv.length,h3.length]
 have e2:its2.toArray.size=es.length:=by rw [List.size_toArray,← rv2.length,k3.length]
 by_cases hz:its.toArray.size=its2.toArray.size
 ·have q:=RcAt.lists (A:=A) hl hl2 hz (by omega) (e:=fun j=>eqD (ds.getD j .non) (es.getD j .non)) fun j h1 h2=>tY ih hn h3 k3 rv rv2 (A:=A.in1) (by rw [fG];omega) j h1 h2
  have e3:ds.length=es.length:=by rw [← e1,← e2];exact hz
  have e4:eqD (.lst ds) (.lst es)=(List.range its.toArray.size).all fun j=>eqD (ds.getD j .non) (es.getD j .non):=by
   rw [eqD,hU,e3,Nat.min_self,e1,e3,beq_self_eq_true,Bool.and_true]
  rw [e4]
  exact q
 ·have q:=RcAt.lists_lengths (A:=A) hl hl2 (bne_iff_ne.mpr hz) (by omega)
  have e4:eqD (.lst ds) (.lst es)=false:=by
   rw [eqD,hU]
   have:(ds.length == es.length)=false:=beq_eq_false_iff_ne.mpr (by rw [← e1,← e2];exact hz)
   rw [this,Bool.and_false]
  rw [e4]
  exact q
inductive Kd (s:Shared):D->Value->Prop
 | non:Kd s .non .none
 | bl (b:Bool):Kd s (.bl b) (.bool b)
 | int (i:Int) (t:Tok):Kd s (.int i) (.int i t)
 | str (x:Str) (t:Tok):Kd s (.str x) (.str x t)
 | tup {ds:List D} {a:Addr} {its:cE}:s.heap.IsTuple a its.toArray->Kd s (.tup ds) (.ref a)
 | lst {ds:List D} {a:Addr} {its:cE}:s.heap.IsList a its.toArray->Kd s (.lst ds) (.ref a)
theorem zE (ok:iG P w H s.heap):∀ {d:D} {v:V} {u:Value},cD H d v->aQ v u->Kd s d u
 | .non,_,_,h,r=>by cases h;cases r;exact .non
 | .bl b,_,_,h,r=>by cases h;cases r;exact .bl b
 | .int i,_,_,h,r=>by cases h;obtain ⟨t,rfl⟩:=r;exact .int i t
 | .str x,_,_,h,r=>by cases h;obtain ⟨t,rfl⟩:=r;exact .str x t
 | .tup _,_,_,⟨_,_,e,h,_⟩,r=>by subst e;cases r;obtain ⟨_,_,hl⟩:=jO ok h;exact .tup hl
 | .lst _,_,_,⟨_,_,e,h,_⟩,r=>by subst e;cases r;obtain ⟨_,_,hl⟩:=hG ok h;exact .lst hl
theorem FN {A:Around}{d e:D}{u u':Value}(hA:A.units < cLine)(h:Kd s d u)(k:Kd s e u')(n1:∀ xs ys,d = .tup xs->e≠.tup ys)(n2:∀ xs ys,d = .lst xs->e≠.lst ys):RcAt A s u u' (eqD d e):=by
 cases h with
 | non=>cases k with
  | non=>exact RcAt.none_none
  | bl c=>exact RcAt.none_bool c
  | int c t=>exact RcAt.none_int c t
  | str c t=>exact RcAt.none_str c t
  | tup l=>exact RcAt.none_tuple l hA
  | lst l=>exact RcAt.none_list l hA
 | bl x=>cases k with
  | non=>exact RcAt.bool_none x
  | bl c=>exact RcAt.bool_bool x c
  | int c t=>exact RcAt.bool_int x c t
  | str c t=>exact RcAt.bool_str x c t
  | tup l=>exact RcAt.bool_tuple x l hA
  | lst l=>exact RcAt.bool_list x l hA
 | int x tx=>cases k with
  | non=>exact RcAt.int_none x tx
  | bl c=>exact RcAt.int_bool x tx c
  | int c t=>exact RcAt.int_int x tx c t
  | str c t=>exact RcAt.int_str x tx c t
  | tup l=>exact RcAt.int_tuple x tx l hA
  | lst l=>exact RcAt.int_list x tx l hA
 | str x tx=>cases k with
  | non=>exact RcAt.str_none x tx
  | bl c=>exact RcAt.str_bool x tx c
  | int c t=>exact RcAt.str_int x tx c t
  | str c t=>exact RcAt.str_str x tx c t
  | tup l=>exact RcAt.str_tuple x tx l hA
  | lst l=>exact RcAt.str_list x tx l hA
 | tup m=>cases k with
  | non=>exact RcAt.tuple_none m hA
  | bl c=>exact RcAt.tuple_bool c m hA
  | int c t=>exact RcAt.tuple_int c t m hA
  | str c t=>exact RcAt.tuple_str c t m hA
  | tup l=>exact absurd rfl (n1 _ _ rfl)
  | lst l=>exact RcAt.tuple_list m l hA
 | lst m=>cases k with
  | non=>exact RcAt.list_none m hA
  | bl c=>exact RcAt.list_bool c m hA
  | int c t=>exact RcAt.list_int c t m hA
  | str c t=>exact RcAt.list_str c t m hA
  | tup l=>exact RcAt.list_tuple m l hA
  | lst l=>exact absurd rfl (n2 _ _ rfl)
theorem lY (ok:iG P w H s.heap):∀ n,pD s H n
 | 0=>fun _ _ _ _ _ _ _ h=>absurd h (Nat.not_lt_zero _)
 | n + 1=>fun d e A v v' u u' hn h k r r' hu=>by
  have hA:A.units < cLine:=Nat.lt_of_le_of_lt (Nat.le_add_right _ _) hu
  by_cases c1:∃ xs ys,d = .tup xs/\e = .tup ys
  ·obtain ⟨xs,ys,rfl,rfl⟩:=c1
   rw [depD] at hu hn
   exact FL ok (lY ok n) (Nat.lt_of_succ_lt_succ hn) h k r r' hu
  ·by_cases c2:∃ xs ys,d = .lst xs/\e = .lst ys
   ·obtain ⟨xs,ys,rfl,rfl⟩:=c2
    rw [depD] at hu hn
    exact FM ok (lY ok n) (Nat.lt_of_succ_lt_succ hn) h k r r' hu
   ·exact FN hA (zE ok h r) (zE ok k r') (fun xs ys e1 e2=>c1 ⟨xs,ys,e1,e2⟩) (fun xs ys e1 e2=>c2 ⟨xs,ys,e1,e2⟩)
theorem rcAtD (ok:iG P w H s.heap)(d e:D)(A:Around)(v v':V)(u u':Value)(h:cD H d v)(k:cD H e v')(r:aQ v u)(r':aQ v' u')(hu:A.units + depD d < cLine):RcAt A s u u' (eqD d e):=lY ok _ d e A v v' u u' (Nat.lt_succ_self _) h k r r' hu
theorem eqAtD (ok:iG P w H s.heap)(d e:D)(A:Around)(v v':V)(u u':Value)(h:cD H d v)(k:cD H e v')(r:aQ v u)(r':aQ v' u')(hu:A.units + depD d < cLine):EqAt A s u u' (eqD d e):=zI h k r r' (rcAtD ok d e A v v' u u' h k r r' hu)
end
section
variable {X:Cx}
noncomputable def rEqD:R2:=fun x y H Q=>∃ d e,cD H d x/\cD H e y/\depD d<=60/\Q (.bl (eqD d e)) H
noncomputable def rNeD:R2:=fun x y H Q=>∃ d e,cD H d x/\cD H e y/\depD d<=60/\Q (.bl (!eqD d e)) H
theorem eI (hu:X.A.units + 64 < cLine):iN X (compareOp .Eq) rEqD:=by
 intro pins s σ H x y v u Q I rx ry h
 obtain ⟨d,e,hd,he,hz,q⟩:=h
 exact rcAtD I.hok d e X.A x y v u hd he rx ry (by omega) X.prog X.w X.xe _ ⟨.bl _,H,I,rfl,q⟩
end
section
variable {P:Program}{w:World}{H:Hp}{s:Shared}
theorem FH (ok:iG P w H s.heap){ds es:List D}{A:Around}{v v':V}{u u':Value}(h:cD H (.tup ds) v)(k:cD H (.tup es) v')(r:aQ v u)(r':aQ v' u')(hu:A.units + depDs ds + 1 < cLine):RcNeAt A s u u' (!eqD (.tup ds) (.tup es)):=by
 obtain ⟨a,vs,h1,h2,h3⟩:=h
 obtain ⟨b,ws,k1,k2,k3⟩:=k
 subst h1 k1;cases r;cases r'
 obtain ⟨its,rv,hl⟩:=jO ok h2
 obtain ⟨its2,rv2,hl2⟩:=jO ok k2
 have q:=RcNeAt.tuples (A:=A) hl hl2 (by omega) (e:=fun j=>eqD (ds.getD j .non) (es.getD j .non)) fun j h1 h2=>tY (lY ok _) (Nat.lt_succ_self _) h3 k3 rv rv2 (A:=A.in1) (by rw [fG];omega) j h1 h2
 have e1:its.toArray.size=ds.length:=by rw [List.size_toArray,← rv.length,h3.length]
 have e2:its2.toArray.size=es.length:=by rw [List.size_toArray,← rv2.length,k3.length]
 rw [e1,e2,← hU] at q
 exact q
theorem FJ (ok:iG P w H s.heap){ds es:List D}{A:Around}{v v':V}{u u':Value}(h:cD H (.lst ds) v)(k:cD H (.lst es) v')(r:aQ v u)(r':aQ v' u')(hu:A.units + depDs ds + 1 < cLine):RcNeAt A s u u' (!eqD (.lst ds) (.lst es)):=by
 obtain ⟨a,vs,h1,h2,h3⟩:=h
 obtain ⟨b,ws,k1,k2,k3⟩:=k
 subst h1 k1;cases r;cases r'
 obtain ⟨its,rv,hl⟩:=hG ok h2
 obtain ⟨its2,rv2,hl2⟩:=hG ok k2
 have e1:its.toArray.size=ds.length:=by rw [List.size_toArray,← rv.length,h3.length]
 have e2:its2.toArray.size=es.length:=by rw [List.size_toArray,← rv2.length,k3.length]
 by_cases hz:its.toArray.size=its2.toArray.size
 ·have q:=RcNeAt.lists (A:=A) hl hl2 hz (by omega) (e:=fun j=>eqD (ds.getD j .non) (es.getD j .non)) fun j h1 h2=>tY (lY ok _) (Nat.lt_succ_self _) h3 k3 rv rv2 (A:=A.in1) (by rw [fG];omega) j h1 h2
  have e3:ds.length=es.length:=by rw [← e1,← e2];exact hz
  have e4:eqD (.lst ds) (.lst es)=(List.range its.toArray.size).all fun j=>eqD (ds.getD j .non) (es.getD j .non):=by
   rw [eqD,hU,e3,Nat.min_self,e1,e3,beq_self_eq_true,Bool.and_true]
  rw [e4]
  exact q
 ·have q:=RcNeAt.lists_lengths (A:=A) hl hl2 (bne_iff_ne.mpr hz) (by omega)
  have e4:eqD (.lst ds) (.lst es)=false:=by
   rw [eqD,hU]
   have:(ds.length == es.length)=false:=beq_eq_false_iff_ne.mpr (by rw [← e1,← e2];exact hz)
   rw [this,Bool.and_false]
  rw [e4]
  exact q
theorem FK {A:Around}{d e:D}{u u':Value}(hA:A.units < cLine)(h:Kd s d u)(k:Kd s e u')(n1:∀ xs ys,d = .tup xs->e≠.tup ys)(n2:∀ xs ys,d = .lst xs->e≠.lst ys):RcNeAt A s u u' (!eqD d e):=by
 cases h with
 | non=>cases k with
  | non=>exact RcNeAt.none_none
  | bl c=>exact RcNeAt.none_bool c
  | int c t=>exact RcNeAt.none_int c t
  | str c t=>exact RcNeAt.none_str c t
  | tup l=>exact RcNeAt.none_tuple l hA
  | lst l=>exact RcNeAt.none_list l hA
 | bl x=>cases k with
  | non=>exact RcNeAt.bool_none x
  | bl c=>exact RcNeAt.bool_bool x c
  | int c t=>exact RcNeAt.bool_int x c t
  | str c t=>exact RcNeAt.bool_str x c t
  | tup l=>exact RcNeAt.bool_tuple x l hA
  | lst l=>exact RcNeAt.bool_list x l hA
 | int x tx=>cases k with
  | non=>exact RcNeAt.int_none x tx
  | bl c=>exact RcNeAt.int_bool x tx c
  | int c t=>exact RcNeAt.int_int x tx c t
  | str c t=>exact RcNeAt.int_str x tx c t
  | tup l=>exact RcNeAt.int_tuple x tx l hA
  | lst l=>exact RcNeAt.int_list x tx l hA
 | str x tx=>cases k with
  | non=>exact RcNeAt.str_none x tx
  | bl c=>exact RcNeAt.str_bool x tx c
  | int c t=>exact RcNeAt.str_int x tx c t
  | str c t=>exact RcNeAt.str_str x tx c t
  | tup l=>exact RcNeAt.str_tuple x tx l hA
  | lst l=>exact RcNeAt.str_list x tx l hA
 | tup m=>cases k with
  | non=>exact RcNeAt.tuple_none m hA
  | bl c=>exact RcNeAt.tuple_bool c m hA
  | int c t=>exact RcNeAt.tuple_int c t m hA
  | str c t=>exact RcNeAt.tuple_str c t m hA
  | tup l=>exact absurd rfl (n1 _ _ rfl)
  | lst l=>exact RcNeAt.tuple_list m l hA
 | lst m=>cases k with
  | non=>exact RcNeAt.list_none m hA
  | bl c=>exact RcNeAt.list_bool c m hA
  | int c t=>exact RcNeAt.list_int c t m hA
  | str c t=>exact RcNeAt.list_str c t m hA
  | tup l=>exact RcNeAt.list_tuple m l hA
  | lst l=>exact absurd rfl (n2 _ _ rfl)
theorem yM (ok:iG P w H s.heap)(d e:D)(A:Around)(v v':V)(u u':Value)(h:cD H d v)(k:cD H e v')(r:aQ v u)(r':aQ v' u')(hu:A.units + depD d < cLine):RcNeAt A s u u' (!eqD d e):=by
 have hA:A.units < cLine:=Nat.lt_of_le_of_lt (Nat.le_add_right _ _) hu
 by_cases c1:∃ xs ys,d = .tup xs/\e = .tup ys
 ·obtain ⟨xs,ys,rfl,rfl⟩:=c1
  rw [depD] at hu
  exact FH ok h k r r' hu
 ·by_cases c2:∃ xs ys,d = .lst xs/\e = .lst ys
  ·obtain ⟨xs,ys,rfl,rfl⟩:=c2
   rw [depD] at hu
   exact FJ ok h k r r' hu
  ·exact FK hA (zE ok h r) (zE ok k r') (fun xs ys e1 e2=>c1 ⟨xs,ys,e1,e2⟩) (fun xs ys e1 e2=>c2 ⟨xs,ys,e1,e2⟩)
end
section
variable {X:Cx}
theorem kD (hu:X.A.units + 64 < cLine):iN X (compareOp .NotEq) rNeD:=by
 intro pins s σ H x y v u Q I rx ry h
 obtain ⟨d,e,hd,he,hz,q⟩:=h
 exact yM I.hok d e X.A x y v u hd he rx ry (by omega) X.prog X.w X.xe _ ⟨.bl _,H,I,rfl,q⟩
noncomputable def inD (d:D)(ds:List D):Bool:=ds.any fun e=>eqD e d
noncomputable def rInD (neg:Bool):R2:=fun x y H Q=>∃ d ds,cD H d x/\(cD H (.lst ds) y∨cD H (.tup ds) y)/\depDs ds<=60/\Q (.bl (if neg then !inD d ds else inD d ds)) H
open Classical in
noncomputable def datOf (H:Hp)(y:Value):D:=if h:∃ d v,absV y=some v/\cD H d v then h.choose else .non
theorem EK {H:Hp}{d:D}{v:V}{y:Value}(r:aQ v y)(h:cD H d v):datOf H y=d:=by
 have e:∃ d v,absV y=some v/\cD H d v:=⟨d,v,r.abs,h⟩
 unfold datOf
 rw [dif_pos e]
 obtain ⟨v',h1,h2⟩:=e.choose_spec
 rw [r.abs] at h1
 cases h1
 exact cD.inj h2 h
theorem qB {P:Program}{w:World}{H:Hp}{s:Shared}(ok:iG P w H s.heap){A:Around}{d:D}{v:V}{u:Value}(h:cD H d v)(r:aQ v u):∀ (ds:List D) (vs:List V) (us:cE),Reps H ds vs->aV vs us->A.units + depDs ds < cLine ->
  (∀ y ∈ us,EqAt A s y u (eqD (datOf H y) d))/\us.any (fun y=>eqD (datOf H y) d)=inD d ds
 | [],vs,us,h1,r1,_=>by cases h1;cases r1;exact ⟨by simp,rfl⟩
 | e :: ds,vs,us,h1,r1,hu=>by
  obtain ⟨v1,vr,q1,q2,q3⟩:=h1
  subst q1
  rw [depDs] at hu
  cases r1 with
  | @cons _ u1 _ ur r1 r2 =>
   obtain ⟨hf,hs⟩:=qB ok (A:=A) h r ds vr ur q3 r2 (by omega)
   have hd:=eqAtD ok e d A v1 v u1 u q2 h r1 r (by omega)
   have e1:=EK r1 q2
   refine ⟨fun y hy=>?_,?_⟩
   ·rcases List.mem_cons.mp hy with z | z
    ·subst z;rw [e1];exact hd
    ·exact hf y z
   ·rw [List.any_cons,e1,hs];rfl
theorem tM (hu:X.A.units + 64 < cLine):iN X (compareOp .In) (fun x y H Q=>rInD false x y H Q∨∃ i j,x = .str i/\y = .str j/\Q (.bl (!(Builtin.Str.occurrences j i 0 j.length 1).isEmpty)) H):=by
 refine iN.or ?_ gU
 intro pins s σ H x y v u Q I rx ry h
 obtain ⟨d,ds,hd,hy,hz,q⟩:=h
 have q:Q (.bl (inD d ds)) H:=q
 rcases hy with ⟨a,vs,e,ha,hr⟩ | ⟨a,vs,e,ha,hr⟩
 ·subst e;cases ry
  obtain ⟨its,rv,hl⟩:=hG I.hok ha
  obtain ⟨h1,h2⟩:=qB I.hok (A:=X.A.in1) hd rx ds vs its hr rv (by rw [fG];omega)
  refine in_listAt (fun y=>eqD (datOf H y) d) hl (fun y hy=>h1 y (by simpa using hy)) ?_
  refine ⟨.bl (inD d ds),H,I,?_,q⟩
  show _=Value.bool _
  rw [← h2];simp
 ·subst e;cases ry
  obtain ⟨its,rv,hl⟩:=jO I.hok ha
  obtain ⟨h1,h2⟩:=qB I.hok (A:=X.A.in1) hd rx ds vs its hr rv (by rw [fG];omega)
  refine in_tupleAt (fun y=>eqD (datOf H y) d) hl (fun y hy=>h1 y (by simpa using hy)) ?_
  refine ⟨.bl (inD d ds),H,I,?_,q⟩
  show _=Value.bool _
  rw [← h2];simp
theorem q8 (hu:X.A.units + 64 < cLine):iN X (compareOp .NotIn) (fun x y H Q=>rInD true x y H Q∨∃ i j,x = .str i/\y = .str j/\Q (.bl (!(!(Builtin.Str.occurrences j i 0 j.length 1).isEmpty))) H):=by
 refine iN.or ?_ tK
 intro pins s σ H x y v u Q I rx ry h
 obtain ⟨d,ds,hd,hy,hz,q⟩:=h
 have q:Q (.bl (!inD d ds)) H:=q
 rcases hy with ⟨a,vs,e,ha,hr⟩ | ⟨a,vs,e,ha,hr⟩
 ·subst e;cases ry
  obtain ⟨its,rv,hl⟩:=hG I.hok ha
  obtain ⟨h1,h2⟩:=qB I.hok (A:=X.A.in1) hd rx ds vs its hr rv (by rw [fG];omega)
  refine notIn_listAt (fun y=>eqD (datOf H y) d) hl (fun y hy=>h1 y (by simpa using hy)) ?_
  refine ⟨.bl (!inD d ds),H,I,?_,q⟩
  show _=Value.bool _
  rw [← h2];simp
 ·subst e;cases ry
  obtain ⟨its,rv,hl⟩:=jO I.hok ha
  obtain ⟨h1,h2⟩:=qB I.hok (A:=X.A.in1) hd rx ds vs its hr rv (by rw [fG];omega)
  refine notIn_tupleAt (fun y=>eqD (datOf H y) d) hl (fun y hy=>h1 y (by simpa using hy)) ?_
  refine ⟨.bl (!inD d ds),H,I,?_,q⟩
  show _=Value.bool _
  rw [← h2];simp
end
end L2
namespace L2
open PySem PySem.Spec PyProof.Rows
section
variable {X:Cx}{pins:cZ}{σ:St}{H:Hp}{s:Shared}
noncomputable def tyN (H:Hp):V->Option String
 | .non=>some "NoneType"
 | .bl _=>some "bool"
 | .int _=>some "int"
 | .str _=>some "str"
 | .ref p=>match H p with
  | some (.lst _)=>some "list"
  | some (.tup _)=>some "tuple"
  | some (.dK _)=>some "dict"
  | _=>none
 | _=>none
noncomputable def okT (c:String):Bool:=c == "str" || c == "int" || c == "bool" || c == "list" || c == "tuple" || c == "dict"
noncomputable def subT (t c:String):Bool:=t == c || (t == "bool" && c == "int")
noncomputable def tysV:List V->Option (List String)
 | []=>some []
 | .ty n :: r=>(tysV r).map (n :: ·)
 | _ :: _=>none
noncomputable def clsV (H:Hp):V->Option (List String)
 | .ty n=>some [n]
 | .ref p=>match H p with
  | some (.tup vs)=>tysV vs
  | _=>none
 | _=>none
noncomputable def isV (H:Hp)(x c:V):Option Bool:=match tyN H x,clsV H c with
 | some t,some cs=>if cs.all okT then some (cs.any (subT t)) else none
 | _,_=>none
theorem K5 {x:V}{u:Value}{t:String}(I:aN X pins σ H s)(rx:aQ x u)(e:tyN H x=some t) :
  ∃ HH:Heap->Prop,PySem.W.KitX X.K u (.type t) HH/\HH s.heap/\u≠.builtin "__main__.__loader__#opaque":=by
 cases x with
 | non=>cases e;cases rx;exact ⟨_,PySem.W.kitx_none,True.intro,fun z=>nomatch z⟩
 | bl b=>cases e;cases rx;exact ⟨_,PySem.W.kitx_bool,True.intro,fun z=>nomatch z⟩
 | int i=>cases e;obtain ⟨t,rfl⟩:=rx;exact ⟨_,PySem.W.kitx_int,True.intro,fun z=>nomatch z⟩
 | str i=>cases e;obtain ⟨t,rfl⟩:=rx;exact ⟨_,PySem.W.kitx_str,True.intro,fun z=>nomatch z⟩
 | ref p =>
  cases rx
  unfold tyN at e
  dsimp only at e
  split at e
  ·rename_i xs hp;cases e
   obtain ⟨_,_,n,_,h1⟩:=(show bY X.prog X.w H s.heap p (.lst xs) from I.hok p _ hp)
   exact ⟨_,PySem.W.kitx_list,⟨_,h1,rfl⟩,fun z=>nomatch z⟩
  ·rename_i xs hp;cases e
   obtain ⟨_,_,_,o,h1,h2,_⟩:=(show bY X.prog X.w H s.heap p (.tup xs) from I.hok p _ hp)
   exact ⟨_,PySem.W.kitx_tuple,⟨o,h1,h2⟩,fun z=>nomatch z⟩
  ·rename_i kvs hp;cases e
   obtain ⟨_,_,vs,_,o,es,ep,h1,h2,_⟩:=(show bY X.prog X.w H s.heap p (.dK kvs) from I.hok p _ hp)
   exact ⟨_,PySem.W.kitx_dict,⟨o,h1,h2.1⟩,fun z=>nomatch z⟩
  ·cases e
 | _=>cases e
theorem IM {x:V}{t:String}(e:tyN H x=some t):t="NoneType"∨t="bool"∨t="int"∨t="str"∨t="list"∨t="tuple"∨t="dict":=by
 cases x with
 | non=>cases e;simp
 | bl b=>cases e;simp
 | int i=>cases e;simp
 | str i=>cases e;simp
 | ref p =>
  unfold tyN at e
  dsimp only at e
  split at e <;> cases e <;> simp
 | _=>cases e
theorem JR {c:String}(e:okT c=true):c="str"∨c="int"∨c="bool"∨c="list"∨c="tuple"∨c="dict":=by
 simp only [okT,Bool.or_eq_true,beq_iff_eq] at e
 rcases e with ((((e | e) | e) | e) | e) | e <;> simp [e]
theorem zC {K:PySem.W.Frag}{x:V}{t c:String}(e:tyN H x=some t)(hc:okT c=true):PySem.W.kitOne K (.type t) (.type c)=some (subT t c):=by
 rcases IM e with rfl | rfl | rfl | rfl | rfl | rfl | rfl <;> rcases JR hc with rfl | rfl | rfl | rfl | rfl | rfl <;> with_unfolding_all rfl
theorem zD {K:PySem.W.Frag}{x:V}{t:String}(e:tyN H x=some t):∀ {cs:List String},cs.all okT=true->PySem.W.kitAny K (.type t) (cs.map Value.type)=some (cs.any (subT t))
 | [],_=>rfl
 | c :: r,h=>by
  replace h:=Bool.and_eq_true_iff.mp (List.all_cons ▸ h)
  rw [List.map_cons]
  unfold PySem.W.kitAny
  rw [zC e h.1]
  cases q:subT t c with
  | true=>simp [q]
  | false=>simp only [List.any_cons,q,Bool.false_or];exact zD e h.2
theorem qX:∀ {vs:List V} {cs:List String} {us:cE},tysV vs=some cs->aV vs us->us=cs.map Value.type
 | [],cs,us,h,r=>by cases h;cases r;rfl
 | .ty n :: vs,cs,us,h,r=>by
  unfold tysV at h
  cases e:tysV vs with
  | none=>rw [e] at h;cases h
  | some c2 =>
   rw [e] at h
   cases h
   cases r with
   | cons r1 r2 =>
    cases r1
    rw [List.map_cons,qX e r2]
 | .non :: _,_,_,h,_=>by cases h
 | .bl _ :: _,_,_,h,_=>by cases h
 | .int _ :: _,_,_,h,_=>by cases h
 | .str _ :: _,_,_,h,_=>by cases h
 | .byt _ :: _,_,_,h,_=>by cases h
 | .flt _ :: _,_,_,h,_=>by cases h
 | .ref _ :: _,_,_,h,_=>by cases h
noncomputable def rIs:List V->Hp->VK->Prop:=fun xs H Q=>∃ x c b,xs=[x,c]/\isV H x c=some b/\Q (.bl b) H
theorem aL:cS X (.builtin "isinstance") rIs:=by
 intro pins s σ H xs us Q I r h
 obtain ⟨x,c,b,rfl,e,q⟩:=h
 cases r with
 | cons rx r2 =>
  cases r2 with
  | cons rc r3 =>
   cases r3
   unfold isV at e
   split at e
   ·rename_i t cs et ec
    split at e
    ·rename_i hcs
     cases e
     obtain ⟨HH,Z,hh,hne⟩:=K5 I rx et
     have fin:∀ tk,EP X pins σ Q (.bool (cs.any (subT t))) { s with toks:=tk }:=fun tk=>⟨.bl _,H,I.tok tk,rfl,q⟩
     cases c with
     | ty n =>
      cases rc
      cases ec
      have h1:okT n=true:=by simpa using hcs
      refine PySem.W.kia_one Z I.kIn hh (zC et h1) hne ?_
      intro tk
      have:=fin tk
      simpa using this
     | ref p =>
      cases rc
      unfold clsV at ec
      dsimp only at ec
      split at ec
      ·rename_i vs hp
       obtain ⟨_,its,rv,o,h1,h2,n,h3⟩:=(show bY X.prog X.w H s.heap p (.tup vs) from I.hok p _ hp)
       obtain ⟨cl,dd,dt,sl⟩:=o
       cases h2
       cases h3
       have e1:=qX ec rv
       subst e1
       exact PySem.W.kia_tup Z I.kIn hh h1 (zD et hcs) hne fin
      ·cases ec
     | _=>cases ec
    ·cases e
   ·cases e
noncomputable def seqV (H:Hp):V->Option (List V)
 | .ref p=>match H p with
  | some (.lst xs)=>some xs
  | some (.tup xs)=>some xs
  | _=>none
 | _=>none
theorem BG:cS X (.builtin "abs") (fun xs H Q=>∃ i,xs=[.int i]/\Q (.int (if i < 0 then -i else i)) H):=EO
noncomputable def rSlF:V->Option Int->Option Int->Hp->VK->Prop:=fun x lo hi H Q=>∃ a,x = .ref a /\
 ((∃ xs,H a=some (.lst xs)/\∀ p,H p=none->Q (.ref p) (upd H p (.lst (cutV xs lo hi)))) ∨
  (∃ xs,H a=some (.tup xs)/\¬ (HT.sIx xs.length 0 lo=0/\HT.sIx xs.length xs.length hi=xs.length)/\∀ p,H p=none->Q (.ref p) (upd H p (.tup (cutV xs lo hi)))))
end
noncomputable def x9 (J:It)(g:TG)(tb:TS)(D:gR)(σ:St)(H1:Hp):Prop:=∃ W:Nat->Nat->St->Hp->Prop,(∃ m,W 0 m σ H1)/\∀ i m σ H,W i m σ H ->
 (J.stop i H/\D.nx σ H)∨(J.go i H/\∃ N:St->Hp->Prop,(∀ σ' H',N σ' H'->∃ m',m' < m/\W (i + 1) m' σ' H')/\∀ x H',J.yld i H x H'->g x σ H' fun σ2 H2=>tb { D with nx:=N,ct:=N,bk:=D.nx } σ2 H2)
theorem tFor_eq {wi:TI}{g:TG}{tb:TS}{D:gR}{σ:St}{H:Hp}:tFor wi g tb D σ H=wi σ H fun J H1=>x9 J g tb D σ H1:=rfl
noncomputable def kQ (J:It)(g:TG)(tt:TT)(te:TE)(Q:VK)(σ:St)(H1:Hp):Prop:=∃ W:CW,(∃ m,W 0 m [] σ H1)/\II J g tt te (fun acc H=>∀ p,H p=none->Q (.ref p) (upd H p (.lst acc))) W
theorem tComp_eq {src:List (Option Nat)}{wi:TI}{g:TG}{tt:TT}{te:TE}{σ:St}{H:Hp}{Q:VK}:tComp src wi g tt te σ H Q=wi σ H fun J H1=>kQ J g tt te Q (stC src σ) H1:=rfl
section
variable {X:Cx}{tg:Expr}
noncomputable def iAny (K:PySem.W.Frag)(tl:TE):TI:=fun σ H R=>tl σ H fun x H1=>∃ a,x = .ref a/\((∃ xs,H1 a=some (.lst xs)/\R (IF K a) H1)∨(∃ xs,H1 a=some (.tup xs)/\R (IE K a) H1))
end
section
variable {g:TG}{tb:TS}{D:gR}{σ:St}{H:Hp}{tt:TT}{te:TE}{Q:VK}{K:PySem.W.Frag}
theorem eX {lo:Int}{n:Nat}(Pv:Nat->St->Hp->Prop)(h0:Pv 0 σ H)
  (hs:∀ i σ H,i < n->Pv i σ H->g (.int (lo + i)) σ H fun σ2 H2=>tb { D with nx:=Pv (i + 1),ct:=Pv (i + 1),bk:=D.nx } σ2 H2) (hd:∀ σ H,Pv n σ H->D.nx σ H):x9 (BR lo n) g tb D σ H:=A0 Pv h0 hs hd
theorem A1 {a:Addr}(xs:List V)(Pv:Nat->St->Hp->Prop)(h0:Pv 0 σ H)(hl:∀ i σ H,i<=xs.length->Pv i σ H->H a=some (.lst xs))
  (hs:∀ i x σ H,xs[i]?=some x->Pv i σ H->g x σ H fun σ2 H2=>tb { D with nx:=Pv (i + 1),ct:=Pv (i + 1),bk:=D.nx } σ2 H2) (hd:∀ σ H,Pv xs.length σ H->D.nx σ H):x9 (IF K a) g tb D σ H :=
 EA Pv h0 (fun i σ H hi p=>fH.of (hl i σ H hi p)) hs hd
theorem EC {a:Addr}(xs:List V)(Pv:Nat->St->Hp->Prop)(h0:Pv 0 σ H)(hl:∀ i σ H,i<=xs.length->Pv i σ H->H a=some (.tup xs))
  (hs:∀ i x σ H,xs[i]?=some x->Pv i σ H->g x σ H fun σ2 H2=>tb { D with nx:=Pv (i + 1),ct:=Pv (i + 1),bk:=D.nx } σ2 H2) (hd:∀ σ H,Pv xs.length σ H->D.nx σ H):x9 (IE K a) g tb D σ H :=
 GX Pv h0 (fun i σ H hi p=>iE.of (hl i σ H hi p)) hs hd
noncomputable def CStep (g:TG)(tt:TT)(te:TE)(x:V)(acc:List V)(σ:St)(H:Hp)(N:List V->St->Hp->Prop):Prop :=
 g x σ H fun σ2 H2=>tt σ2 H2 fun b H3=>if b=true then te σ2 H3 fun y H4=>acc.length < sizeLine/\N (acc ++ [y]) σ2 H4 else N acc σ2 H3
theorem kH {J:It}{n:Nat}(Pv:Nat->List V->St->Hp->Prop)(h0:Pv 0 [] σ H)
  (hs:∀ i acc σ H,i < n->Pv i acc σ H->J.go i H/\∀ x H',J.yld i H x H'->CStep g tt te x acc σ H' (Pv (i + 1)))
  (hd:∀ acc σ H,Pv n acc σ H->J.stop n H/\∀ p,H p=none->Q (.ref p) (upd H p (.lst acc))):kQ J g tt te Q σ H:=by
 refine ⟨fun i m acc σ H=>m=n - i/\i<=n/\Pv i acc σ H,⟨n,by simp,Nat.zero_le _,h0⟩,?_⟩
 rintro i m acc σ H ⟨rfl,hi,p⟩
 by_cases hlt:i < n
 ·obtain ⟨go,step⟩:=hs i acc σ H hlt p
  refine .inr ⟨go,fun x H' y=>?_⟩
  have e:∀ acc σ H,(∃ m',m' < n - i/\m'=n - (i + 1)/\i + 1<=n/\Pv (i + 1) acc σ H)=Pv (i + 1) acc σ H:=fun acc σ H=>propext ⟨fun ⟨_,_,_,_,q⟩=>q,fun q=>⟨n - (i + 1),by omega,rfl,hlt,q⟩⟩
  simp only [e]
  exact step x H' y
 ·have e:i=n:=by omega
  subst e
  obtain ⟨a,b⟩:=hd acc σ H p
  exact .inl ⟨a,b⟩
theorem vO {lo:Int}{n:Nat}(Pv:Nat->List V->St->Hp->Prop)(h0:Pv 0 [] σ H)(hs:∀ i acc σ H,i < n->Pv i acc σ H->CStep g tt te (.int (lo + i)) acc σ H (Pv (i + 1)))
  (hd:∀ acc σ H,Pv n acc σ H->∀ p,H p=none->Q (.ref p) (upd H p (.lst acc))):kQ (BR lo n) g tt te Q σ H :=
 kH Pv h0 (fun i acc σ H hi p=>⟨hi,fun x H' y=>by obtain ⟨rfl,rfl⟩:=y;exact hs i acc σ _ hi p⟩) fun acc σ H p=>⟨Nat.le_refl _,hd acc σ H p⟩
theorem xS {a:Addr}(xs:List V)(Pv:Nat->List V->St->Hp->Prop)(h0:Pv 0 [] σ H)(hl:∀ i acc σ H,i<=xs.length->Pv i acc σ H->H a=some (.lst xs))
  (hs:∀ i x acc σ H,xs[i]?=some x->Pv i acc σ H->CStep g tt te x acc σ H (Pv (i + 1))) (hd:∀ acc σ H,Pv xs.length acc σ H->∀ p,H p=none->Q (.ref p) (upd H p (.lst acc))):kQ (IF K a) g tt te Q σ H :=
 kH (n:=xs.length) Pv h0 (fun i acc σ H hi p=>⟨⟨xs,xs[i],fH.of (hl i acc σ H (Nat.le_of_lt hi) p),by simp [hi]⟩,fun x H' y=>by obtain ⟨rfl,y⟩:=y;exact hs i x acc σ _ (y xs (fH.of (hl i acc σ _ (Nat.le_of_lt hi) p))) p⟩)
  fun acc σ H p=>⟨⟨xs,fH.of (hl _ acc σ H (Nat.le_refl _) p),Nat.le_refl _⟩,hd acc σ H p⟩
theorem A6 {a:Addr}(xs:List V)(Pv:Nat->List V->St->Hp->Prop)(h0:Pv 0 [] σ H)(hl:∀ i acc σ H,i<=xs.length->Pv i acc σ H->H a=some (.tup xs))
  (hs:∀ i x acc σ H,xs[i]?=some x->Pv i acc σ H->CStep g tt te x acc σ H (Pv (i + 1))) (hd:∀ acc σ H,Pv xs.length acc σ H->∀ p,H p=none->Q (.ref p) (upd H p (.lst acc))):kQ (IE K a) g tt te Q σ H :=
 kH (n:=xs.length) Pv h0 (fun i acc σ H hi p=>⟨⟨xs,xs[i],iE.of (hl i acc σ H (Nat.le_of_lt hi) p),by simp [hi]⟩,fun x H' y=>by obtain ⟨rfl,y⟩:=y;exact hs i x acc σ _ (y xs (iE.of (hl i acc σ _ (Nat.le_of_lt hi) p))) p⟩)
  fun acc σ H p=>⟨⟨xs,iE.of (hl _ acc σ H (Nat.le_refl _) p),Nat.le_refl _⟩,hd acc σ H p⟩
theorem v8 {c:TT}(Pv:St->Hp->Prop)(μ:St->Hp->Nat)(h0:Pv σ H)
  (hs:∀ σ H,Pv σ H->∃ b:Bool,(∀ R:Bool->Hp->Prop,R b H->c σ H R)/\(b=true->tb { D with nx:=fun σ' H'=>Pv σ' H'/\μ σ' H' < μ σ H,ct:=fun σ' H'=>Pv σ' H'/\μ σ' H' < μ σ H,bk:=D.nx } σ H)/\(b=false->D.nx σ H)):wH c tb D σ H:=by
 refine ⟨fun m σ H=>m=μ σ H/\Pv σ H,⟨_,rfl,h0⟩,?_⟩
 rintro m σ H ⟨rfl,p⟩
 obtain ⟨b,hc,ht,hf⟩:=hs σ H p
 refine hc _ ?_
 cases b with
 | true=>exact ⟨_,fun σ' H' ⟨p',l⟩=>⟨_,l,rfl,p'⟩,ht rfl⟩
 | false=>exact hf rfl
theorem xK {n:Nat}{i:Int}(h0:0<=i)(h1:i < n):ixN n i=some i.toNat:=by unfold ixN;rw [if_pos h0,if_pos h1]
theorem iR {α:Type}{xs:List α}{i:Int}(h0:0<=i)(h1:i < xs.length):atI xs i=xs[i.toNat]?:=by unfold atI;rw [xK h0 h1];rfl
theorem atI_zero {α:Type}{a:α}{xs:List α}:atI (a :: xs) 0=some a:=by rw [iR (by decide) (by simp only [List.length_cons];omega)];rfl
theorem atI_one {α:Type}{a b:α}{xs:List α}:atI (a :: b :: xs) 1=some b:=by rw [iR (by decide) (by simp only [List.length_cons];omega)];rfl
theorem ixN_zero {n:Nat}:ixN (n + 1) 0=some 0:=by rw [xK (by decide) (by omega)];rfl
theorem ixN_one {n:Nat}:ixN (n + 1 + 1) 1=some 1:=by rw [xK (by decide) (by omega)];rfl
end
theorem aJ.upd {H:Hp}{a:Addr}{o:HO}(h:H a=none):aJ H (upd H a o):=fun b u e=>by rw [aE (aG e h)];exact e
noncomputable def dL (p:Addr)(H H':Hp):Prop:=∀ b o,b≠p->H b=some o->H' b=some o
theorem dL.refl (p:Addr)(H:Hp):dL p H H:=fun _ _ _ h=>h
theorem dL.trans {p:Addr}{H H1 H2:Hp}(a:dL p H H1)(b:dL p H1 H2):dL p H H2:=fun c o n h=>b c o n (a c o n h)
theorem dL.upd (p:Addr)(H:Hp)(o:HO):dL p H (upd H p o):=fun c u n h=>by rw [aE n];exact h
theorem dL.new {p a:Addr}{H:Hp}{o:HO}(h:H a=none):dL p H (L2.upd H a o):=fun c u n e=>by rw [aE (aG e h)];exact e
theorem aJ.but {p:Addr}{H H':Hp}(s:aJ H H'):dL p H H':=fun b o _ h=>s b o h
end L2
namespace L2
open PySem PySem.Spec PyProof.Rows PyProof.Rows.LSm
section
variable {X:Cx}
theorem oF:∀ {bs:List Bool} {us:cE},aV (bs.map V.bl) us->BoolsAre us bs
 | [],_,r=>by cases r;exact .nil
 | b :: bs,_,r=>by
  cases r with
  | cons r1 r2=>cases r1;exact .cons b (oF r2)
theorem xL {prog:Program}{w:World}{A:Around}{E:cY}{s:Shared}{p:Addr}{its:cE}{bs:List Bool}(d:Bool){K:Bool->Shared->Prop}{fold:Nat->(Nat->Bool)->Bool}(hh:A.handled=none)(at_:s.heap.IsList p its.toArray)(are:BoolsAre its bs)
  (k:∀ h' tk,(∀ b x,s.heap.get? b=some x->h'.get? b=some x)->K (fold bs.length fun i=>(bs[i]?).getD d) { s with heap:=h',toks:=tk }) :
  wpAny (model prog w) A (pyIter (.ref p)) (fun it t=>∃ I fp wr n P St tr,it = .ref I/\Walks prog w A I fp wr n P St/\St 0 t.heap/\TruthOf prog w A P tr /\
   ∀ h' tk,(∀ b x,b ∉ wr->t.heap.get? b=some x->h'.get? b=some x)->K (fold n tr) { t with heap:=h',toks:=tk }) E s:=by
 have ne:p≠s.heap.objs.size:=let ⟨_,e,_⟩:=id at_;Nat.ne_of_lt (Heap.lt_size e)
 have truth:TruthOf prog w A (fun i v=>its.toArray[i]?=some v) fun i=>(bs[i]?).getD d:=by
  intro i v t Q X hv hQ
  obtain ⟨b,is,rfl⟩:=LSm.BoolsAre.get are i v (by simpa using hv)
  have hQ:Q ((bs[i]?).getD d) t:=hQ
  rw [is] at hQ
  exact wpAny_truthy_bool hQ
 have len:its.toArray.size=bs.length:=(List.size_toArray ..).trans (LSm.BoolsAre.length are)
 refine wpAny_pyIter_list at_ ⟨_,_,_,_,_,_,_,rfl,Walks.list hh s.heap.objs.size p ne its.toArray,?_,truth,fun h' tk hk=>?_⟩
 ·exact aI ⟨_,Heap.get?_push_size _ rfl,rfl,rfl⟩ (at_.push _)
 ·rw [len]
  exact k h' tk (LSm.kept_iter hk)
noncomputable def rAll:List V->Hp->VK->Prop:=fun xs H Q=>∃ (p:Addr) (bs:List Bool),xs=[.ref p]/\H p=some (.lst (bs.map V.bl))/\Q (.bl (bs.all id)) H
noncomputable def rAny:List V->Hp->VK->Prop:=fun xs H Q=>∃ (p:Addr) (bs:List Bool),xs=[.ref p]/\H p=some (.lst (bs.map V.bl))/\Q (.bl (bs.any id)) H
noncomputable def rSum:List V->Hp->VK->Prop:=fun xs H Q=>∃ (p:Addr) (ns:List Int),xs=[.ref p]/\H p=some (.lst (ns.map V.int))/\Q (.int ns.sum) H
theorem qG (hc:X.calm=true){nm:String}{fold:Nat->(Nat->Bool)->Bool}{says:List Bool->Bool}(d:Bool)(is:∀ bs:List Bool,fold bs.length (fun i=>(bs[i]?).getD d)=says bs)
  (ask:∀ {s:Shared} {x:Value} {Q E:cY},wpAny (model X.prog X.w) X.A.in1 (pyIter x) (fun it t=>∃ I fp wr n P St tr,it = .ref I/\Walks X.prog X.w X.A.in1 I fp wr n P St/\St 0 t.heap/\TruthOf X.prog X.w X.A.in1 P tr /\
   ∀ h' tk,(∀ b x,b ∉ wr->t.heap.get? b=some x->h'.get? b=some x)->Q (.bool (fold n tr)) { t with heap:=h',toks:=tk }) E s->wpAny (model X.prog X.w) X.A (call (.builtin nm) [x]) Q E s) :
  cS X (.builtin nm) fun xs H Q=>∃ (p:Addr) (bs:List Bool),xs=[.ref p]/\H p=some (.lst (bs.map V.bl))/\Q (.bl (says bs)) H:=by
 rintro pins s σ H _ us Q I r ⟨p,bs,rfl,hp,q⟩
 obtain ⟨u,rfl,e⟩:=vals1 r
 cases e
 obtain ⟨its,rv,pl,_⟩:=I.list (fH.of hp)
 refine ask (xL (K:=fun b t=>EP X pins σ Q (.bool b) t) d (show X.A.in1.handled=none from I.ok.hd hc) pl.isList (oF rv) fun h' tk hk=>?_)
 rw [is bs]
 exact ⟨.bl (says bs),H,I.kept (t':=tk) hk,rfl,q⟩
theorem gW (hc:X.calm=true):cS X (.builtin "all") rAll:=qG hc true LSm.range_all call_all_walk
theorem BF (hc:X.calm=true):cS X (.builtin "any") rAny:=qG hc false LSm.range_any call_any_walk
theorem BB (hc:X.calm=true):cS X (.builtin "max") (fun xs H Q=>∃ i j,xs=[.int i,.int j]/\Q (.int (if j > i then j else i)) H):=BC hc
theorem rW (hc:X.calm=true):cS X (.builtin "min") (fun xs H Q=>∃ i j,xs=[.int i,.int j]/\Q (.int (if j < i then j else i)) H):=BA hc
end
end L2
namespace L2
open PySem PySem.Spec PyProof.Rows
noncomputable def MD (K:PySem.W.Frag)(a b:Addr):It :=
 ⟨fun i H=>∃ xs ys x y,fH K H a xs/\fH K H b ys/\xs[i]?=some x/\ys[i]?=some y,
  fun i H z H'=>∃ T x y,z = .ref T/\H T=none/\H'=upd H T (.tup [x,y])/\∀ xs ys,fH K H a xs->fH K H b ys->xs[i]?=some x/\ys[i]?=some y,
  fun i H=>∃ xs ys,fH K H a xs/\fH K H b ys/\(xs.length<=i∨ys.length<=i)⟩
section
variable {X:Cx}{elts:iW}{tk0:_}{tpos:Pos}
noncomputable def iZip (K:PySem.W.Frag)(ta:TA):TI:=fun σ H R=>ta σ H fun vs H1=>∃ a b,vs=[.ref a,.ref b]/\(∃ xs,fH K H1 a xs)/\(∃ ys,fH K H1 b ys)/\R (MD K a b) H1
end
noncomputable def KS (J:It)(g:TG)(tt:TT)(te:TE)(Fin:List V->St->Hp->Prop)(W:CW):Prop:=∀ i m acc σ H,W i m acc σ H ->
 (J.stop i H/\Fin acc σ H) ∨
 (J.go i H/\∀ x H',J.yld i H x H'->g x σ H' fun σ2 H2=>tt σ2 H2 fun b H3 =>
  if b=true then te σ2 H3 fun y H4=>acc.length < sizeLine/\∃ m',m' < m/\W (i + 1) m' (acc ++ [y]) σ2 H4 else ∃ m',m' < m/\W (i + 1) m' acc σ2 H3)
noncomputable def MG (J:It)(g:TG)(tt:TT)(te:TE)(Fin:List V->St->Hp->Prop)(acc:List V)(σ:St)(H:Hp):Prop:=∃ W:CW,(∃ m,W 0 m acc σ H)/\KS J g tt te Fin W
noncomputable def E3 (J:It)(g1:TG)(wi2:TI)(g2:TG)(tt:TT)(te:TE)(Q:VK)(σ:St)(H1:Hp):Prop:=∃ W:CW,(∃ m,W 0 m [] σ H1)/\∀ i m acc σ H,W i m acc σ H ->
 (J.stop i H/\∀ p,H p=none->Q (.ref p) (upd H p (.lst acc))) ∨
 (J.go i H/\∀ x H',J.yld i H x H'->g1 x σ H' fun σ2 H2=>wi2 σ2 H2 fun J2 H3=>MG J2 g2 tt te (fun acc' σ' H4=>∃ m',m' < m/\W (i + 1) m' acc' σ' H4) acc σ2 H3)
noncomputable def IX (src:List (Option Nat))(wi:TI)(g1:TG)(wi2:TI)(g2:TG)(tt:TT)(te:TE):TE:=fun σ H Q=>wi σ H fun J H1=>E3 J g1 wi2 g2 tt te Q (stC src σ) H1
end L2
namespace L2
open PySem PySem.Spec PyProof.Rows
open PySem.AutoSeq1 (wpAny_loadPart')
open PySem.MeetsSeq PySem.MeetsSeq2 PySem.MeetsSeq3
noncomputable def x0 (items:uH)(i:Nat)(ns:List Int):Prop:=i<=items.size/\IntsAre (items.toList.drop i) ns
theorem x0.end_ {items:uH}{i:Nat}(h:x0 items i []):items.size=i/\items[i]?=none:=by
 obtain ⟨h1,h2⟩:=h
 have e:=h2.length
 rw [List.length_drop,Array.length_toList,List.length_nil] at e
 exact ⟨by omega,Array.getElem?_eq_none (by omega)⟩
theorem x0.next {items:uH}{i:Nat}{a:Int}{ns:List Int}(h:x0 items i (a :: ns)):i < items.size/\(∃ t,items[i]?=some (.int a t))/\x0 items (i + 1) ns:=by
 obtain ⟨h1,h2⟩:=h
 generalize e:items.toList.drop i=us at h2
 cases h2 with
 | cons _ t r =>
  have lt:i < items.toList.length:=by
   have z:=congrArg List.length e
   rw [List.length_drop,List.length_cons] at z
   omega
  rw [List.drop_eq_getElem_cons lt] at e
  injection e with e1 e2
  rw [Array.length_toList] at lt
  refine ⟨lt,⟨t,?_⟩,lt,e2 ▸ r⟩
  rw [Array.getElem?_eq_getElem lt,← e1]
  rfl
noncomputable abbrev uE (l b:Addr)(ol ob:Obj)(xs ys:List Int):PySem.Spec:=fun _ R s=>s.heap.get? l=some ol/\s.heap.get? b=some ob/\R (.ok (.ret (.bool (HT.lexLt xs ys)))) s
noncomputable abbrev ltAsk (l b:Addr)(i:Nat):Args:=⟨[.ref l,.ref b,rawInt i,rawInt 0],[]⟩
theorem vD {l b:Addr}{ol ob:Obj}{xs ys:List Int}{i:Nat}{prog:Program}{w:World}{A:Around}{R:Result->Shared->Prop}{s:Shared}(m:Meets (Builtin.«list.__eq__.loop» (ltAsk l b i)) (uE l b ol ob xs ys))(h:uE l b ol ob xs ys A R s) :
  (Code.builtin "list.__eq__.loop" (ltAsk l b i)).quiet=true/\codeAny (model prog w) A (.builtin "list.__eq__.loop" (ltAsk l b i)) R s:=by
 refine ⟨plainId_quiet plain_eq_loop (ltAsk l b i),codeAny_builtin entry_eq_loop ?_⟩
 have u:=A.under_plainId plain_eq_loop (ltAsk l b i)
 rw [u]
 exact m prog w A R s h
theorem y9 (l b:Addr)(us vs:uH)(n k:Nat)(du dv:Option Addr)(su sv:Array (Option Value)):∀ (xs ys:List Int) (i:Nat),x0 us i xs->x0 vs i ys ->
  Meets (Builtin.«list.__eq__.loop» (ltAsk l b i)) (uE l b { cls:=.type "list",dict:=du,data:=.seq us n,slots:=su } { cls:=.type "list",dict:=dv,data:=.seq vs k,slots:=sv } xs ys)
 | [],ys,i,f,g=>by
  rintro prog w A R ⟨hp,ge,d,tk,os⟩ ⟨atL,atB,h⟩
  obtain ⟨z,no⟩:=f.end_
  have says:HT.lexLt [] ys=decide (us.size < vs.size):=by
   cases ys with
   | nil=>exact (decide_eq_false (by rw [z,(g.end_).1];exact Nat.lt_irrefl _)).symm
   | cons y r=>exact (decide_eq_true (by rw [z];exact (g.next).1)).symm
  rw [says] at h
  wp_walk using wpAny_loadPart' atL,wpAny_loadPart' atB
  rw [show ((i:Nat):Int).toNat=i from rfl,no]
  cases vs[i]? <;> wp_walk using wpAny_loadPart' atL,wpAny_loadPart' atB <;> exact h
 | x :: xs,[],i,f,g=>by
  rintro prog w A R ⟨hp,ge,d,tk,os⟩ ⟨atL,atB,h⟩
  obtain ⟨z,no⟩:=g.end_
  obtain ⟨lt,⟨t,is⟩,_⟩:=f.next
  have says:HT.lexLt (x :: xs) []=decide (us.size < vs.size):=(decide_eq_false (by omega)).symm
  rw [says] at h
  wp_walk using wpAny_loadPart' atL,wpAny_loadPart' atB
  rw [show ((i:Nat):Int).toNat=i from rfl,no,is]
  wp_walk using wpAny_loadPart' atL,wpAny_loadPart' atB
  exact h
 | x :: xs,y :: ys,i,f,g=>by
  have go:=y9 l b us vs n k du dv su sv xs ys (i + 1) (f.next).2.2 (g.next).2.2
  rintro prog w A R ⟨hp,ge,d,tk,os⟩ ⟨atL,atB,h⟩
  obtain ⟨_,⟨t,isU⟩,_⟩:=f.next
  obtain ⟨_,⟨t',isV⟩,_⟩:=g.next
  wp_walk using wpAny_loadPart' atL,wpAny_loadPart' atB
  rw [show ((i:Nat):Int).toNat=i from rfl,isU,isV]
  obtain ⟨e,asked,iff⟩:=HT.eqAt_int A.in1 ⟨hp,ge,d,tk,os⟩ x t y t'
  refine wpAny_bind (asked prog w _ _ ?_)
  by_cases xy:x=y
  ·rw [HT.lexLt_cons,if_pos xy] at h
   rw [iff.mpr xy]
   wp_walk
   exact vD go ⟨atL,atB,h⟩
  ·rw [HT.lexLt_cons,if_neg xy] at h
   have e0:e=false:=by cases e with | false=>rfl | true=>exact absurd (iff.mp rfl) xy
   subst e0
   have less:=HT.rcLt_int A.in1 ⟨hp,ge,d,tk,os⟩ x t y t' prog w
   wp_walk using wpAny_loadPart' atL,wpAny_loadPart' atB
   rw [isU,isV]
   wp_walk using less
   exact h
theorem tR (l b:Addr)(us vs:uH)(n k:Nat)(du dv:Option Addr)(su sv:Array (Option Value))(xs ys:List Int)(hi:IntsAre us.toList xs)(hj:IntsAre vs.toList ys) :
  Meets (Builtin.«list.__lt__» ⟨[.ref l,.ref b],[]⟩) (uE l b { cls:=.type "list",dict:=du,data:=.seq us n,slots:=su } { cls:=.type "list",dict:=dv,data:=.seq vs k,slots:=sv } xs ys):=by
 have go:=y9 l b us vs n k du dv su sv xs ys 0 ⟨Nat.zero_le _,hi⟩ ⟨Nat.zero_le _,hj⟩
 rintro prog w A R ⟨hp,ge,d,tk,os⟩ ⟨atL,atB,h⟩
 have kind:=AutoSeq1.sub_list_list
 wp_walk using wpAny_loadPart' atL,wpAny_loadPart' atB
 exact vD go ⟨atL,atB,h⟩
section
variable {prog:Program}{w:World}{A:Around}{E:cY}{s:Shared}
theorem vC {l b:Addr}{items items2:uH}{ns ms:List Int}{Q:cY}(hl:s.heap.IsList l items)(hb:s.heap.IsList b items2)(hi:IntsAre items.toList ns)(hj:IntsAre items2.toList ms)
  (hu:A.units < cLine) (h:Q (.bool (HT.lexLt ns ms)) s):wpAny (model prog w) A (compareOp .Lt (.ref l) (.ref b)) Q E s:=by
 obtain ⟨⟨cls,dd,data,sl⟩,ho,hc,n,hd⟩:=id hl
 obtain ⟨⟨cls2,dd2,data2,sl2⟩,ho2,hc2,n2,hd2⟩:=id hb
 simp only at hc hd hc2 hd2
 subst hc hd hc2 hd2
 exact richCompare_meets_room (op:=.Lt) ⟨_,ho,rfl⟩ ⟨_,ho2,rfl⟩ PySem.F.slot_list_lt PySem.F.entry_list_lt (PySem.F.args_list_lt_2 _ _) (tR l b items items2 n n2 dd dd2 sl sl2 ns ms hi hj)
  ⟨ho,ho2,show Value.bool (HT.lexLt ns ms)≠Value.notImplemented/\Q (.bool (HT.lexLt ns ms)) s from ⟨(fun x=>nomatch x),h⟩⟩ hu
end
section
variable {X:Cx}
noncomputable def rLtL:R2:=fun x y H Q=>∃ a b ns ms,x = .ref a/\y = .ref b/\H a=some (.lst (ns.map V.int))/\H b=some (.lst (ms.map V.int))/\Q (.bl (HT.lexLt ns ms)) H
theorem JK (hu:X.A.units < cLine):iN X (compareOp .Lt) rLtL:=by
 intro pins s σ H x y v u Q I rx ry h
 obtain ⟨a,b,ns,ms,rfl,rfl,ha,hb,q⟩:=h
 cases rx
 cases ry
 obtain ⟨its,r1,p1,_⟩:=I.list (fH.of ha)
 obtain ⟨its2,r2,p2,_⟩:=I.list (fH.of hb)
 have i1:IntsAre its.toArray.toList ns:=qA r1
 have i2:IntsAre its2.toArray.toList ms:=qA r2
 exact vC p1.isList p2.isList i1 i2 hu ⟨.bl (HT.lexLt ns ms),H,I,rfl,q⟩
end
end L2
namespace L2
open PySem PySem.Spec PyProof.Rows
section
variable {X:Cx}{pos:Pos}
theorem FQ {i j:Nat}{x y:Str}{px py:Pos}{k:_}(hc:X.calm=true)(hN:X.N.Nodup)(hi:X.N[i]?=some x)(hj:X.N[j]?=some y)(hx:X.env.scope.names.lookup x=some .local)(hy:X.env.scope.names.lookup y=some .local) :
  PG X (.Tuple [.Name x px,.Name y py] k pos) (gTup X.K 2 (gCons (gName i) (gCons (gName j) gNil))) :=
 CQ hc (mB (bN hN hi (.inl hx) (.inr hx)) (mB (bN hN hj (.inl hy) (.inr hy)) yP))
end
section
variable {g g1 g2:TG}{tb:TS}{D:gR}{σ:St}{H:Hp}{tt:TT}{te:TE}{Q:VK}{K:PySem.W.Frag}{wi2:TI}{acc:List V}{Fin:List V->St->Hp->Prop}
theorem tComp2_eq {src:List (Option Nat)}{wi:TI}{σ:St}{H:Hp}{Q:VK}:IX src wi g1 wi2 g2 tt te σ H Q=wi σ H fun J H1=>E3 J g1 wi2 g2 tt te Q (stC src σ) H1:=rfl
end
section
variable {X:Cx}
theorem jM (hu:X.A.units + 64 < cLine):iN X (compareOp .Lt) (fun x y H Q=>(rI0 (fun i j=>.bl (decide (i < j))) x y H Q∨(∃ i j,x = .str i/\y = .str j/\Q (.bl (decide (i.cps.toList < j.cps.toList))) H))∨rLtL x y H Q) :=
 (K4.or AK).or (JK (by omega))
end
section
variable {H:Hp}{a p:Addr}{xs:List V}{Q:VK}{K:PySem.W.Frag}
theorem rIs_eq {x c:V}:rIs [x,c] H Q = ∃ b,isV H x c=some b/\Q (.bl b) H:=propext ⟨fun ⟨x',c',b,e,h,q⟩=>by cases e;exact ⟨b,h,q⟩,fun ⟨b,h,q⟩=>⟨x,c,b,rfl,h,q⟩⟩
theorem truV_bl {b k:Bool}:HC K (.bl b) H k=(k=b):=rfl
theorem isV_ii {n:Int}:isV H (.int n) (.ty "int")=some true:=rfl
theorem isV_ib {n:Int}:isV H (.int n) (.ty "bool")=some false:=rfl
theorem isV_bb {n:Bool}:isV H (.bl n) (.ty "bool")=some true:=rfl
theorem isV_ll (h:H a=some (.lst xs)):isV H (.ref a) (.ty "list")=some true:=by unfold isV tyN;simp only [h];rfl
theorem J3 (h:H a=some (.lst xs))(h2:H p=some (.tup [.ty "list",.ty "tuple"])):isV H (.ref a) (.ref p)=some true:=by unfold isV tyN clsV;simp only [h,h2];rfl
theorem xM (h:H a=some (.tup xs))(h2:H p=some (.tup [.ty "list",.ty "tuple"])):isV H (.ref a) (.ref p)=some true:=by unfold isV tyN clsV;simp only [h,h2];rfl
theorem lenV_l (h:H a=some (.lst xs)):lenV H (.ref a)=some xs.length:=by unfold lenV;simp only [h]
theorem lenV_t (h:H a=some (.tup xs)):lenV H (.ref a)=some xs.length:=by unfold lenV;simp only [h]
theorem seqV_l (h:H a=some (.lst xs)):seqV H (.ref a)=some xs:=by unfold seqV;simp only [h]
theorem seqV_t (h:H a=some (.tup xs)):seqV H (.ref a)=some xs:=by unfold seqV;simp only [h]
theorem ixV_l {i:Int}(h:H a=some (.lst xs)):ixV H (.ref a) (.int i)=atI xs i:=by unfold ixV;simp only [h]
theorem ixV_t {i:Int}(h:H a=some (.tup xs)):ixV H (.ref a) (.int i)=atI xs i:=by unfold ixV;simp only [h]
end
section
noncomputable def j4 (H:Hp)(a:Addr)(xs:List V):Prop:=H a=some (.lst xs)∨H a=some (.tup xs)
variable {g:TG}{tt:TT}{te:TE}{Q:VK}{K:PySem.W.Frag}{σ:St}{H:Hp}
variable {tb:TS}{D:gR}
end
section
variable {X:Cx}{pos:Pos}{tg:Expr}
theorem dD (K:PySem.W.Frag)(hK:X.K=K){i j:Nat}{x y:Str}{px py:Pos}{k:_}(hc:X.calm=true)(hN:X.N.Nodup)(hi:X.N[i]?=some x)(hj:X.N[j]?=some y)(hx:X.env.scope.names.lookup x=some .local)(hy:X.env.scope.names.lookup y=some .local) :
  PG X (.Tuple [.Name x px,.Name y py] k pos) (gTup K 2 (gCons (gName i) (gCons (gName j) gNil))):=by subst hK;exact FQ hc hN hi hj hx hy
noncomputable def tTruth (K:PySem.W.Frag)(ta:TE):TT:=fun σ H Q=>ta σ H fun x H1=>∃ k,HC K x H1 k/\Q k H1
theorem aU (K:PySem.W.Frag)(hK:X.K=K){a:Expr}{ta:TE}(ha:PE X a ta)(he:∀ whole,isTrue a X.env whole=(do let v ← whole;standAt a.pos;holding [v] (truthy v))):PT X a (tTruth K ta):=by subst hK;exact CH ha he
end
noncomputable def EZ (K:PySem.W.Frag)(a:Addr)(xs:List V)(J:It)(H:Hp):Prop:=(J=IF K a/\H a=some (.lst xs))∨(J=IE K a/\H a=some (.tup xs))
noncomputable def iSq (K:PySem.W.Frag)(tl:TE):TI:=fun σ H R=>tl σ H fun x H1=>∃ a xs,x = .ref a/\j4 H1 a xs/\∀ J,EZ K a xs J H1->R J H1
section
variable {X:Cx}{tg:Expr}
theorem dM (K:PySem.W.Frag)(hK:X.K=K){l:Expr}{tl:TE}(hl:PE X l tl):PI X tg l (iSq K tl):=by
 subst hK
 intro pins s σ H R I h
 refine thn (hl pins s σ H _ I h) fun v s1 ⟨x,H1,I1,r1,q1⟩=>?_
 obtain ⟨a,xs,e,hs,q⟩:=q1
 subst e
 cases r1
 rcases hs with hq | hq
 ·obtain ⟨its,rv,p,hz⟩:=I1.list (fH.of hq)
  refine wpAny_pyIter_list p.isList ?_
  refine ⟨s1.heap.objs.size,[s1.heap.objs.size],_,_,H1,rfl,I1.kept (t':=s1.toks) fun b o e=>Heap.get?_push_of_some _ e,zY a _,⟨_,Heap.get?_push_size _ rfl,rfl,rfl⟩,fun b hb=>?_,q _ (.inl ⟨rfl,hq⟩)⟩
  have e:b=s1.heap.objs.size:=by simpa using hb
  subst e
  exact I1.fpOk (Nat.le_refl _) (I1.hok.fresh (Nat.le_refl _))
 ·obtain ⟨its,rv,p,hz⟩:=I1.tuple (iE.of hq)
  refine wpAny_pyIter_tuple (show s1.heap.IsTuple a its.toArray from p) ?_
  refine ⟨s1.heap.objs.size,[s1.heap.objs.size],_,_,H1,rfl,I1.kept (t':=s1.toks) fun b o e=>Heap.get?_push_of_some _ e,wB a _,⟨_,Heap.get?_push_size _ rfl,rfl,rfl⟩,fun b hb=>?_,q _ (.inr ⟨rfl,hq⟩)⟩
  have e:b=s1.heap.objs.size:=by simpa using hb
  subst e
  exact I1.fpOk (Nat.le_refl _) (I1.hok.fresh (Nat.le_refl _))
end
section
variable {g g1 g2:TG}{tb:TS}{D:gR}{σ:St}{H:Hp}{tt:TT}{te:TE}{Q:VK}{K:PySem.W.Frag}{wi2:TI}{J:It}{a:Addr}{xs:List V}
theorem mK (hJ:EZ K a xs J H)(Pv:Nat->St->Hp->Prop)(h0:Pv 0 σ H)(hl:∀ i σ H',i<=xs.length->Pv i σ H'->H' a=H a)
  (hs:∀ i x σ H,xs[i]?=some x->Pv i σ H->g x σ H fun σ2 H2=>tb { D with nx:=Pv (i + 1),ct:=Pv (i + 1),bk:=D.nx } σ2 H2) (hd:∀ σ H,Pv xs.length σ H->D.nx σ H):x9 J g tb D σ H:=by
 rcases hJ with ⟨rfl,e⟩ | ⟨rfl,e⟩
 ·exact A1 xs Pv h0 (fun i σ H' hi p=>(hl i σ H' hi p).trans e) hs hd
 ·exact EC xs Pv h0 (fun i σ H' hi p=>(hl i σ H' hi p).trans e) hs hd
theorem dG (hJ:EZ K a xs J H)(Pv:Nat->List V->St->Hp->Prop)(h0:Pv 0 [] σ H)(hl:∀ i acc σ H',i<=xs.length->Pv i acc σ H'->H' a=H a)
  (hs:∀ i x acc σ H,xs[i]?=some x->Pv i acc σ H->CStep g tt te x acc σ H (Pv (i + 1))) (hd:∀ acc σ H,Pv xs.length acc σ H->∀ p,H p=none->Q (.ref p) (upd H p (.lst acc))):kQ J g tt te Q σ H:=by
 rcases hJ with ⟨rfl,e⟩ | ⟨rfl,e⟩
 ·exact xS xs Pv h0 (fun i acc σ H' hi p=>(hl i acc σ H' hi p).trans e) hs hd
 ·exact A6 xs Pv h0 (fun i acc σ H' hi p=>(hl i acc σ H' hi p).trans e) hs hd
end
noncomputable def rSlU:V->Option Int->Option Int->Hp->VK->Prop:=fun x lo hi H Q=>∃ a xs,x = .ref a/\j4 H a xs/\((∃ ys,H a=some (.tup ys))->¬ (HT.sIx xs.length 0 lo=0/\HT.sIx xs.length xs.length hi=xs.length)) /\
 ∀ p o,H p=none->(o = .lst (cutV xs lo hi)/\H a=some (.lst xs)∨o = .tup (cutV xs lo hi)/\H a=some (.tup xs))->Q (.ref p) (upd H p o)
theorem sZ {X:Cx}:KW X rSlU:=by
 intro pins s σ H x v vl vu lo hi sl Q I rx hs pl pu h
 obtain ⟨a,xs,rfl,ha | ha,hw,q⟩:=h
 ·exact FD pins s σ H _ v vl vu lo hi sl Q I rx hs pl pu ⟨a,xs,rfl,fH.of ha,fun p hp=>q p _ hp (.inl ⟨rfl,ha⟩)⟩
 ·exact JA pins s σ H _ v vl vu lo hi sl Q I rx hs pl pu ⟨a,xs,rfl,iE.of ha,hw ⟨_,ha⟩,fun p hp=>q p _ hp (.inr ⟨rfl,ha⟩)⟩
section
variable {H:Hp}{Q:VK}
theorem rEqD_ii {i j:Int}:rEqD (.int i) (.int j) H Q=Q (.bl (decide (i=j))) H:=by
 have e:eqD (.int i) (.int j)=decide (i=j):=by show (i == j)=_;rw [Bool.eq_iff_iff];simp
 refine propext ⟨fun ⟨d,e',h1,h2,_,q⟩=>?_,fun q=>⟨.int i,.int j,rfl,rfl,Nat.zero_le _,by rw [e];exact q⟩⟩
 have d1:d = .int i:=cD.inj h1 (show cD H (.int i) (.int i) from rfl)
 have d2:e' = .int j:=cD.inj h2 (show cD H (.int j) (.int j) from rfl)
 rw [d1,d2,e] at q
 exact q
theorem rNeD_ii {i j:Int}:rNeD (.int i) (.int j) H Q=Q (.bl (!decide (i=j))) H:=by
 have e:eqD (.int i) (.int j)=decide (i=j):=by show (i == j)=_;rw [Bool.eq_iff_iff];simp
 refine propext ⟨fun ⟨d,e',h1,h2,_,q⟩=>?_,fun q=>⟨.int i,.int j,rfl,rfl,Nat.zero_le _,by rw [e];exact q⟩⟩
 have d1:d = .int i:=cD.inj h1 (show cD H (.int i) (.int i) from rfl)
 have d2:e' = .int j:=cD.inj h2 (show cD H (.int j) (.int j) from rfl)
 rw [d1,d2,e] at q
 exact q
theorem rEqD_ss {i j:Str}:rEqD (.str i) (.str j) H Q=Q (.bl (decide (i=j))) H:=by
 have e:eqD (.str i) (.str j)=decide (i=j):=by show (i == j)=_;rw [Bool.eq_iff_iff];simp
 refine propext ⟨fun ⟨d,e',h1,h2,_,q⟩=>?_,fun q=>⟨.str i,.str j,rfl,rfl,Nat.zero_le _,by rw [e];exact q⟩⟩
 have d1:d = .str i:=cD.inj h1 (show cD H (.str i) (.str i) from rfl)
 have d2:e' = .str j:=cD.inj h2 (show cD H (.str j) (.str j) from rfl)
 rw [d1,d2,e] at q
 exact q
theorem rNeD_ss {i j:Str}:rNeD (.str i) (.str j) H Q=Q (.bl (!decide (i=j))) H:=by
 have e:eqD (.str i) (.str j)=decide (i=j):=by show (i == j)=_;rw [Bool.eq_iff_iff];simp
 refine propext ⟨fun ⟨d,e',h1,h2,_,q⟩=>?_,fun q=>⟨.str i,.str j,rfl,rfl,Nat.zero_le _,by rw [e];exact q⟩⟩
 have d1:d = .str i:=cD.inj h1 (show cD H (.str i) (.str i) from rfl)
 have d2:e' = .str j:=cD.inj h2 (show cD H (.str j) (.str j) from rfl)
 rw [d1,d2,e] at q
 exact q
theorem mQ {a b:Addr}{xs ys:List V}(ha:H a=some (.lst xs))(hb:H b=some (.lst ys))(hz:xs.length + ys.length<=sizeLine):catO H (.ref a) (.ref b)=some (.lst (xs ++ ys)):=by
 unfold catO
 simp only [ha,hb]
 rw [if_pos hz]
theorem catO_i {i:Int}{y:V}:catO H (.int i) y=none:=by cases y <;> rfl
theorem catO_s {i:Str}{y:V}:catO H (.str i) y=none:=by cases y <;> rfl
end
noncomputable def rTupU:List V->Hp->VK->Prop:=fun xs H Q=>∃ p ys,xs=[.ref p]/\j4 H p ys/\∀ l H',(H p=some (.tup ys)/\l=p/\H'=H∨H p=some (.lst ys)/\H l=none/\H'=upd H l (.tup ys))->Q (.ref l) H'
theorem iM {X:Cx}:cS X (.type "tuple") rTupU:=by
 refine qU.imp fun xs H Q h=>?_
 obtain ⟨p,ys,rfl,hp | hp,q⟩:=h
 ·exact ⟨p,ys,rfl,.inl ⟨fH.of hp,fun l hl=>q l _ (.inr ⟨hp,hl,rfl⟩)⟩⟩
 ·exact ⟨p,ys,rfl,.inr ⟨iE.of hp,q p _ (.inl ⟨hp,rfl,rfl⟩)⟩⟩
inductive bJ (φ:(Obj->Obj)->Prop){α:Type}:Sem α->Prop
 | pure (a):bJ φ (.pure a)
 | raise (e):bJ φ (.raise e)
 | unsup (x):bJ φ (.unsupported x)
 | rule (t) {k:Unit->Sem α} (h:∀ x,bJ φ (k x)):bJ φ (.rule t k)
 | at_ (p) {k:Unit->Sem α} (h:∀ x,bJ φ (k x)):bJ φ (.at p k)
 | load (a p) {k:Obj->Sem α} (h:∀ x,bJ φ (k x)):bJ φ (.load a p k)
 | update (a p) {f:Obj->Obj} {k:Unit->Sem α} (hf:φ f) (h:∀ x,bJ φ (k x)):bJ φ (.update a p f k)
 | alloc (o) {k:Addr->Sem α} (h:∀ x,bJ φ (k x)):bJ φ (.alloc o k)
 | point (l) {k:Unit->Sem α} (h:∀ x,bJ φ (k x)):bJ φ (.point l k)
 | stack {k:List (Code×Pos)->Sem α} (h:∀ x,bJ φ (k x)):bJ φ (.stack k)
 | ask {k:Setting->Sem α} (h:∀ x,bJ φ (k x)):bJ φ (.ask k)
section
variable {φ:(Obj->Obj)->Prop}{α β:Type}
theorem bJ.bind {t:Sem α}{f:α->Sem β}(h:bJ φ t)(hf:∀ a,bJ φ (f a)):bJ φ (t >>= f):=by
 show bJ φ (t.bind f)
 induction h with
 | pure a=>exact hf a
 | raise e=>exact .raise e
 | unsup x=>exact .unsup x
 | rule t _ ih=>exact .rule t fun x=>ih x
 | at_ p _ ih=>exact .at_ p fun x=>ih x
 | load a p _ ih=>exact .load a p fun x=>ih x
 | update a p z _ ih=>exact .update a p z fun x=>ih x
 | alloc o _ ih=>exact .alloc o fun x=>ih x
 | point l _ ih=>exact .point l fun x=>ih x
 | stack _ ih=>exact .stack fun x=>ih x
 | ask _ ih=>exact .ask fun x=>ih x
theorem bJ.wp {M:Model}{Γ:PySem.Ctx}{Ψ:Heap->Prop}(hu:∀ h a f,φ f->Ψ h->Ψ (h.update a f))(hp:∀ h o,Ψ h->Ψ (h.push o)){Q:α->Pos->Shared->Prop}{E:Value->Pos->Shared->Prop}{t:Sem α}(st:bJ φ t) :
  ∀ p s,Ψ s.heap->Sem.wp M Γ t (fun a p s=>Ψ s.heap->Q a p s) (fun e p s=>Ψ s.heap->E e p s) p s->Sem.wp M Γ t Q E p s:=by
 induction st with
 | pure a=>intro p s i h;rw [Sem.wp] at h ⊢;exact h i
 | raise e=>intro p s i h;rw [Sem.wp] at h ⊢;exact h i
 | unsup x=>intro p s i h;rw [Sem.wp] at h;exact h.elim
 | rule t _ ih=>intro p s i h;rw [Sem.wp] at h ⊢;exact ih _ _ _ i h
 | at_ p _ ih=>intro p s i h;rw [Sem.wp] at h ⊢;exact ih _ _ _ i h
 | load a p _ ih=>intro p s i h;rw [Sem.wp] at h ⊢;obtain ⟨o,e,h⟩:=h;exact ⟨o,e,ih _ _ _ i h⟩
 | update a p z _ ih=>intro p s i h;rw [Sem.wp] at h ⊢;exact ⟨h.1,ih _ _ _ (hu _ _ _ z i) h.2⟩
 | alloc o _ ih=>intro p s i h;rw [Sem.wp] at h ⊢;exact ih _ _ _ (hp _ _ i) h
 | point l _ ih=>intro p s i h;rw [Sem.wp] at h ⊢;exact ih _ _ _ i h
 | stack _ ih=>intro p s i h;rw [Sem.wp] at h ⊢;exact ih _ _ _ i h
 | ask _ ih=>intro p s i h;rw [Sem.wp] at h ⊢;exact ih _ _ _ i h
end
noncomputable def eS (e:Addr)(h:Heap):Prop:=∃ o vs,h.get? e=some o/\o.data = .fields vs/\vs[2]?=some .none
noncomputable def lP (f:Obj->Obj):Prop:=∀ o vs,o.data = .fields vs->vs[2]?=some .none->∃ vs',(f o).data = .fields vs'/\vs'[2]?=some .none
theorem eS.update {e a:Addr}{h:Heap}{f:Obj->Obj}(hf:lP f):eS e h->eS e (h.update a f):=by
 rintro ⟨o,vs,ho,hd,h2⟩
 by_cases z:a=e
 ·subst z
  obtain ⟨vs',hd',h2'⟩:=hf o vs hd h2
  exact ⟨f o,vs',Heap.get?_update_self f ho (Obj.isFreed_of_fields hd'),hd',h2'⟩
 ·exact ⟨o,vs,(Heap.get?_update_other h f z).trans ho,hd,h2⟩
theorem eS.push {e:Addr}{h:Heap}{o:Obj}:eS e h->eS e (h.push o):=fun ⟨u,vs,ho,hd,h2⟩=>⟨u,vs,Heap.get?_push_of_some o ho,hd,h2⟩
theorem eS.at {e:Addr}{h h':Heap}(x:eS e h)(k:∀ o,h.get? e=some o->h'.get? e=some o):eS e h':=let ⟨o,vs,ho,r⟩:=x;⟨o,vs,k o ho,r⟩
theorem mR {α:Type}{M:Model}{A:Around}{E:cY}{s:Shared}{t:Sem α}{e:Addr}{Q:α->Shared->Prop}(st:bJ lP t)(i:eS e s.heap)(h:wpAny M A t (fun a s'=>eS e s'.heap->Q a s') (fun x s'=>eS e s'.heap->E x s') s):wpAny M A t Q E s :=
 fun Γ p hΓ=>st.wp (fun _ _ _ z=>eS.update z) (fun _ _=>eS.push) p s i (h Γ p hΓ)
theorem xC {i:Nat}{v:Value}(hi:i≠2):lP (Obj.mapFields (·.setIfInBounds i v)):=fun o vs hd h2=>⟨_,Obj.data_mapFields hd _,by rw [Array.getElem?_setIfInBounds_ne hi];exact h2⟩
theorem lC {φ:(Obj->Obj)->Prop}{a:Addr}:bJ φ (load a):=.load _ _ fun x=>.pure x
theorem sO (v:Value):bJ lP (fieldsOf v):=by
 unfold fieldsOf
 cases v <;> first | exact .unsup _ | skip
 refine lC.bind fun o=>?_
 split <;> first | exact .pure _ | exact .unsup _
theorem iI (v:Value)(i:Nat):bJ lP (field v i):=by
 unfold field
 refine (sO v).bind fun vs=>?_
 split <;> first | exact .pure _ | exact .unsup _
theorem gY {v x:Value}{i:Nat}(hi:i≠2):bJ lP (setField v i x):=by
 unfold setField
 cases v <;> first | exact .unsup _ | skip
 dsimp only
 unfold updateField
 refine lC.bind fun o=>?_
 split
 ·split
  ·exact .update _ _ (xC hi) fun _=>.pure _
  ·exact .unsup _
 ·exact .unsup _
theorem oO (ty:String)(vs:cE):bJ lP (newFields ty vs):=by
 have tail:bJ lP (alloc { cls:=.type ty,data:=.fields vs.toArray } >>= fun a=>(pure (Value.ref a):Sem Value)):=.alloc _ fun x=>.pure _
 unfold newFields newObj
 dsimp only
 split
 ·exact .unsup _
 ·exact tail
theorem n9:∀ l:List Env,bJ lP (readyFrames l)
 | []=>.pure _
 | env :: outer=>by
  unfold readyFrames
  split
  ·refine lC.bind fun o=>?_
   split
   ·exact .pure _
   ·refine bJ.bind ?_ fun im=>bJ.bind ?_ fun back=>.update _ _ (fun o vs hd h2=>⟨vs,hd,h2⟩) fun _=>n9 outer
    ·unfold behindIsImport
     split
     ·exact .pure _
     ·split
      ·exact .pure _
      ·exact (iI _ _).bind fun _=>.pure _
    ·unfold keptBack
     split
     ·split
      ·exact .pure _
      ·exact bJ.bind (.stack fun _=>.pure _) fun _=>.pure _
     ·exact .pure _
  ·exact .unsup _
theorem qN (env:Env):bJ lP (PySem.frameOf env):=by
 unfold PySem.frameOf
 refine bJ.bind (.stack fun _=>.pure _) fun l=>bJ.bind ?_ fun r=>?_
 ·unfold frameObject
  split
  ·exact .pure _
  ·exact (n9 _).bind fun _=>.pure _
 ·split <;> first | exact .pure _ | exact .unsup _
theorem uN (f:Addr)(b:Bool):bJ lP (entryPlaceOf f b):=by
 unfold entryPlaceOf
 refine bJ.bind (.stack fun _=>.pure _) fun l=>?_
 split <;> exact .pure _
theorem pI (e:Value)(env:Env):bJ lP (noteFrame e env):=by
 have last:∀ (h:Value) (f:Addr),bJ lP (frameOf env >>= fun a=>entryPlaceOf f (h != .none) >>= fun pl=>EntryCells.newEntry h a .none (rawInt f) .none pl >>= fun b=>setField e 1 b):=fun h f =>
  (qN env).bind fun a=>(uN f _).bind fun pl=>bJ.bind (by unfold EntryCells.newEntry;exact oO _ _) fun b=>gY (by decide)
 unfold noteFrame
 split
 ·refine (iI e 1).bind fun h=>?_
  dsimp only
  split
  ·refine (iI h 3).bind fun x=>?_
   split
   ·exact .pure _
   ·exact (gY (by decide)).bind fun _=>last h _
  ·exact last h _
 ·exact .unsup _
theorem jF (e:Value)(f:Option Addr):bJ lP (setFlight e f):=by
 unfold setFlight
 refine (iI e 1).bind fun tb=>?_
 split
 ·exact gY (by decide)
 ·exact .pure _
theorem qM (env:Env)(e:Value):bJ lP (leaving env e):=(pI e env).bind fun _=>jF e none
section
variable {P:Program}{w:World}{fs:List Addr}{H H':Hp}{h h1 h2 B:Heap}
theorem Un.fly (u:Un fs [] H H' h h1)(kB:∀ b o,B.get? b=some o->h1.get? b=some o/\h2.get? b=some o)(cov:∀ b o,h.get? b=some o->b ∉ fs->∃ o',B.get? b=some o')
  (sl:∀ b ∈ fs,∀ o,h1.get? b=some o->∃ s2,h2.get? b=some { o with slots:=s2 }):Un fs [] H H' h h2 where
 keep:=fun b o e n hb hx=>by
  have q:=u.keep b o e n hb hx
  obtain ⟨o',e'⟩:=cov b o e hb
  obtain ⟨k1,k2⟩:=kB b o' e'
  rw [q] at k1;cases k1
  exact k2
 slot:=fun b o e n hb hx=>by
  obtain ⟨s1,q⟩:=u.slot b o e n hb hx
  obtain ⟨s2,q2⟩:=sl b hb _ q
  exact ⟨s2,q2⟩
 free:=u.free
 there:=fun b o e hx=>by
  obtain ⟨o1,q⟩:=u.there b o e hx
  by_cases hb:b ∈ fs
  ·obtain ⟨s2,q2⟩:=sl b hb _ q
   exact ⟨_,q2⟩
  ·obtain ⟨o',e'⟩:=cov b o e hb
   exact ⟨o',(kB b o' e').2⟩
 tups:=u.tups
 frzs:=u.frzs
 tbls:=u.tbls
theorem iG.fly (hok:iG P w H' h1)(kB:∀ b o,B.get? b=some o->h1.get? b=some o/\h2.get? b=some o)(covH:∀ b u,H' b=some u->∃ o',B.get? b=some o'):iG P w H' h2:=fun a o e =>
 (hok a o e).stay (fun b u hb q=>by
  obtain ⟨o',e'⟩:∃ o',B.get? b=some o':=by
   rcases hb with z | z
   ·rw [z];exact covH a o e
   ·exact covH b _ z
  obtain ⟨k1,k2⟩:=kB b o' e'
  rw [q] at k1;cases k1
  exact k2) (fun _ q=>q) fun _ _ q=>q
theorem bY.there {a:Addr}{o:HO}(x:bY P w H h a o):∃ ob,h.get? a=some ob:=by
 cases o with
 | lst xs=>obtain ⟨_,_,_,_,e⟩:=x;exact ⟨_,e⟩
 | tup xs=>obtain ⟨_,_,_,ob,e,_⟩:=x;exact ⟨_,e⟩
 | dK kvs=>obtain ⟨_,_,_,_,o,_,_,e,_⟩:=x;exact ⟨_,e⟩
 | dT kvs=>obtain ⟨_,_,_,_,o,_,_,e,_⟩:=x;exact ⟨_,e⟩
 | set S n=>obtain ⟨o,_,_,_,e,_⟩:=x;exact ⟨_,e⟩
 | ins C dx fs=>obtain ⟨_,_,_,e,_⟩:=x;exact ⟨_,e⟩
 | own y=>exact x
 | xd fs=>obtain ⟨_,⟨_,_,_,e,_⟩,_⟩:=x;exact ⟨_,e⟩
 | rng lo hi=>obtain ⟨_,_,_,e⟩:=x;exact ⟨_,e⟩
 | frz ob u=>obtain ⟨e,_⟩:=x;exact ⟨_,e⟩
 | tbl ps=>exact ⟨_,(show h.get? a=some _ from x)⟩
 | met f y=>exact ⟨_,(show h.get? a=some _ from x)⟩
 | ext φ=>obtain ⟨_,e,_⟩:=x;exact e
theorem pO {l:List Env}(F:h1.FunFrames B l)(u:h1.UpToSlots h2):∀ b ∈ frs l,∀ o,h1.get? b=some o->∃ s2,h2.get? b=some { o with slots:=s2 }:=fun b hb o e=>by
 obtain ⟨_,o',e',d⟩:=F.mem hb
 rw [e] at e';cases e'
 exact u b o e d
end
noncomputable def yA (P:Program)(w:World):sG:=fun outer H s E e s'=>∃ (ea C:Addr) (a0:Value) (B:Heap) (H':Hp),e = .ref ea/\Heap.FlyingW B outer ea (.ref C) a0 s'.heap/\eS ea s'.heap/\Un (frs outer) [] H H' s.heap s'.heap/\iG P w H' s'.heap/\s'.os=s.os/\AllBare s'.gens /\
 (∀ b o,s.heap.get? b=some o->b ∉ frs outer->∃ o',B.get? b=some o')/\(∀ b u,H' b=some u->∃ o',B.get? b=some o')/\E (.ref C) none H'
noncomputable def ES (X:Cx)(E:XK):Prop:=∀ (pins:cZ) (σ:St) (H:Hp) (s:Shared) (h':Heap) (e C:Addr) (us:cE),aN X pins σ H s->Heap.MadeExcOf s.heap h' e (.ref C) us->E (.ref C) none H->X.xe (.ref e) { s with heap:=h' }
section
variable {P:Program}{w:World}{K:PySem.W.Frag}{mg:eJ}{base:Heap}{N:aW}{qual:Str}{scope:Scope}{f:Addr}{cd:Value}{A:Around}{outer:List Env}{s0:Shared}{H0:Hp}{E:XK}
theorem D9 {env:Env}{l:List Env}{L:Addr}(h:env.frame=some L):frs (env :: l)=L :: frs l:=by unfold frs;rw [List.filterMap_cons,h]
theorem nA:ES (cxOf (yA P w) P w K mg base N qual scope f cd A outer s0 H0 E) E:=by
 intro pins σ H s h' e C us I hx hE
 have hin:∀ env ∈ (envOfC qual scope s0.heap.objs.size f cd :: outer),∀ b,env.frame=some b->b ∈ frs (envOfC qual scope s0.heap.objs.size f cd :: outer):=fun env he b hb=>List.mem_filterMap.mpr ⟨env,he,hb⟩
 have ff:=PySem.W.funFrames_hide I.stack hin
 have hfr:frs (envOfC qual scope s0.heap.objs.size f cd :: outer)=s0.heap.objs.size :: frs outer:=D9 rfl
 have al:eS e h':=by
  obtain ⟨t,he,_⟩:=hx.there
  exact ⟨_,_,he,rfl,rfl⟩
 refine mR (s:={ s with heap:=h' }) (e:=e) (qM _ _) al (wpAny_leaves_madeW (base:=PySem.W.hideAll s.heap (frs (envOfC qual scope s0.heap.objs.size f cd :: outer))) (h:=s.heap) I.ok.frames rfl (fun b o q=>PySem.W.of_hideAll _ q) ff hx fun h2 t hfl _ _ sm al2=>?_)
 have kB:∀ b o,(PySem.W.hideAll s.heap (frs (envOfC qual scope s0.heap.objs.size f cd :: outer))).get? b=some o->s.heap.get? b=some o/\h2.get? b=some o:=fun b o q=>⟨PySem.W.of_hideAll _ q,hfl.1 b o q⟩
 have cov:∀ b o,s.heap.get? b=some o->b ∉ frs (envOfC qual scope s0.heap.objs.size f cd :: outer)->(PySem.W.hideAll s.heap (frs (envOfC qual scope s0.heap.objs.size f cd :: outer))).get? b=some o:=fun b o q n=>PySem.W.hideAll_get _ q n
 have sl:s.heap.UpToSlots h2:=(Heap.UpToSlots.of_keeps hx.keeps).trans sm
 have covH:∀ b u,H b=some u->∃ o',(PySem.W.hideAll s.heap (frs (envOfC qual scope s0.heap.objs.size f cd :: outer))).get? b=some o':=fun b u q=>by
  have nf:b ∉ frs (envOfC qual scope s0.heap.objs.size f cd :: outer):=fun z=>by have:=I.stkFree b z;rw [q] at this;cases this
  obtain ⟨o,ho⟩:=bY.there (I.hok b u q)
  exact ⟨o,cov b o ho nf⟩
 refine ⟨e,C,.ref t,_,H,rfl,hfl,al2,?_,I.hok.fly kB covH,I.os,I.bare,?_,covH,hE⟩
 ·refine I.base.fly kB (fun b o q n=>?_) (fun b hb o q=>pO ff sl b (by show b ∈ frs (envOfC qual scope s0.heap.objs.size f cd :: outer);rw [hfr];exact List.mem_cons_of_mem _ hb) o q)
  obtain ⟨o1,q1⟩:=I.base.there b o q (by simp [cxOf])
  refine ⟨o1,cov b o1 q1 ?_⟩
  rw [hfr]
  intro z
  rcases List.mem_cons.mp z with z | z
  ·exact absurd (Heap.lt_size q) (by rw [z];exact Nat.lt_irrefl _)
  ·exact n z
 ·intro b o q n
  obtain ⟨o1,q1⟩:=I.base.there b o q (by simp [cxOf])
  refine ⟨o1,cov b o1 q1 ?_⟩
  rw [hfr]
  intro z
  rcases List.mem_cons.mp z with z | z
  ·exact absurd (Heap.lt_size q) (by rw [z];exact Nat.lt_irrefl _)
  ·exact n z
end
def wA:cE:=[.type "ValueError",.type "Exception",.type "BaseException",.type "object"]
noncomputable def oN (K:PySem.W.Frag)(C:Addr):Prop:=PySem.W.excIn K C wA "ValueError.__new__" = true
theorem zH {K:PySem.W.Frag}{h:Heap}{C:Addr}{bmB:cE}{newId:String}(X:K.In h)(q:PySem.W.excIn K C bmB newId=true) :
  ∃ (bm:cE) (N:Addr) (nm qn:Str) (bs:cE) (hd:Bool) (sn:aW) (sub:cE) (ab:Bool) (col:Option Bool) (dd:Option Addr) (k0 k1 k2 k3 k5:Option Value) (mN:eJ),
   h.get? C=some (excClassObj nm qn C N bs bm hd sn sub ab col dd k0 k1 k2 k3 k5 newId)/\h.Ns N mN/\mN "__init__" = none/\OwnTail h bmB bm:=by
 -- the class is looked up once;what else it might be is ruled out by q
 cases found:K.lookup C with
 | none=>simp [PySem.W.excIn,found] at q
 | some o =>
  have here:=X _ _ found
  unfold PySem.W.excIn at q
  rw [found] at q
  revert q
  split
  next dict cd slots same =>
   cases same
   cases cd with
   | mk nm bases mro ns qn hasDict slotNames subs abs coll del =>
    split
    next C2 rest a b c d new f isMro isSlots =>
     intro q
     repeat rw [Bool.and_eq_true] at q
     obtain ⟨⟨⟨⟨⟨q1,q2⟩,q3⟩,q4⟩,q5⟩,q6⟩:=q
     have e1:=eq_of_beq q1
     have e2:=eq_of_beq q2
     have e3:del=false:=by cases del with | false=>rfl | true=>cases q3
     have e4:slots=[a,b,c,d,some (.builtin new),f].toArray:=by rw [← isSlots]
     have e5:mro = .ref C2 :: rest:=isMro
     rw [e1] at e5
     rw [e2] at e4
     subst e3 e4 e5
     exact ⟨rest,ns,nm,qn,bases,hasDict,slotNames,subs,abs,coll,dict,a,b,c,d,f,_,here,.of_isNs (PySem.W.isNs_of_in X q5),PySem.W.nsMap_none_of_in X q5 (eq_of_beq q6),PySem.W.tail_of_in X q4⟩
    next=>exact fun z=>nomatch z
  next=>exact fun z=>nomatch z
section
variable {X:Cx}{x:Str}{C:Addr}{np cpos pos:Pos}{e:Expr}{ta:TA}{E:XK}
noncomputable def tRaise (C:Addr)(E:XK)(ta:TA):TS:=fun _ σ H=>ta σ H fun vs H1=>vs.length<=1000/\E (.ref C) none H1
theorem pQ (hc:X.calm=true)(hT:ES X E)(hg:Gl X x)(hm:X.mg x=some (.ref C))(q:oN X.K C)(ha:PA X [e] ta)(hdb:(x == ("__debug__" : Str))=false:=by decide)
  (he:starEach [e] X.env=(false,eval e X.env) :: starEach [] X.env:=by rfl) (hpl:(backTo cpos (starEach [] X.env)).any (·.1)=false:=by rfl):PS X (.Raise (some (.Call (.Name x np) [e] [] cpos)) none pos) (tRaise C E ta):=by
 intro pins s σ H D I h
 obtain ⟨bm,N,nm,qn,bs,hdct,sn,sub,ab,col,dd,k0,k1,k2,k3,k5,mN,hC,hN,hni,TL⟩:=zH I.ok.mod.kin q
 refine wpAny_Raise_call_subU (C:=C) (nm:=nm) (q:=qn) (N:=N) (bs:=bs) (bm:=bm) (hdct:=hdct) (sn:=sn) (sub:=sub) (ab:=ab) (col:=col) (dd:=dd) (k0:=k0) (k1:=k1) (k2:=k2) (k3:=k3) (k5:=k5)
  PySem.F.excBase_ValueError (by decide +kernel) PySem.F.excBase_ValueError (mN:=mN) (TL.hasType (by decide +kernel)) (I.ok.hd hc) (by rw [he];show (false || (backTo cpos (starEach [] X.env)).any (·.1))=false;rw [hpl];rfl) hni (jN I hg hm ⟨rfl,?_⟩ hdb)
 have hp:=ha cpos pins s σ H _ I h
 rw [he] at hp ⊢
 refine Calls.evalArgs_plain (wpAny_mono hp (fun vs s₂ h₂=>?_) fun _ _ y=>y)
 obtain ⟨vv,H1,I1,rv,hl,hE⟩:=h₂
 refine ⟨rfl,?_,I1.bk _ _ hC,hN.keeps I1.bk,TL.keeps I1.bk,fun h' e' hm'=>hT pins σ H1 s₂ h' e' C vs I1 hm' hE⟩
 have z:vs.length<=1000:=by rw [← rv.length];exact hl
 exact Nat.le_trans z (by decide)
end
theorem gN.okE {P:Program}{w:World}{K:PySem.W.Frag}{mg:eJ}{base:Heap}{x qual:Str}{st:Stmt}{f:Addr}{fd:FuncData}{N ps:aW}{k:Nat}{sp:Sp}(F:gN K x qual st f fd)(S:aZ N ps (aD st))(len:∀ vs H Q E,sp vs H Q E->vs.length=ps.length)
  (hbody:∀ (cdv:Value) (A:Around) (outer:List Env) (s:Shared) (H:Hp) (vs:List V) (Q:VK) (E:XK),fR k (A.deeper (envOfC qual (aD st) s.heap.objs.size f cdv))->sp vs H Q E ->
   ∃ t,oH (cxOf (yA P w) P w K mg base N qual (aD st) f cdv A outer s H E) (aM st) t/\t { nx:=fun _ H'=>Q .non H',rt:=Q } (start N vs) H):cF P w K mg base (yA P w) (k + 1) f fd ps sp:=by
 obtain ⟨oc,od,kV,doc,pm,an,cdv,ct,osl,rfl,lk,hcd⟩:=F.ex
 exact IA lk hcd S len fun A outer s H vs Q E hr hsp=>hbody cdv A outer s H vs Q E hr hsp
noncomputable abbrev Cx.mk1 (X:Cx)(e:Value):Cx:={ X with A:=X.A.mark (some e),calm:=false,xe:=fun _ _=>False }
noncomputable abbrev Cx.tr (X:Cx)(pn:cZ)(E:cY):Cx:={ X with pn:=pn,xe:=E }
section
variable {X:Cx}{pins:cZ}{σ:St}{H:Hp}{s:Shared}{e:Value}
theorem Cx.Ok.mk1 (ok:X.Ok)(e:Value):(X.mk1 e).Ok :=
 ⟨ok.mod,ok.kind,ok.glob,ok.blt,ok.above,ok.inj,ok.has,ok.cab,fun h=>Bool.noConfusion h,ok.frames,ok.stk,ok.exf,ok.bs,ok.bsz,ok.noex,ok.exfs,ok.funs,ok.frf⟩
theorem Cx.Ok.tr (ok:X.Ok)(pn:cZ)(E:cY):(X.tr pn E).Ok :=
 ⟨ok.mod,ok.kind,ok.glob,ok.blt,ok.above,ok.inj,ok.has,ok.cab,ok.hd,ok.frames,ok.stk,ok.exf,ok.bs,ok.bsz,ok.noex,ok.exfs,ok.funs,ok.frf⟩
theorem aN.mk1 (I:aN X pins σ H s)(e:Value):aN (X.mk1 e) pins σ H s:=⟨I.ok.mk1 e,I.os,I.bare,I.base,I.loc,I.cell,I.free,I.freeC,I.pin,I.hok,I.len⟩
theorem aN.unmk1 (ok:X.Ok)(I:aN (X.mk1 e) pins σ H s):aN X pins σ H s:=⟨ok,I.os,I.bare,I.base,I.loc,I.cell,I.free,I.freeC,I.pin,I.hok,I.len⟩
theorem aN.tr (I:aN X pins σ H s)(E:cY):aN (X.tr (X.pn ++ pins) E) [] σ H s:=⟨I.ok.tr _ E,I.os,I.bare,I.base,I.loc,I.cell,I.free,I.freeC,fun p hp=>I.pin p (by simpa using hp),I.hok,I.len⟩
theorem aN.untr {E:cY}{pl:cZ}(ok:X.Ok)(I:aN (X.tr (X.pn ++ pins) E) pl σ H s):aN X pins σ H s:=⟨ok,I.os,I.bare,I.base,I.loc,I.cell,I.free,I.freeC,fun p hp=>I.pin p (List.mem_append_left _ hp),I.hok,I.len⟩
theorem SP.unmk1 {D:gR}{f:Flow}{s':Shared}(ok:X.Ok)(h:SP (X.mk1 e) pins D f s'):SP X pins D f s':=by
 cases f with
 | next=>obtain ⟨σ,H,I,q⟩:=h;exact ⟨σ,H,I.unmk1 ok,q⟩
 | brk=>obtain ⟨σ,H,I,q⟩:=h;exact ⟨σ,H,I.unmk1 ok,q⟩
 | cont=>obtain ⟨σ,H,I,q⟩:=h;exact ⟨σ,H,I.unmk1 ok,q⟩
 | ret v=>obtain ⟨x,σ,H,I,r,q⟩:=h;exact ⟨x,σ,H,I.unmk1 ok,r,q⟩
theorem SP.untr {D:gR}{f:Flow}{s':Shared}{E:cY}{pl:cZ}(ok:X.Ok)(h:SP (X.tr (X.pn ++ pins) E) pl D f s'):SP X pins D f s':=by
 cases f with
 | next=>obtain ⟨σ,H,I,q⟩:=h;exact ⟨σ,H,I.untr ok,q⟩
 | brk=>obtain ⟨σ,H,I,q⟩:=h;exact ⟨σ,H,I.untr ok,q⟩
 | cont=>obtain ⟨σ,H,I,q⟩:=h;exact ⟨σ,H,I.untr ok,q⟩
 | ret v=>obtain ⟨x,σ,H,I,r,q⟩:=h;exact ⟨x,σ,H,I.untr ok,r,q⟩
end
section
variable {X:Cx}{x:Str}{C:Addr}{np hp pos:Pos}{EX:XK}{b0:Stmt}{suite body:List Stmt}{tb th:TS}
theorem A8 {pins:cZ}{σ:St}{H:Hp}{s s1:Shared}{e:Value}{D:gR}(hst:X.stack=X.env :: X.outer/\X.env.frame=some X.env.locals)(hg:Gl X x)(hm:X.mg x=some (.ref C))(q:oN X.K C)
  (hh:∀ e,oH (X.mk1 e) (b0 :: suite) th) (hEX:∀ cls d H',EX cls d H'->cls = .ref C) (I:aN X pins σ H s) (cx:yA X.prog X.w X.stack H s EX e s1) (hx:∀ cls d H',EX cls d H'->th D σ H') (hdb:(x == ("__debug__" : Str))=false) :
  wpAny (model X.prog X.w) X.A (noteFrame e X.env) (fun _ s₂=>wpAny (model X.prog X.w) X.A (setFlight e none) (fun _ s₃=>wpAny (model X.prog X.w) X.A (handleBy e X.env [.ExceptHandler (some (.Name x np)) none (b0 :: suite) hp]) (SP X pins D) X.xe s₃) X.xe s₂) X.xe s1:=by
 obtain ⟨ea,C',a0,B,H',rfl,hfl,_,un,hok,os,bare,cov,covH,hE⟩:=cx
 have eC:=hEX _ _ _ hE
 cases eC
 have hfr:X.A.frames=some (X.env :: X.outer):=by rw [← hst.1];exact I.ok.frames
 rw [hst.1] at hfl
 have I6:∀ h6,Heap.FlyingW B (X.env :: X.outer) ea (.ref C) a0 h6->s1.heap.UpToSlots h6->aN X pins σ H' { s1 with heap:=h6 }:=fun h6 fl sm=>by
  have kB:∀ b o,B.get? b=some o->s1.heap.get? b=some o/\h6.get? b=some o:=fun b o z=>⟨hfl.1 b o z,fl.1 b o z⟩
  refine I.call' (s':={ s1 with heap:=h6 }) (ch:=[]) os (un.fly kB cov fun b hb o z=>pO hfl.2.2.1 sm b (by rw [← hst.1];exact hb) o z) (hok.fly kB covH) bare fun b z=>absurd z (by simp)
 refine wpAny_looks_onW hfr hst.2 hfl fun h4 held4 sm4=>?_
 refine wpAny_landsW held4 fun h5 fl5 sm5=>?_
 have J5:=(I6 h5 fl5 (sm4.trans sm5)).mk1 (.ref ea)
 obtain ⟨ob,hob,hobc⟩:=fl5.there
 refine wpAny_handleBy_cons (codeAny_handlers_test (jN J5 hg hm ?_ hdb)) (by intro z;cases z)
 obtain ⟨bm,N,nm,qn,bs,hdct,sn,sub,ab,col,dd,k0,k1,k2,k3,k5,mN,hC,hN,hni,TL⟩:=zH J5.kIn q
 refine wpAny_excMatches_sub_self hC hob hobc (TL.hasType (by decide +kernel)) (codeAny_handlers_suite ?_)
 refine lands_againW fl5 fun h6 fl6 sm6=>?_
 have I6':=I6 h6 fl6 ((sm4.trans sm5).trans sm6)
 refine wpAny_mono (hh (.ref ea) pins _ σ H' D (I6'.mk1 (.ref ea)) (hx _ _ _ hE)) (fun f s2 h2=>?_) fun _ _ z=>False.elim z
 exact SP.unmk1 I.ok h2
noncomputable def tTry (tb:TS)(EX:XK)(th:TS):TS:=fun D σ H=>tb D σ H/\∀ cls d σ' H',EX cls d H'->th D σ' H'
theorem JE (EX:XK)(hst:X.stack=X.env :: X.outer/\X.env.frame=some X.env.locals)(hg:Gl X x)(hm:X.mg x=some (.ref C))(q:oN X.K C)(hEX:∀ cls d H',EX cls d H'->cls = .ref C)
  (hb:∀ pn Ew,fY (yA X.prog X.w) (X.tr pn Ew) EX->oH (X.tr pn Ew) body tb) (hh:∀ e,oH (X.mk1 e) (b0 :: suite) th) (hdb:(x == ("__debug__" : Str))=false:=by decide) :
  PS X (.Try body [.ExceptHandler (some (.Name x np)) none (b0 :: suite) hp] [] [] pos) (tTry tb EX th):=by
 intro pins s σ H D I h
 obtain ⟨hbd,hx⟩:=h
 refine wpAny_Try_except ?_
 have hP:fY (yA X.prog X.w) (X.tr (X.pn ++ pins) fun e s₁=>wpAny (model X.prog X.w) X.A (noteFrame e X.env) (fun _ s₂=>wpAny (model X.prog X.w) X.A (setFlight e none) (fun _ s₃=>wpAny (model X.prog X.w) X.A (handleBy e X.env [.ExceptHandler (some (.Name x np)) none (b0 :: suite) hp]) (SP X pins D) X.xe s₃) X.xe s₂) X.xe s₁) EX:=by
  intro pl σ1 H1 s1 e s2 I1 cx
  exact A8 hst hg hm q hh hEX (I1.untr I.ok) cx (fun cls d H' z=>hx cls d σ1 H' z) hdb
 refine wpAny_mono (hb _ _ hP [] s σ H D (I.tr _) hbd) (fun f s1 h1=>?_) fun _ _ z=>z
 have h2:=SP.untr I.ok h1
 cases f with
 | next=>exact wpAny_execs_nil h2
 | brk=>exact h2
 | cont=>exact h2
 | ret v=>exact h2
end
noncomputable def ME (K:PySem.W.Frag)(a:Addr):It :=
 ⟨fun i H=>∃ xs x,fH K H a xs/\xs[i]?=some x,fun i H z H'=>∃ T x,z = .ref T/\H T=none/\H'=upd H T (.tup [.int i,x])/\∀ xs,fH K H a xs->xs[i]?=some x,fun i H=>∃ xs,fH K H a xs/\xs.length<=i⟩
noncomputable def iEnum (K:PySem.W.Frag)(ta:TA):TI:=fun σ H R=>ta σ H fun vs H1=>∃ a,vs=[.ref a]/\(∃ xs,fH K H1 a xs)/\R (ME K a) H1
noncomputable def LV (a b:Addr):It :=
 ⟨fun i H=>∃ xs ys x y,j4 H a xs/\j4 H b ys/\xs[i]?=some x/\ys[i]?=some y,
  fun i H z H'=>∃ T x y,z = .ref T/\H T=none/\H'=upd H T (.tup [x,y])/\∀ xs ys,j4 H a xs->j4 H b ys->xs[i]?=some x/\ys[i]?=some y,
  fun i H=>∃ xs ys,j4 H a xs/\j4 H b ys/\(xs.length<=i∨ys.length<=i)⟩
noncomputable def iZip2 (ta:TA):TI:=fun σ H R=>ta σ H fun vs H1=>∃ a b xs ys,vs=[.ref a,.ref b]/\j4 H1 a xs/\j4 H1 b ys/\R (LV a b) H1
theorem rNeD_bb {H:Hp}{Q:VK}{i j:Bool}:rNeD (.bl i) (.bl j) H Q=Q (.bl (!decide (i=j))) H:=by
 have e:eqD (.bl i) (.bl j)=decide (i=j):=by cases i <;> cases j <;> rfl
 refine propext ⟨fun ⟨d,e',h1,h2,_,q⟩=>?_,fun q=>⟨.bl i,.bl j,rfl,rfl,Nat.zero_le _,by rw [e];exact q⟩⟩
 have d1:d = .bl i:=cD.inj h1 (show cD H (.bl i) (.bl i) from rfl)
 have d2:e' = .bl j:=cD.inj h2 (show cD H (.bl j) (.bl j) from rfl)
 rw [d1,d2,e] at q
 exact q
theorem rEqD_bb {H:Hp}{Q:VK}{i j:Bool}:rEqD (.bl i) (.bl j) H Q=Q (.bl (decide (i=j))) H:=by
 have e:eqD (.bl i) (.bl j)=decide (i=j):=by cases i <;> cases j <;> rfl
 refine propext ⟨fun ⟨d,e',h1,h2,_,q⟩=>?_,fun q=>⟨.bl i,.bl j,rfl,rfl,Nat.zero_le _,by rw [e];exact q⟩⟩
 have d1:d = .bl i:=cD.inj h1 (show cD H (.bl i) (.bl i) from rfl)
 have d2:e' = .bl j:=cD.inj h2 (show cD H (.bl j) (.bl j) from rfl)
 rw [d1,d2,e] at q
 exact q
end L2
namespace L2
open PySem
theorem LG {H:Hp}{p:Addr}{i:Int}:ixV H (.ref p) (.int i)=(match H p with
  | some (.lst xs)=>atI xs i
  | some (.tup xs)=>atI xs i
  | some (.frz _ (.lst xs))=>atI xs i
  | _=>none):=rfl
noncomputable def abc:Str:="abcdefghijklmnopqrstuvwxyz"
theorem KD (j:Nat)(h:j < 26):abc.cps.toList[j]?=some (97 + j):=by
 have:∀ j:Fin 26,abc.cps.toList[j.1]?=some (97 + j.1):=by decide +kernel
 exact this ⟨j,h⟩
theorem HB:abc.cps.toList.length=26:=by decide +kernel
theorem J0 {H:Hp}{i:Int}(h0:0<=i)(h1:i < 26):ixV H (.str abc) (.int i)=some (.str ⟨#[97 + i.toNat]⟩):=by
 show (if abc.length<=sizeLine then (atI abc.cps.toList i).map fun c=>V.str ⟨#[c]⟩ else none)=_
 rw [if_pos (by decide +kernel),iR h0 (by rw [HB];exact h1),KD _ (by omega)]
 rfl
noncomputable def wordL:Nat->Int->List Nat
 | 0,_=>[]
 | k + 1,n=>(97 + (n % 26).toNat) :: wordL k (n / 26)
theorem m6:∀ k n,(wordL k n).length=k
 | 0,_=>rfl
 | k + 1,n=>by simp [wordL,m6 k]
noncomputable def wordS (k:Nat)(n:Int):Str:=⟨(wordL k n).toArray⟩
theorem tyL {K:PySem.W.Frag}{H:Hp}{p:Addr}{xs:List V}(h:H p=some (.lst xs)):tyV K "list" (.ref p) H:=.inl ⟨rfl,xs,fH.of h⟩
noncomputable def iA (x:Str):Prop:=1<=x.cps.toList.length/\x.cps.toList.length<=6/\∀ c ∈ x.cps.toList,97<=c/\c<=122
theorem uJ:∀ (k:Nat) (n:Int),∀ c ∈ wordL k n,97<=c/\c<=122
 | 0,_,_,h=>by simp [wordL] at h
 | k + 1,n,c,h=>by
  rw [wordL] at h
  rcases List.mem_cons.mp h with e | e
  ·have h1:=Int.emod_nonneg n (b:=26) (by decide)
   have h2:=Int.emod_lt_of_pos n (b:=26) (by decide)
   omega
  ·exact uJ k _ c e
theorem BS {k:Nat}{n:Int}(h1:1<=k)(h2:k<=6):iA (wordS k n):=by
 have e:(wordS k n).cps.toList=wordL k n:=by simp [wordS]
 refine ⟨?_,?_,?_⟩
 ·rw [e,m6];exact h1
 ·rw [e,m6];exact h2
 ·rw [e];exact uJ k n
theorem zV {k:Nat}{a b:Int}(hk:1<=k)(h:wordS k a=wordS k b):a % 26=b % 26:=by
 obtain ⟨j,rfl⟩:∃ j,k=j + 1:=⟨k - 1,by omega⟩
 have e:(wordS (j + 1) a).cps.toList=(wordS (j + 1) b).cps.toList:=by rw [h]
 simp only [wordS,wordL] at e
 injection e with e1 _
 have h1:=Int.emod_nonneg a (b:=26) (by decide)
 have h2:=Int.emod_nonneg b (b:=26) (by decide)
 omega
theorem rB {α:Type}[DecidableEq α]:∀ {xs ys:List α},xs.Nodup->(∀ x ∈ xs,x ∈ ys)->xs.length<=ys.length
 | [],_,_,_=>Nat.zero_le _
 | x :: xs,ys,nd,h=>by
  obtain ⟨h1,h2⟩:=List.nodup_cons.mp nd
  have hx:=h x List.mem_cons_self
  have q:=rB (ys:=ys.erase x) h2 fun y hy=>(List.mem_erase_of_ne (fun e=>h1 (by rw [← e];exact hy))).mpr (h y (List.mem_cons_of_mem _ hy))
  rw [List.length_erase_of_mem hx] at q
  have:=List.length_pos_of_mem hx
  simp only [List.length_cons]
  omega
theorem mZ {k:Nat}{n:Int}{ws:aW}{t:Nat}(hk:1<=k)(ht:t<=26)(h:∀ i,i < t->wordS k (n + i) ∈ ws):t<=ws.length:=by
 have nd:((List.range t).map fun i=>wordS k (n + (i:Nat))).Nodup:=by
  rw [List.nodup_iff_pairwise_ne,List.pairwise_map]
  refine List.Pairwise.imp_of_mem ?_ (List.pairwise_lt_range (n:=t))
  intro a b ha hb hab e
  have:=zV hk e
  have h1:=List.mem_range.mp ha
  have h2:=List.mem_range.mp hb
  omega
 have q:=rB nd (ys:=ws) fun x hx=>by
  obtain ⟨i,hi,rfl⟩:=List.mem_map.mp hx
  exact h i (List.mem_range.mp hi)
 simpa using q
theorem kR {H:Hp}:∀ (ws:aW),Reps H (ws.map D.str) (ws.map V.str)
 | []=>rfl
 | x :: r=>⟨.str x,r.map V.str,rfl,rfl,kR r⟩
theorem mL:∀ ws:aW,depDs (ws.map D.str)=0
 | []=>rfl
 | x :: r=>by rw [List.map_cons,depDs,mL r];rfl
theorem mJ {x:Str}:∀ ws:aW,inD (.str x) (ws.map D.str)=decide (x ∈ ws)
 | []=>by simp [inD]
 | y :: r=>by
  have ih:=mJ (x:=x) r
  unfold inD at ih ⊢
  rw [List.map_cons,List.any_cons,ih]
  have e:eqD (.str y) (.str x)=decide (y=x):=by
   show (y == x)=_
   rw [Bool.eq_iff_iff];simp
  rw [e,Bool.eq_iff_iff]
  simp only [Bool.or_eq_true,decide_eq_true_eq,List.mem_cons]
  constructor
  ·rintro (h | h)
   ·exact .inl h.symm
   ·exact .inr h
  ·rintro (h | h)
   ·exact .inl h.symm
   ·exact .inr h
noncomputable def del (H:Hp)(p:Addr):Hp:=fun b=>if b=p then none else H b
theorem jB {H:Hp}{p b:Addr}{o:HO}(h:H b=some o)(n:b≠p):del H p b=some o:=by unfold del;rw [if_neg n];exact h
theorem gO {H:Hp}{p b:Addr}{o:HO}(h:del H p b=some o):H b=some o/\b≠p:=by
 unfold del at h
 by_cases e:b=p
 ·rw [if_pos e] at h;cases h
 ·rw [if_neg e] at h;exact ⟨h,e⟩
theorem EJ (H:Hp)(p:Addr):aJ (del H p) H:=fun b o h=>(gO h).1
end L2
section
local macro_rules | `(tactic| walk_at "rd")=>do
 let xs:Array (Lean.TSyntax [`Lean.Parser.Tactic.simpStar,`Lean.Parser.Tactic.simpErase,`Lean.Parser.Tactic.simpLemma]):=("L2.start List.map_cons List.map_nil List.length_cons List.length_nil Nat.reduceAdd Nat.reduceSub Nat.zero_add List.replicate_succ List.replicate_zero List.cons_append List.nil_append List.set_cons_zero List.set_cons_succ L2.tSeq L2.tIfS L2.tTest L2.tOp L2.tVar L2.tC L2.rI0 L2.tAsg L2.gName L2.gSub L2.rI L2.tRet L2.tNext L2.rSetL L2.rAddF L2.rRep L2.tCB L2.r1 L2.tCons L2.tNil L2.tDrop L2.tAnd L2.tOr L2.tNot L2.tIf L2.tLst L2.tTup L2.tCall L2.tFor_eq L2.tComp_eq L2.tComp2_eq L2.iRng1 L2.iRng2 L2.iAny L2.iSq L2.iZip L2.iZip2 L2.iEnum L2.tRaise L2.tTry L2.rLtL L2.rAll L2.rAny L2.rSum L2.tUn L2.rU L2.gTup L2.gCons L2.gNil L2.tBM L2.tBM0 L2.rAppend L2.rPop L2.rPopAt L2.rExtend L2.tSl L2.tNoPart L2.tPart L2.rSlF L2.rSlU L2.rTupU L2.CStep L2.tYes L2.stC Option.bind_some Option.bind_none Option.join_some L2.tAndV L2.tOrV L2.tNotV L2.tNever not_true_eq_false not_false_eq_true L2.tChain L2.tTruth L2.rIs_eq L2.truV_bl L2.isV_ii L2.isV_ib L2.isV_ll L2.lenV_l L2.lenV_t L2.seqV_l L2.seqV_t L2.ixV_l L2.ixV_t if_true if_false Bool.not_true Bool.not_false Bool.false_eq_true Option.bind_eq_bind Option.pure_def L2.rEqD_ii L2.rNeD_ii L2.rEqD_bb L2.rNeD_bb L2.isV_bb L2.rEqD_ss L2.rNeD_ss Int.zero_add L2.catO_i L2.catO_s L2.addV L2.intV L2.atI_zero L2.atI_one L2.ixN_zero L2.ixN_one L2.upd_same L2.upd_upd Option.map_some Option.map_none List.getElem?_cons_zero List.getElem?_cons_succ Option.some.injEq L2.V.int.injEq L2.V.ref.injEq L2.V.bl.injEq L2.V.str.injEq L2.HO.lst.injEq List.cons.injEq and_true true_and exists_eq_left exists_eq_left' exists_eq_right exists_eq_right' exists_and_left exists_and_right exists_const reduceCtorEq false_and and_false exists_false or_false false_or decide_eq_true_eq ite_eq_left_iff Bool.not_eq_true Bool.not_eq_eq_eq_not decide_eq_false_iff_not decide_true decide_false".splitOn " ").toArray.map fun s=>⟨Lean.mkNode `Lean.Parser.Tactic.simpLemma #[Lean.mkNullNode,Lean.mkNullNode,Lean.mkIdent s.toName]⟩
 let xs:=xs.push ⟨Lean.mkNode `Lean.Parser.Tactic.simpStar #[Lean.mkAtom "*"]⟩
 `(tactic| simp only [$xs,*])
namespace Lw
open PySem L2
noncomputable def vW:aW:=["_law_script","_law_k"]
noncomputable def kN:aW:=["_law_script","_law_k"]
theorem tB:aZ vW kN (aD eH):=⟨rfl,rfl,rfl,by decide +kernel,rfl,by decide +kernel,by decide +kernel⟩
noncomputable def qK:aW:=["_law_script","_law_k","_law_cell_here"]
noncomputable def lN:aW:=["_law_script","_law_k"]
theorem oA:aZ qK lN (aD eV):=⟨rfl,rfl,rfl,by decide +kernel,rfl,by decide +kernel,by decide +kernel⟩
noncomputable def oK:aW:=["_law_pot_here","_law_many","_law_digit"]
noncomputable def kK:aW:=["_law_pot_here","_law_many"]
theorem lX:aZ oK kK (aD eG):=⟨rfl,rfl,rfl,by decide +kernel,rfl,by decide +kernel,by decide +kernel⟩
noncomputable def oI:aW:=["_law_size","_law_number","_law_word_here","_law_k"]
noncomputable def kI:aW:=["_law_size","_law_number"]
theorem fM:aZ oI kI (aD eE):=⟨rfl,rfl,rfl,by decide +kernel,rfl,by decide +kernel,by decide +kernel⟩
noncomputable def mV:aW:=["_law_pot_here","_law_many","_law_found","_law_k","_law_size","_law_number"]
noncomputable def jS:aW:=["_law_pot_here","_law_many"]
theorem d5:aZ mV jS (aD dW):=⟨rfl,rfl,rfl,by decide +kernel,rfl,by decide +kernel,by decide +kernel⟩
noncomputable def gP:aW:=["_law_pot_here","_law_many","_law_sums","_law_names_here","_law_sure","_law_fixed","_law_left","_law_told_here","_law_name","_law_nought"]
noncomputable def jR:aW:=["_law_pot_here"]
theorem bQ:aZ gP jR (aD cN):=⟨rfl,rfl,rfl,by decide +kernel,rfl,by decide +kernel,by decide +kernel⟩
noncomputable def mW:aW:=["_law_pot_here","_law_found","_law_k","_law_wish","_law_j"]
noncomputable def jU:aW:=["_law_pot_here"]
theorem d8:aZ mW jU (aD dX):=⟨rfl,rfl,rfl,by decide +kernel,rfl,by decide +kernel,by decide +kernel⟩
noncomputable def kO:aW:=["_law_pot_here","_law_told_here","_law_own","_law_bare","_law_some"]
noncomputable def kL:aW:=["_law_pot_here","_law_told_here","_law_own"]
theorem jI:aZ kO kL (aD dR):=⟨rfl,rfl,rfl,by decide +kernel,rfl,by decide +kernel,by decide +kernel⟩
noncomputable def gQ:aW:=["_law_told_here","_law_room","_law_found"]
noncomputable def jT:aW:=["_law_told_here","_law_room"]
theorem iO:aZ gQ jT (aD cP):=⟨rfl,rfl,rfl,by decide +kernel,rfl,by decide +kernel,by decide +kernel⟩
noncomputable def oJ:aW:=["_law_pot_here","_law_told_here","_law_own","_law_room","_law_deep","_law_heads_here","_law_name","_law_parts","_law_left","_law_row","_law_k","_law_more"]
noncomputable def fI:aW:=["_law_pot_here","_law_told_here","_law_own","_law_room","_law_deep"]
theorem cM:aZ oJ fI (aD dA):=⟨rfl,rfl,rfl,by decide +kernel,rfl,by decide +kernel,by decide +kernel⟩
noncomputable def LB:aW:=["_law_script","_law_pot_here","_law_told_here","_law_signs_here","_law_some","_law_k","_law_text","_law_turn","_law_thing"]
noncomputable def ID:aW:=["_law_script"]
theorem gZ:aZ LB ID (aD iJ):=⟨rfl,rfl,rfl,by decide +kernel,rfl,by decide +kernel,by decide +kernel⟩
noncomputable def n5:aW:=["thing"]
noncomputable def nX:aW:=["thing"]
theorem wU:aZ n5 nX (aD fA):=⟨rfl,rfl,rfl,by decide +kernel,rfl,by decide +kernel,by decide +kernel⟩
noncomputable def qJ:aW:=["signs","thing"]
noncomputable def lM:aW:=["signs","thing"]
theorem uQ:aZ qJ lM (aD eU):=⟨rfl,rfl,rfl,by decide +kernel,rfl,by decide +kernel,by decide +kernel⟩
noncomputable def jX:aW:=["signs","thing","todo","at","depth"]
noncomputable def jQ:aW:=["signs","thing"]
theorem gC:aZ jX jQ (aD c0):=⟨rfl,rfl,rfl,by decide +kernel,rfl,by decide +kernel,by decide +kernel⟩
noncomputable def n6:aW:=["thing"]
noncomputable def nZ:aW:=["thing"]
theorem wW:aZ n6 nZ (aD fB):=⟨rfl,rfl,rfl,by decide +kernel,rfl,by decide +kernel,by decide +kernel⟩
noncomputable def qI:aW:=["thing"]
noncomputable def lL:aW:=["thing"]
theorem uP:aZ qI lL (aD eT):=⟨rfl,rfl,rfl,by decide +kernel,rfl,by decide +kernel,by decide +kernel⟩
noncomputable def gL:aW:=["thing","least","most","pair"]
noncomputable def gI:aW:=["thing","least","most"]
theorem iY:aZ gL gI (aD bZ):=⟨rfl,rfl,rfl,by decide +kernel,rfl,by decide +kernel,by decide +kernel⟩
noncomputable def gF:aW:=["pairs","names"]
noncomputable def iU:aW:=["pairs"]
theorem j7:aZ gF iU (aD cG):=⟨rfl,rfl,rfl,by decide +kernel,rfl,by decide +kernel,by decide +kernel⟩
noncomputable def iV:aW:=["fixed_rows","name","many"]
noncomputable def iT:aW:=["fixed_rows"]
theorem j6:aZ iV iT (aD cR):=⟨rfl,rfl,rfl,by decide +kernel,rfl,by decide +kernel,by decide +kernel⟩
noncomputable def gM:aW:=["sum_rows","bare_names","name","nought","noughts"]
noncomputable def gJ:aW:=["sum_rows","bare_names"]
theorem fU:aZ gM gJ (aD cA):=⟨rfl,rfl,rfl,by decide +kernel,rfl,by decide +kernel,by decide +kernel⟩
noncomputable def gA:aW:=["self","fixed","sums","fixed_rows","sum_rows"]
noncomputable def fZ:aW:=["self","fixed","sums"]
theorem fP:aZ gA fZ (aD bV):=⟨rfl,rfl,rfl,by decide +kernel,rfl,by decide +kernel,by decide +kernel⟩
noncomputable def mX:aW:=["self","name"]
noncomputable def jW:aW:=["self","name"]
theorem qP:aZ mX jW (aD dY):=⟨rfl,rfl,rfl,by decide +kernel,rfl,by decide +kernel,by decide +kernel⟩
noncomputable def kP:aW:=["self","name"]
noncomputable def h8:aW:=["self","name"]
theorem oS:aZ kP h8 (aD cV):=⟨rfl,rfl,rfl,by decide +kernel,rfl,by decide +kernel,by decide +kernel⟩
noncomputable def BM:aW:=["signs","thing"]
noncomputable def nY:aW:=["signs","thing"]
theorem wV:aZ BM nY (aD fV):=⟨rfl,rfl,rfl,by decide +kernel,rfl,by decide +kernel,by decide +kernel⟩
noncomputable def EV:aW:=["signs","text","found"]
noncomputable def xW:aW:=["signs","text"]
theorem yH:aZ EV xW (aD lF):=⟨rfl,rfl,rfl,by decide +kernel,rfl,by decide +kernel,by decide +kernel⟩
noncomputable def lB:aW:=["text","opened","latest","sign"]
noncomputable def iS:aW:=["text"]
theorem cU:aZ lB iS (aD dI):=⟨rfl,rfl,rfl,by decide +kernel,rfl,by decide +kernel,by decide +kernel⟩
noncomputable def iC:aW:=["_law_thing"]
noncomputable def hZ:aW:=["_law_thing"]
theorem oQ:aZ iC hZ (aD cH):=⟨rfl,rfl,rfl,by decide +kernel,rfl,by decide +kernel,by decide +kernel⟩
noncomputable def eK:aW:=["_law_told_here","_law_thing"]
noncomputable def dP:aW:=["_law_told_here","_law_thing"]
theorem oR:aZ eK dP (aD bF):=⟨rfl,rfl,rfl,by decide +kernel,rfl,by decide +kernel,by decide +kernel⟩
noncomputable def iB:aW:=["_law_term_here"]
noncomputable def dN:aW:=["_law_term_here"]
theorem oP:aZ iB dN (aD bR):=⟨rfl,rfl,rfl,by decide +kernel,rfl,by decide +kernel,by decide +kernel⟩
noncomputable def vV:aW:=["_law_pot_here","_law_told_here","_law_some","_law_text","_law_way","_law_at","_law_end","_law_name","_law_signs_here","_law_sign"]
noncomputable def kM:aW:=["_law_pot_here","_law_told_here","_law_some","_law_text"]
theorem dU:aZ vV kM (aD cI):=⟨rfl,rfl,rfl,by decide +kernel,rfl,by decide +kernel,by decide +kernel⟩
noncomputable def oM:aW:=["_law_text","_law_at","_law_end","_law_row","_law_sign","_law_part_here"]
noncomputable def fJ:aW:=["_law_text","_law_at"]
theorem dS:aZ oM fJ (aD dB):=⟨rfl,rfl,rfl,by decide +kernel,rfl,by decide +kernel,by decide +kernel⟩
noncomputable def jY:aW:=["_law_e","_law_some"]
noncomputable def jV:aW:=["_law_e"]
theorem gD:aZ jY jV (aD dC):=⟨rfl,rfl,rfl,by decide +kernel,rfl,by decide +kernel,by decide +kernel⟩
noncomputable def vU:aW:=["_law_signs_here","_law_text","_law_told_here","_law_e"]
noncomputable def kJ:aW:=["_law_signs_here","_law_text"]
theorem fN:aZ vU kJ (aD eF):=⟨rfl,rfl,rfl,by decide +kernel,rfl,by decide +kernel,by decide +kernel⟩
noncomputable def xY:aW:=["_law_told_here","_law_text","_law_term_here","_law_end"]
noncomputable def lO:aW:=["_law_told_here","_law_text"]
theorem oB:aZ xY lO (aD eW):=⟨rfl,rfl,rfl,by decide +kernel,rfl,by decide +kernel,by decide +kernel⟩
structure Txt (mg:eJ):Prop where
 n_len:mg "len" = none
 n_range:mg "range" = none
 n_int:mg "int" = none
 n_abs:mg "abs" = none
 n_min:mg "min" = none
 n_max:mg "max" = none
 n_tuple:mg "tuple" = none
 n_list:mg "list" = none
 n_dict:mg "dict" = none
 n_set:mg "set" = none
 n_isinstance:mg "isinstance" = none
 n_str:mg "str" = none
 n_bool:mg "bool" = none
 n_sorted:mg "sorted" = none
 n_reversed:mg "reversed" = none
 n_all:mg "all" = none
 n_any:mg "any" = none
 n_zip:mg "zip" = none
 n_repr:mg "repr" = none
 c_WISH_SIGNS:∃ u,mg "WISH_SIGNS" = some u/\aQ (.str "abcdefghijklmnopqrstuvwxyz0123456789") u
 c_LETTERS:∃ u,mg "LETTERS" = some u/\aQ (.str "abcdefghijklmnopqrstuvwxyz") u
 c_LONGEST_WISH:∃ u,mg "LONGEST_WISH" = some u/\aQ (.int 9) u
 c_DEEPEST:∃ u,mg "DEEPEST" = some u/\aQ (.int 1000) u
 c_LONGEST_NAME:∃ u,mg "LONGEST_NAME" = some u/\aQ (.int 6) u
 c_MOST_FIXED:∃ u,mg "MOST_FIXED" = some u/\aQ (.int 12) u
 c_MOST_SUMS:∃ u,mg "MOST_SUMS" = some u/\aQ (.int 3) u
 c_MOST_PARTS:∃ u,mg "MOST_PARTS" = some u/\aQ (.int 3) u
section
variable {P:Program}{w:World}{K:PySem.W.Frag}{mg:eJ}{base:Heap}
noncomputable def wR (K:PySem.W.Frag):Sp:=fun vs H Q _=>∃ (a:Addr) (k:Int) (ns:List Int),vs=[.ref a,.int k]/\fH K H a (ns.map V.int)/\0<=k/\k<=1000/\∀ n,Q (.int n) H
theorem GM {f:Addr}{fd:FuncData}(F:gN K "_law_cell" "_law_cell" eH f fd)(T:Txt mg):cF P w K mg base bP 1 f fd kN (wR K):=by
 refine F.ok tB (fun vs H Q E h=>?_) (fun cdv A outer s H vs Q E hr h=>?_)
 ·obtain ⟨a,k,ns,rfl,_⟩:=h
  rfl
 ·obtain ⟨a,k,ns,rfl,ha,h0,h1,q⟩:=h
  have hu:=hr.units
  refine ⟨_,(aC (bU (aS (jM hu) (pv 1) (aK jP rfl T.n_len rfl (aA (pv 0) aB)) (nomark _)) (aH (aR (bM D5 (pv 0) (pv 1) (fun _ _=>rfl)))) aX)
   (aH (aR aF))),?_⟩
  refine ⟨_,rfl,_,rfl,a,_,rfl,.inl ha,.inl (.inl ⟨_,_,rfl,rfl,_,rfl,?_⟩)⟩
  refine ite2 (fun c=>?_) (fun c=>?_)
  ·have c:k < ((ns.map V.int).length:Int):=by simpa using c
   have hl:k.toNat < ns.length:=by rw [List.length_map] at c;omega
   refine ⟨_,rfl,_,rfl,.inl ⟨a,_,k,.int (ns[k.toNat]),rfl,rfl,ha,?_,q _⟩⟩
   rw [iR h0 c]
   simp [hl]
  ·exact q 0
noncomputable def spPot (K:PySem.W.Frag):Sp:=fun vs H Q _=>∃ (a:Addr) (k:Int) (ns:List Int),vs=[.ref a,.int k]/\fH K H a (ns.map V.int)/\0<=k/\k<=1000/\∀ p x y,H p=none->Q (.ref p) (upd H p (.lst [.int x,.int y]))
theorem JO {f:Addr}{fd:FuncData}(F:gN K "_law_pot" "_law_pot" eV f fd)(T:Txt mg)(O__law_cell:dQ P w K mg base bP 1 "_law_cell" (wR K)):cF P w K mg base bP 2 f fd lN (spPot K):=by
 refine F.ok oA (fun vs H Q E h=>?_) (fun cdv A outer s H vs Q E hr h=>?_)
 ·obtain ⟨a,k,ns,rfl,_⟩:=h
  rfl
 ·obtain ⟨a,k,ns,rfl,ha,h0,h1,q⟩:=h
  refine ⟨_,(aC (aP (i:=2) oA.nd rfl (Or.inl rfl) (aO O__law_cell (hr.mono (by decide)) pass0 rfl (aA (pv 0) (aA (pv 1) aB))))
   (aH (aR (cJ (aA (bB (nO.or nN) (pv 2) (d9 rY rfl T.n_int rfl (aA (eN HX (pv 2) (bB DD aF aF) (nomark _)) aB))) (aA (bB aY (bB aY (bB (nO.or nN) (bB pU (aK BG rfl T.n_abs rfl (aA (pv 2) aB)) aF) aF) (bB (nO.or nN) aF (pv 1))) aF) aB)))))),?_⟩
  refine ⟨_,rfl,_,rfl,a,k,ns,rfl,ha,h0,h1,fun n=>?_⟩
  simp only [qK]
  clear F T O__law_cell hr
  walk_at "rd"
  have e1:LF 10 18:=⟨by decide,by decide,by decide⟩
  have e2:∀ i:Int,BP i (if (10:Int) ^ Int.toNat 18<=n then 1 else 0):=fun i=>.inr (by split <;> decide)
  have e3:∀ i:Int,BP i 3:=fun i=>.inr (by decide)
  have e4:∀ i:Int,BP 977 i:=fun i=>.inl (by decide)
  exact ⟨e1,e2 _,by decide,e3 _,e4 _,by decide,fun p hp=>q p _ _ hp⟩
noncomputable def bD (H:Hp)(p:Addr):Prop:=∃ a b:Int,H p=some (.lst [.int a,.int b])
theorem bD.but {p l:Addr}{H:Hp}{o:HO}(h:bD H p)(n:p≠l):bD (upd H l o) p:=by obtain ⟨x,y,e⟩:=h;exact ⟨x,y,by rw [aE n];exact e⟩
theorem bD.ne {p l:Addr}{H:Hp}(h:bD H p)(n:H l=none):p≠l:=by obtain ⟨x,y,e⟩:=h;exact aG e n
noncomputable def fL:Sp:=fun vs H Q _=>∃ p n,vs=[.ref p,.int n]/\bD H p/\0 < n/\n < 1073741824/\∀ d a b,0<=d->d < n->Q (.int d) (upd H p (.lst [.int a,.int b]))
theorem GF {f:Addr}{fd:FuncData}(F:gN K "_law_take" "_law_take" eG f fd)(T:Txt mg):cF P w K mg base bP 1 f fd kK fL:=by
 refine F.ok lX (fun vs H Q E h=>?_) (fun cdv A outer s H vs Q E hr h=>?_)
 ·obtain ⟨p,n,rfl,_⟩:=h
  rfl
 ·obtain ⟨p,n,rfl,⟨a,b,hp⟩,h0,h1,k⟩:=h
  refine ⟨_,(aC (bU (aS uZ (bM dF (pv 0) aF (fun _ _=>rfl)) aF (nomark _)) (aC (aP (i:=2) lX.nd rfl (Or.inl rfl) (bB pU (bM dF (pv 0) aF (fun _ _=>rfl)) (pv 1)))
   (aC (nK (bB tL (bM dF (pv 0) aF (fun _ _=>rfl)) (pv 1)) (CS (pv 0) aF uO))
   (aH (aR (pv 2))))) aX)
   (aC (nK (bB pU (bB aY (bB (nO.or nN) (bM dF (pv 0) aF (fun _ _=>rfl)) aF) aF) aF) (CS (pv 0) aF uO))
   (aH (aR (bB pU (bB tL (bM dF (pv 0) aF (fun _ _=>rfl)) aF) (pv 1)))))),?_⟩
  simp only [oK]
  clear hr F T
  walk_at "rd"
  split
  ·exact ⟨⟨h0,h1⟩,k _ _ _ (Int.emod_nonneg _ (by omega)) (Int.emod_lt_of_pos _ h0)⟩
  ·exact ⟨.inr (by decide),by decide,⟨by decide,by decide⟩,k _ _ _ (Int.emod_nonneg _ (by omega)) (Int.emod_lt_of_pos _ h0)⟩
noncomputable def wK:Sp:=fun vs H Q _=>∃ (k:Nat) (n:Int),vs=[.int k,.int n]/\k<=6/\Q (.str (wordS k n)) H
theorem GB {f:Addr}{fd:FuncData}(F:gN K "_law_word" "_law_word" eE f fd)(T:Txt mg):cF P w K mg base bP 1 f fd kI wK:=by
 refine F.ok fM (fun vs H Q E h=>?_) (fun cdv A outer s H vs Q E hr h=>?_)
 ·obtain ⟨k,n,rfl,_⟩:=h
  rfl
 ·obtain ⟨k,n,rfl,hk,q⟩:=h
  refine ⟨_,(aC (aP (i:=2) fM.nd rfl (Or.inl rfl) bA)
   (aC (fW PassesOwn.never rfl (fC rfl T.n_range (aA (pv 0) aB)) (bN (i:=3) fM.nd rfl (Or.inl rfl)) (aC (aP (i:=2) fM.nd rfl (Or.inl rfl) (bB aY (pv 2) (bM dF bA (bB pU (pv 1) aF) (fun _ _=>rfl))))
   (aH (aP (i:=1) fM.nd rfl (Or.inl rfl) (bB tL (pv 1) aF)))))
   (aH (aR (pv 2))))),?_⟩
  simp only [oI]
  clear hr F T
  walk_at "rd"
  refine ⟨by omega,by omega,?_⟩
  rw [Int.toNat_natCast]
  refine eX (fun i σ H'=>H'=H/\∃ (m:Int) (l:List Nat) (o:Option V),σ=[some (.int k),some (.int m),some (.str ⟨l.toArray⟩),o]/\l.length=i/\l ++ wordL (k - i) m=wordL k n) ⟨rfl,n,[],none,rfl,rfl,rfl⟩ ?_ ?_
  ·rintro i σ H' hi ⟨rfl,m,l,o,rfl,hl,he⟩
   have hx:=J0 (H:=H') (i:=m % 26) (Int.emod_nonneg _ (by decide)) (Int.emod_lt_of_pos _ (by decide))
   have hx':ixV H' (.str (PySem.Str.ofString "abcdefghijklmnopqrstuvwxyz")) (.int (m % 26))=some (.str ⟨#[97 + (m % 26).toNat]⟩):=hx
   walk_at "rd"
   have e1:k - i=(k - (i + 1)) + 1:=by omega
   rw [e1,wordL] at he
   refine ⟨by decide,_,if_pos (Nat.le_trans (m:=100) ?_ (by decide)),⟨by decide,by decide⟩,_,l ++ [97 + (m % 26).toNat],⟨rfl,congrArg V.str ?_⟩,by simp [hl],by rw [List.append_assoc];exact he⟩
   ·show l.toArray.size + 1<=100
    rw [List.size_toArray]
    omega
   ·exact congrArg Str.mk (by simp)
  ·rintro σ H' ⟨rfl,m,l,o,rfl,hl,he⟩
   walk_at "rd"
   rw [Nat.sub_self,wordL,List.append_nil] at he
   rw [he]
   exact q
noncomputable def sV:Sp:=fun vs H Q _=>∃ (p:Addr) (m:Nat),vs=[.ref p,.int m]/\bD H p/\m<=15/\∀ (l:Addr) (ws:aW) (H':Hp),H l=none->H' l=some (.lst (ws.map V.str))->dL p H H'->bD H' p->ws.length=m->ws.Nodup->(∀ x ∈ ws,iA x)->Q (.ref l) H'
noncomputable def LS (p l:Addr)(m:Nat)(H:Hp)(i:Nat)(σ:St)(H1:Hp):Prop:=∃ (ws:aW) (o1 o2 o3:Option V),σ=[some (.ref p),some (.int m),some (.ref l),o1,o2,o3]/\H1 l=some (.lst (ws.map V.str))/\dL p H H1/\bD H1 p/\ws.length=i/\ws.Nodup/\∀ x ∈ ws,iA x
theorem DN {f:Addr}{fd:FuncData}(F:gN K "_law_names" "_law_names" dW f fd)(T:Txt mg)(O__law_take:dQ P w K mg base bP 1 "_law_take" fL)(O__law_word:dQ P w K mg base bP 1 "_law_word" wK):cF P w K mg base bP 2 f fd jS sV:=by
 refine F.ok d5 (fun vs H Q E h=>?_) (fun cdv A outer s H vs Q E hr h=>?_)
 ·obtain ⟨p,m,rfl,_⟩:=h
  rfl
 ·obtain ⟨p,m,rfl,hp,hm,q⟩:=h
  have hu:=hr.units
  refine ⟨_,(aC (aP (i:=2) d5.nd rfl (Or.inl rfl) (cJ aB))
   (aC (fW PassesOwn.never rfl (fC rfl T.n_range (aA (pv 1) aB)) (bN (i:=3) d5.nd rfl (Or.inl rfl)) (aC (aP (i:=4) d5.nd rfl (Or.inl rfl) (bB aY aF (aO O__law_take (hr.mono (by decide)) pass0 rfl (aA (pv 0) (aA aF aB)))))
   (aC (aP (i:=5) d5.nd rfl (Or.inl rfl) (aO O__law_take (hr.mono (by decide)) pass0 rfl (aA (pv 0) (aA (bM dF (cJ (aA aF (aA aF (aA aF (aA aF (aA aF (aA aF aB))))))) (bB lG (pv 4) aF) (fun _ _=>rfl)) aB))))
   (aC (lZ PassesOwn.never (aS (tM hu) (aO O__law_word (hr.mono (by decide)) pass0 rfl (aA (pv 4) (aA (pv 5) aB))) (pv 2) (by with_unfolding_all rfl)) (aH (aP (i:=5) d5.nd rfl (Or.inl rfl) (bB aY (pv 5) aF))))
   (aH (eL (j9 PySem.F.plainAttrs_list PySem.F.slot_list_append PySem.F.type_list_append fE (pv 2) (aA (aO O__law_word (hr.mono (by decide)) pass0 rfl (aA (pv 4) (aA (pv 5) aB))) aB))))))))
   (aH (aR (pv 2))))),?_⟩
  simp only [mV]
  clear hr F T O__law_take O__law_word hu
  walk_at "rd"
  refine ⟨by decide,fun l hl=>⟨by omega,by omega,?_⟩⟩
  rw [Int.toNat_natCast]
  have npl:p≠l:=by obtain ⟨a,b,e⟩:=hp;exact aG e hl
  refine eX (LS p l m H)
   ⟨[],none,none,none,rfl,upd_same,dL.new hl,by obtain ⟨a,b,e⟩:=hp;exact ⟨a,b,by rw [aE npl];exact e⟩,rfl,List.nodup_nil,by simp⟩ ?_ ?_
  ·rintro i σ H1 hi ⟨ws,o1,o2,o3,rfl,hl1,hb,hp1,hlen,nd,ok⟩
   clear q
   walk_at "rd"
   refine ⟨p,6,rfl,hp1,by decide,by decide,fun d a b h0 h1=>?_⟩
   obtain ⟨kk,hkk⟩:∃ kk:Nat,(kk:Int)=1 + d:=⟨(1 + d).toNat,by omega⟩
   clear hp1
   walk_at "rd"
   rw [← hkk]
   refine ⟨by decide,fun r hr=>?_⟩
   have npr:p≠r:=aG upd_same hr
   have nlr:l≠r:=aG (by rw [aE npl.symm];exact hl1) hr
   obtain ⟨B,hB,hB0,hB1⟩:∃ B:Int,atI [V.int 26,V.int 676,V.int 17576,V.int 456976,V.int 11881376,V.int 308915776] ((kk:Int) - 1)=some (.int B)/\0 < B/\B < 1073741824:=by
    have:kk=1∨kk=2∨kk=3∨kk=4∨kk=5∨kk=6:=by omega
    rcases this with rfl | rfl | rfl | rfl | rfl | rfl
    ·exact ⟨26,by decide,by decide,by decide⟩
    ·exact ⟨676,by decide,by decide,by decide⟩
    ·exact ⟨17576,by decide,by decide,by decide⟩
    ·exact ⟨456976,by decide,by decide,by decide⟩
    ·exact ⟨11881376,by decide,by decide,by decide⟩
    ·exact ⟨308915776,by decide,by decide,by decide⟩
   refine ⟨_,hB,p,B,rfl,⟨a,b,by rw [aE npr,upd_same]⟩,hB0,hB1,fun n a2 b2 hn0 hn1=>?_⟩
   have hl4:upd (upd (upd H1 p (.lst [.int a,.int b])) r (.lst [.int 26,.int 676,.int 17576,.int 456976,.int 11881376,.int 308915776])) p (.lst [.int a2,.int b2]) l=some (.lst (ws.map V.str)):=by
    rw [aE npl.symm,aE nlr,aE npl.symm];exact hl1
   have hb4:dL p H (upd (upd (upd H1 p (.lst [.int a,.int b])) r (.lst [.int 26,.int 676,.int 17576,.int 456976,.int 11881376,.int 308915776])) p (.lst [.int a2,.int b2])) :=
    hb.trans (((dL.upd p H1 _).trans (dL.new hr)).trans (dL.upd p _ _))
   have hp4:bD (upd (upd (upd H1 p (.lst [.int a,.int b])) r (.lst [.int 26,.int 676,.int 17576,.int 456976,.int 11881376,.int 308915776])) p (.lst [.int a2,.int b2])) p:=⟨a2,b2,upd_same⟩
   generalize upd (upd (upd H1 p (.lst [.int a,.int b])) r (.lst [.int 26,.int 676,.int 17576,.int 456976,.int 11881376,.int 308915776])) p (.lst [.int a2,.int b2])=H4 at hl4 hb4 hp4 ⊢
   clear hr npr nlr hB hB0 hB1 hl1 hb
   refine v8 (fun σ' H'=>H'=H4/\∃ t:Nat,σ'=[some (.ref p),some (.int m),some (.ref l),some (.int (0 + i)),some (.int kk),some (.int (n + t))]/\∀ j:Nat,j < t->wordS kk (n + j) ∈ ws)
    (fun (σ':St) (_:Hp)=>match σ'[5]? with | some (some (V.int x))=>(n + 30 - x).toNat | _=>0) ⟨rfl,0,by simp,by simp⟩ ?_
   rintro σ' H' ⟨rfl,t,rfl,ht⟩
   have ht26:t<=26->t<=ws.length:=fun h=>mZ (by omega) h ht
   have hty:=tyL (K:=K) hl4
   refine ⟨decide (wordS kk (n + t) ∈ ws),fun R hR=>?_,fun hb=>?_,fun hb=>?_⟩
   ·have hin:=mJ (x:=wordS kk (n + t)) ws
    refine ⟨_,rfl,_,rfl,kk,n + t,rfl,by omega,_,rfl,.inl ⟨.str _,ws.map D.str,rfl,.inl ⟨l,_,rfl,hl4,kR ws⟩,by rw [mL];decide,_,rfl,?_⟩⟩
    show R (inD _ _) _
    rw [hin]
    exact hR
   ·have hmem:wordS kk (n + t) ∈ ws:=of_decide_eq_true hb
    have hall:∀ j:Nat,j < t + 1->wordS kk (n + j) ∈ ws:=fun j hj=>by
     by_cases e:j < t
     ·exact ht j e
     ·have:j=t:=by omega
      subst this;exact hmem
    have few:t < 26->t + 1<=ws.length:=fun h=>mZ (by omega) (by omega) hall
    refine ⟨_,rfl,.inl ⟨_,rfl,⟨rfl,t + 1,?_,hall⟩,?_⟩⟩
    ·simp only [List.set_cons_zero,List.set_cons_succ]
     have:n + (t:Int) + 1=n + ((t + 1:Nat):Int):=by omega
     rw [this]
    ·have ht25:t < 26:=by
      by_cases e:t < 26
      ·exact e
      ·have:=mZ (t:=16) (n:=n) (by omega:1<=kk) (by omega) fun j hj=>ht j (by omega)
       omega
     have:=few ht25
     show (n + 30 - (n + (t:Int) + 1)).toNat < (n + 30 - (n + (t:Int))).toNat
     omega
   ·have hnm:wordS kk (n + t) ∉ ws:=of_decide_eq_false hb
    refine ⟨_,rfl,hty,_,rfl,_,rfl,kk,n + t,rfl,by omega,l,_,_,rfl,rfl,hl4,Nat.lt_of_le_of_lt (m:=100) (by rw [List.length_map];omega) (by decide),?_⟩
    refine ⟨ws ++ [wordS kk (n + t)],_,_,_,rfl,?_,fun c o hc e=>?_,?_,by simp [hlen],yX nd hnm,fun x hx=>?_⟩
    ·rw [upd_same,List.map_append];rfl
    ·have nlc:c≠l:=aG e hl
     rw [aE nlc]
     exact hb4 c o hc e
    ·obtain ⟨a3,b3,e3⟩:=hp4
     exact ⟨a3,b3,by rw [aE npl];exact e3⟩
    ·obtain h | h:=List.mem_append.mp hx
     ·exact ok x h
     ·rw [List.mem_singleton.mp h]
      exact BS (by omega) (by omega)
  ·rintro σ H1 ⟨ws,o1,o2,o3,rfl,hl1,hb,hp1,hlen,nd,ok⟩
   exact ⟨_,rfl,q l ws H1 hl hl1 hb hp1 hlen nd ok⟩
end
section
variable {P:Program}{w:World}{K:PySem.W.Frag}{mg:eJ}{base:Heap}
noncomputable def bE (H H':Hp):Prop:=∀ b xs,H b=some (.tup xs)->H' b=some (.tup xs)
theorem bE.trans {H H1 H2:Hp}(a:bE H H1)(b:bE H1 H2):bE H H2:=fun c xs h=>b c xs (a c xs h)
theorem bE.of {H H':Hp}(s:aJ H H'):bE H H':=fun b xs h=>s b _ h
theorem bE.lst {H:Hp}{a:Addr}{ys:List V}{o:HO}(h:H a=some (.lst ys)):bE H (upd H a o):=fun b xs e=>by rw [aE (fun z=>by rw [z,h] at e;cases e)];exact e
theorem xT {p a:Addr}{H H':Hp}{o:HO}(h:dL p H H')(n:H a=none):dL p H (upd H' a o):=fun c u nc e=>by rw [aE (aG e n)];exact h c u nc e
theorem bE.pot {H:Hp}{p:Addr}{o:HO}(h:bD H p):bE H (upd H p o):=by obtain ⟨x,y,e⟩:=h;exact bE.lst e
noncomputable def dJ (H:Hp):cL->List V->Prop
 | [],vs=>vs=[]
 | r :: l,vs=>∃ t us,vs = .ref t :: us/\H t=some (.tup [.str r.1,.int r.2])/\dJ H l us
noncomputable def eY (H:Hp):cQ->List V->Prop
 | [],vs=>vs=[]
 | r :: l,vs=>∃ t us,vs = .ref t :: us/\H t=some (.tup [.str r.1,.str r.2])/\eY H l us
theorem dJ.same {H H':Hp}(s:bE H H'):∀ {l:cL} {vs:List V},dJ H l vs->dJ H' l vs
 | [],_,h=>h
 | _ :: _,_,⟨t,us,e,h,q⟩=>⟨t,us,e,s _ _ h,dJ.same s q⟩
theorem eY.same {H H':Hp}(s:bE H H'):∀ {l:cQ} {vs:List V},eY H l vs->eY H' l vs
 | [],_,h=>h
 | _ :: _,_,⟨t,us,e,h,q⟩=>⟨t,us,e,s _ _ h,eY.same s q⟩
theorem dJ.snoc {H:Hp}{n:Str}{k:Int}{t:Addr}(ht:H t=some (.tup [.str n,.int k])):∀ {l:cL} {vs:List V},dJ H l vs->dJ H (l ++ [(n,k)]) (vs ++ [.ref t])
 | [],_,h=>by cases h;exact ⟨t,[],rfl,ht,rfl⟩
 | _ :: _,_,⟨u,us,e,h,q⟩=>by subst e;exact ⟨u,us ++ [.ref t],rfl,h,dJ.snoc ht q⟩
theorem eY.snoc {H:Hp}{n k:Str}{t:Addr}(ht:H t=some (.tup [.str n,.str k])):∀ {l:cQ} {vs:List V},eY H l vs->eY H (l ++ [(n,k)]) (vs ++ [.ref t])
 | [],_,h=>by cases h;exact ⟨t,[],rfl,ht,rfl⟩
 | _ :: _,_,⟨u,us,e,h,q⟩=>by subst e;exact ⟨u,us ++ [.ref t],rfl,h,eY.snoc ht q⟩
theorem dJ.len {H:Hp}:∀ {l:cL} {vs:List V},dJ H l vs->vs.length=l.length
 | [],_,h=>by cases h;rfl
 | _ :: _,_,⟨t,us,e,h,q⟩=>by subst e;simp [dJ.len q]
theorem dJ.get {H:Hp}:∀ {l:cL} {vs:List V} {i:Nat} {v:V},dJ H l vs->vs[i]?=some v->∃ r t,l[i]?=some r/\v = .ref t/\H t=some (.tup [.str r.1,.int r.2])
 | [],_,_,_,h,e=>by cases h;simp at e
 | r :: _,_,0,_,⟨t,us,e,h,q⟩,k=>by subst e;simp at k;exact ⟨r,t,rfl,k.symm,h⟩
 | _ :: _,_,i + 1,_,⟨t,us,e,h,q⟩,k=>by subst e;simp at k;obtain ⟨r,t,h1,h2,h3⟩:=dJ.get q k;exact ⟨r,t,by simpa using h1,h2,h3⟩
noncomputable def zeros (fx:cL):aW:=(fx.filter fun r=>decide (r.2=0)).map (·.1)
structure bC (fx:cL)(sm:cQ):Prop where
 f1:1<=fx.length
 f2:fx.length<=12
 s2:sm.length<=3
 nm:∀ x ∈ fx.map (·.1) ++ sm.map (·.1),iA x
 nd:(fx.map (·.1) ++ sm.map (·.1)).Nodup
 parts:∀ r ∈ fx,0<=r.2/\r.2<=3
 bare:∃ r ∈ fx,r.2=0
 nought:∀ r ∈ sm,r.2≠("" : Str)->r.2 ∈ zeros fx
 once:((sm.map (·.2)).filter fun (x:Str)=>decide (x≠("" : Str))).Nodup
theorem gX (fx:cL)(r:Str×Int):zeros (fx ++ [r])=zeros fx ++ (if r.2=0 then [r.1] else []):=by
 unfold zeros
 rw [List.filter_append,List.map_append]
 congr 1
 by_cases z:r.2=0 <;> simp [z]
theorem fT (fx:cL):(zeros fx).Sublist (fx.map (·.1)):=List.Sublist.map _ List.filter_sublist
theorem bO {α:Type}{xs:List α}{i:Nat}{x:α}(h:xs[i]?=some x):xs.take (i + 1)=xs.take i ++ [x]:=by rw [List.take_succ,h];rfl
theorem EL (xs:List V)(n:Nat):cutV xs (some (n:Int)) none=xs.drop n:=by
 unfold cutV
 rw [HT.sIx_nat,HT.sIx_none,← List.length_drop]
 rcases Nat.le_total n xs.length with h | h
 ·rw [Nat.min_eq_left h,List.take_length]
 ·rw [Nat.min_eq_right h,List.drop_eq_nil_of_le h,List.drop_eq_nil_of_le (Nat.le_refl _)];rfl
theorem rE {α β:Type}(f:α->β):∀ (l:List α) (k:Nat),(l.map f).eraseIdx k=(l.eraseIdx k).map f
 | [],_=>rfl
 | _ :: _,0=>rfl
 | a :: l,k + 1=>by show f a :: (l.map f).eraseIdx k=f a :: (l.eraseIdx k).map f;rw [rE f l k]
theorem rD {α:Type}{l:List α}{k:Nat}{x:α}(h:x ∈ l.eraseIdx k):x ∈ l:=List.eraseIdx_subset h
theorem kZ {α:Type}:∀ {l:List α} {k:Nat} {x:α},l.Nodup->l[k]?=some x->x ∉ l.eraseIdx k
 | [],_,_,_,z=>by simp at z
 | a :: l,0,x,n,h=>by simp at h;subst h;exact (List.nodup_cons.mp n).1
 | a :: l,k + 1,x,n,h=>by
  simp at h
  intro m
  obtain e | e:=List.mem_cons.mp m
  ·subst e;exact (List.nodup_cons.mp n).1 (List.mem_of_getElem? h)
  ·exact kZ (List.nodup_cons.mp n).2 h e
structure NS (fx:cL)(ns:aW)(sm:cQ)(lz:aW):Prop where
 names:sm.map (·.1)=ns
 lzl:lz.length<=(zeros fx).length
 lzn:lz.Nodup
 lz1:∀ x ∈ lz,x ∈ zeros fx
 no:∀ r ∈ sm,r.2≠("" : Str)->r.2 ∈ zeros fx/\r.2 ∉ lz
 once:((sm.map (·.2)).filter fun (x:Str)=>decide (x≠("" : Str))).Nodup
theorem NS.none {fx:cL}{ns:aW}{sm:cQ}{lz:aW}(h:NS fx ns sm lz)(n:Str):NS fx (ns ++ [n]) (sm ++ [(n,("" : Str))]) lz:=by
 refine ⟨by rw [List.map_append,h.names];rfl,h.lzl,h.lzn,h.lz1,fun r hr ne=>?_,?_⟩
 ·obtain m | m:=List.mem_append.mp hr
  ·exact h.no r m ne
  ·rw [List.mem_singleton.mp m] at ne;exact absurd rfl ne
 ·rw [List.map_append,List.filter_append]
  have e:(List.filter (fun (x:Str)=>decide (x≠("" : Str))) (List.map (fun r:Str×Str=>r.2) [(n,("" : Str))]))=[]:=by simp
  rw [e,List.append_nil]
  exact h.once
theorem NS.pop {fx:cL}{ns:aW}{sm:cQ}{lz:aW}(h:NS fx ns sm lz)(n:Str){k:Nat}{y:Str}(hk:lz[k]?=some y):NS fx (ns ++ [n]) (sm ++ [(n,y)]) (lz.eraseIdx k):=by
 have hy:=List.mem_of_getElem? hk
 refine ⟨by rw [List.map_append,h.names];rfl,Nat.le_trans (List.eraseIdx_sublist _ _).length_le h.lzl,h.lzn.sublist (List.eraseIdx_sublist _ _),fun x hx=>h.lz1 x (rD hx),fun r hr ne=>?_,?_⟩
 ·obtain m | m:=List.mem_append.mp hr
  ·exact ⟨(h.no r m ne).1,fun z=>(h.no r m ne).2 (rD z)⟩
  ·rw [List.mem_singleton.mp m];exact ⟨h.lz1 y hy,kZ h.lzn hk⟩
 ·rw [List.map_append,List.filter_append]
  refine List.nodup_append.mpr ⟨h.once,?_,?_⟩
  ·by_cases z:y=("" : Str) <;> simp [z]
  ·intro a ha b hb e
   subst e
   obtain ⟨m1,m2⟩:=List.mem_filter.mp ha
   obtain ⟨r,hr,er⟩:=List.mem_map.mp m1
   have ny:a=y:=by
    obtain ⟨m3,_⟩:=List.mem_filter.mp hb
    simpa using m3
   have ne:r.2≠("" : Str):=by rw [er];simpa using m2
   exact (h.no r hr ne).2 (by rw [er,ny];exact hy)
structure LE (p fl lf tl sl:Addr)(H:Hp):Prop where
 fp:fl≠p
 lp:lf≠p
 tp:tl≠p
 sp:sl≠p
 lf1:lf≠fl
 ls:lf≠sl
 lt:lf≠tl
 tf:tl≠fl
 ts:tl≠sl
 nl:H lf=none
 nt:H tl=none
structure HS (p fl lf tl sl:Addr)(H:Hp)(fx:cL)(acc zl:List V)(lv:List V)(sm:cQ)(sv:List V)(H':Hp):Prop where
 b:dL p H H'
 pot:bD H' p
 f:H' fl=some (.lst acc)
 r:dJ H' fx acc
 l:H' lf=some (.lst lv)
 t:H' tl=some (.lst sv)
 s:eY H' sm sv
 z:H' sl=some (.lst zl)
section
variable {p fl lf tl sl:Addr}{H H':Hp}{fx:cL}{acc zl lv sv:List V}{sm:cQ}
theorem HS.new (h:HS p fl lf tl sl H fx acc zl lv sm sv H'){q:Addr}{o:HO}(hq:H' q=none):HS p fl lf tl sl H fx acc zl lv sm sv (upd H' q o) :=
 ⟨h.b.trans (dL.new hq),h.pot.but (h.pot.ne hq),by rw [aE (aG h.f hq)];exact h.f,h.r.same (bE.of (aJ.upd hq)),by rw [aE (aG h.l hq)];exact h.l,by rw [aE (aG h.t hq)];exact h.t,h.s.same (bE.of (aJ.upd hq)),by rw [aE (aG h.z hq)];exact h.z⟩
theorem HS.take (h:HS p fl lf tl sl H fx acc zl lv sm sv H')(d:LE p fl lf tl sl H)(x y:Int):HS p fl lf tl sl H fx acc zl lv sm sv (upd H' p (.lst [.int x,.int y])) :=
 ⟨h.b.trans (dL.upd _ _ _),⟨_,_,upd_same⟩,by rw [aE d.fp];exact h.f,h.r.same (bE.pot h.pot),by rw [aE d.lp];exact h.l,by rw [aE d.tp];exact h.t,h.s.same (bE.pot h.pot),by rw [aE d.sp];exact h.z⟩
theorem HS.left (h:HS p fl lf tl sl H fx acc zl lv sm sv H')(d:LE p fl lf tl sl H)(lv':List V):HS p fl lf tl sl H fx acc zl lv' sm sv (upd H' lf (.lst lv')) :=
 ⟨xT h.b d.nl,h.pot.but d.lp.symm,by rw [aE d.lf1.symm];exact h.f,h.r.same (bE.lst h.l),upd_same,by rw [aE d.lt.symm];exact h.t,h.s.same (bE.lst h.l),by rw [aE d.ls.symm];exact h.z⟩
theorem HS.told (h:HS p fl lf tl sl H fx acc zl lv sm sv H')(d:LE p fl lf tl sl H){sm':cQ}{sv':List V}(hs:eY H' sm' sv'):HS p fl lf tl sl H fx acc zl lv sm' sv' (upd H' tl (.lst sv')) :=
 ⟨xT h.b d.nt,h.pot.but d.tp.symm,by rw [aE d.tf.symm];exact h.f,h.r.same (bE.lst h.t),by rw [aE d.lt];exact h.l,upd_same,hs.same (bE.lst h.t),by rw [aE d.ts.symm];exact h.z⟩
end
noncomputable def LI (fx:cL)(H0:Hp)(i:Nat)(acc:List V)(σ:St)(H1:Hp):Prop:=∃ o1 o2:Option V,σ=[o1,o2]/\H1=H0/\acc=(zeros (fx.take i)).map V.str
noncomputable def SI (p fl lf tl sl l:Addr)(many sums sure:Nat)(ws:aW)(fx:cL)(acc zl:List V)(H:Hp)(i:Nat)(σ:St)(H':Hp):Prop :=
 ∃ (o8 o9:Option V) (sm:cQ) (lz:aW) (sv:List V),σ=[some (.ref p),some (.int many),some (.int sums),some (.ref l),some (.int sure),some (.ref fl),some (.ref lf),some (.ref tl),o8,o9]/\HS p fl lf tl sl H fx acc zl (lz.map V.str) sm sv H'/\NS fx ((ws.drop many).take i) sm lz/\sv.length=i
theorem uS (H:Hp):∀ lz:aW,Reps H (lz.map D.str) (lz.map V.str)
 | []=>rfl
 | _ :: l=>⟨_,_,rfl,rfl,uS H l⟩
theorem nV:∀ lz:aW,depDs (lz.map D.str)=0
 | []=>rfl
 | _ :: l=>by rw [List.map_cons,depDs,nV l];rfl
theorem m8 {p fl lf tl sl:Addr}{H H':Hp}{fx:cL}{acc zl lv sv:List V}{sm:cQ}{K0:PySem.W.Frag}{D:gR}{σ:St}{n y:Str}(d:LE p fl lf tl sl H)(e7:σ[7]?=some (some (.ref tl)))(e8:σ[8]?=some (some (.str n)))(e9:σ[9]?=some (some (.str y)))
  (h:HS p fl lf tl sl H fx acc zl lv sm sv H') (hl:sv.length < 20) (hn:∀ t H'',HS p fl lf tl sl H fx acc zl lv (sm ++ [(n,y)]) (sv ++ [.ref t]) H''->D.nx σ H''):tDrop (tBM K0 "list" rAppend (tVar 7) (tCons (tTup (tCons (tVar 8) (tCons (tVar 9) tNil))) tNil)) D σ H':=by
 refine ⟨_,e7,.inl ⟨rfl,_,fH.of h.t⟩,_,e8,_,e9,(by show 2<=sizeLine;decide),fun t ht=>⟨tl,sv,.ref t,rfl,rfl,(h.new ht).t,Nat.lt_of_lt_of_le hl (by decide),?_⟩⟩
 exact hn t _ ((h.new ht).told d ((h.new ht).s.snoc upd_same))
noncomputable def FI (p l:Addr)(ws:aW)(sure:Nat)(H0:Hp)(i:Nat)(acc:List V)(σ:St)(H1:Hp):Prop :=
 ∃ (fx:cL) (o:Option V),σ=[o,some (.ref p),some (.ref l),some (.int sure)]/\dL p H0 H1/\bD H1 p/\fx.map (·.1)=ws.take i/\(∀ r ∈ fx,0<=r.2/\r.2<=3)/\(sure < i->∃ r ∈ fx,r.2=0)/\dJ H1 fx acc
noncomputable def sR:Sp:=fun vs H Q _=>∃ p:Addr,vs=[.ref p]/\bD H p/\∀ (t a b:Addr) (fx:cL) (sm:cQ) (fv sv:List V) (H':Hp),dL p H H'->bD H' p->H' t=some (.tup [.ref a,.ref b])->H' a=some (.lst fv)->H' b=some (.lst sv)->dJ H' fx fv->eY H' sm sv->bC fx sm->a≠p->b≠p->Q (.ref t) H'
theorem DH {f:Addr}{fd:FuncData}(F:gN K "_law_signs" "_law_signs" cN f fd)(T:Txt mg)(O__law_take:dQ P w K mg base bP 1 "_law_take" fL)(O__law_names:dQ P w K mg base bP 2 "_law_names" sV):cF P w K mg base bP 3 f fd jR sR:=by
 refine F.ok bQ (fun vs H Q E h=>?_) (fun cdv A outer s H vs Q E hr h=>?_)
 ·obtain ⟨p,rfl,_⟩:=h
  rfl
 ·obtain ⟨p,rfl,hp,q⟩:=h
  have hu:=hr.units
  refine ⟨_,(aC (aP (i:=1) bQ.nd rfl (Or.inl rfl) (bB aY aF (aO O__law_take (hr.mono (by decide)) pass0 rfl (aA (pv 0) (aA aF aB)))))
   (aC (aP (i:=2) bQ.nd rfl (Or.inl rfl) (aO O__law_take (hr.mono (by decide)) pass0 rfl (aA (pv 0) (aA aF aB))))
   (aC (aP (i:=3) bQ.nd rfl (Or.inr rfl) (aO O__law_names (hr.mono (by decide)) pass0 rfl (aA (pv 0) (aA (bB aY (pv 1) (pv 2)) aB))))
   (aC (aP (i:=4) bQ.nd rfl (Or.inr rfl) (aO O__law_take (hr.mono (by decide)) pass0 rfl (aA (pv 0) (aA (pv 1) aB))))
   (aC (kU (i:=5) bQ.nd rfl rfl rfl rfl (bG.by (N:=gP) (names:=(aD cN).names) (N':=["_law_k","_law_pot_here","_law_names_here","_law_sure"]) (src:=[none,some 0,some 3,some 4]) (by decide +kernel) rfl rfl) (fC rfl T.n_range (aA (pv 1) aB)) (fun _ _ _ _=>(bN (i:=0) (show List.Nodup (["_law_k","_law_pot_here","_law_names_here","_law_sure"]:aW) by decide +kernel) rfl (Or.inl rfl))) (fun _ _ _ _=>eD) (fun _ _ _ _=>(eB (aA (bM dF (pv 2) (pv 0) (fun _ _=>rfl)) (aA (bB (nO.or nN) (aO O__law_take (hr.mono (by decide)) pass0 rfl (aA (pv 1) (aA aF aB))) (d9 rY rfl T.n_int rfl (aA (eN (kD hu) (pv 0) (pv 3) (nomark _)) aB))) aB)))))
   (aC (kU (i:=6) bQ.nd rfl rfl rfl rfl (bG.by (N:=gP) (names:=(aD cN).names) (N':=["_law_name","_law_parts"]) (src:=[none,none]) (by decide +kernel) rfl rfl) (dM K rfl (pv 5)) (fun _ _ _ _=>(dD K rfl (i:=0) (j:=1) rfl (show List.Nodup (["_law_name","_law_parts"]:aW) by decide +kernel) rfl rfl rfl rfl)) (fun _ _ _ _=>(kT (aS (eI hu) (pv 1) aF (nomark _)))) (fun _ _ _ _=>(pv 0)))
   (aC (aP (i:=7) bQ.nd rfl (Or.inl rfl) (cJ aB))
   (aC (fW PassesOwn.never rfl (dM K rfl (bT sZ (pv 3) (bK (pv 1)) cX)) (bN (i:=8) bQ.nd rfl (Or.inl rfl)) (aC (aP (i:=9) bQ.nd rfl (Or.inl rfl) bA)
   (aC (bU (PW.pt (tD (aS (kD hu) (pv 6) (cJ aB) (nomark _)) (oY (aS uZ (aO O__law_take (hr.mono (by decide)) pass0 rfl (aA (pv 0) (aA aF aB))) aF (nomark _))))) (aH (aP (i:=9) bQ.nd rfl (Or.inl rfl) (j9 PySem.F.plainAttrs_list PySem.F.slot_list_pop PySem.F.type_list_pop DU (pv 6) (aA (aO O__law_take (hr.mono (by decide)) pass0 rfl (aA (pv 0) (aA (aK bH rfl T.n_len rfl (aA (pv 6) aB)) aB))) aB)))) aX)
   (aH (eL (j9 PySem.F.plainAttrs_list PySem.F.slot_list_append PySem.F.type_list_append fE (pv 7) (aA (eB (aA (pv 8) (aA (pv 9) aB))) aB)))))))
   (aH (aR (eB (aA (pv 5) (aA (pv 7) aB))))))))))))),?_⟩
  simp only [gP]
  clear hr F T O__law_take O__law_names hu
  have hq:=q
  clear q
  walk_at "rd"
  refine ⟨p,12,rfl,hp,by decide,by decide,fun d a b h0 h1=>?_⟩
  walk_at "rd"
  obtain ⟨many,hm1,hm2,hmd⟩:∃ many:Nat,1<=many/\many<=12/\1 + d=(many:Int):=⟨(1 + d).toNat,by omega,by omega,by omega⟩
  rw [hmd]
  clear hmd h0 h1 d
  refine ⟨p,4,rfl,⟨_,_,upd_same⟩,by decide,by decide,fun d2 a b h2 h3=>?_⟩
  obtain ⟨sums,rfl⟩:∃ k:Nat,d2=(k:Int):=⟨d2.toNat,by omega⟩
  have hs4:sums < 4:=by omega
  clear h2 h3
  rw [upd_upd]
  have em:(many:Int) + (sums:Int)=((many + sums:Nat):Int):=by omega
  dsimp only
  refine ⟨_,rfl,?_⟩
  rw [em]
  refine ⟨p,many + sums,rfl,⟨_,_,upd_same⟩,by omega,fun l ws H1 hl hl1 hb1 hp1 hlen nd ok=>?_⟩
  have hlp:l≠p:=fun z=>by rw [z,upd_same] at hl;cases hl
  dsimp only
  refine ⟨p,many,rfl,hp1,by omega,by omega,fun d3 x3 y3 h4 h5=>?_⟩
  obtain ⟨sure,rfl⟩:∃ k:Nat,d3=(k:Int):=⟨d3.toNat,by omega⟩
  have hsm:sure < many:=by omega
  have b2:dL p H (upd H1 p (.lst [.int x3,.int y3])):=((dL.upd p H _).trans hb1).trans (dL.upd p H1 _)
  have p2:bD (upd H1 p (.lst [.int x3,.int y3])) p:=⟨_,_,upd_same⟩
  have l2:upd H1 p (.lst [.int x3,.int y3]) l=some (.lst (ws.map V.str)):=by rw [aE hlp];exact hl1
  generalize upd H1 p (.lst [.int x3,.int y3])=H2 at b2 p2 l2 ⊢
  clear hl hl1 hb1 hp1 h4 h5 em hp
  refine ⟨by omega,by omega,?_⟩
  rw [Int.toNat_natCast]
  refine vO (FI p l ws sure H2) ⟨[],none,rfl,dL.refl _ _,p2,rfl,by simp,fun z=>absurd z (Nat.not_lt_zero _),rfl⟩ ?_ ?_
  ·rintro i acc σ H3 hi ⟨fx,o,rfl,b3,p3,hfx,hpt,hsu,hrow⟩
   have l3:=b3 l _ hlp l2
   obtain ⟨wd,hwd⟩:∃ wd,ws[i]?=some wd:=⟨ws[i],List.getElem?_eq_getElem (by omega)⟩
   have e1:atI (ws.map V.str) (i:Int)=some (.str wd):=zQ (by rw [List.getElem?_map,hwd];rfl)
   refine ⟨_,rfl,_,rfl,_,(by rw [ixV_l l3,Int.zero_add];exact e1),_,rfl,p,4,rfl,p3,by decide,by decide,fun d x4 y4 d0 d1=>?_⟩
   have ek:(if (!eqD (.int (0 + (i:Int))) (.int (sure:Int)))=true then (1:Int) else 0)=if i=sure then 0 else 1:=by
    by_cases z:i=sure
    ·subst z
     rw [Int.zero_add,kG,if_pos rfl];rfl
    ·have e:eqD (.int (0 + (i:Int))) (.int (sure:Int))=false:=by
      show ((0 + (i:Int)) == (sure:Int))=false
      rw [Int.zero_add]
      exact beq_eq_false_iff_ne.mpr (by omega)
     rw [e,if_neg z];rfl
   refine ⟨_,rfl,_,rfl,.int _,.int _,rfl,rfl,Nat.zero_le _,_,_,rfl,rfl,.inl ⟨d,rfl,_,rfl,.inr (by rw [ek];split <;> constructor <;> omega),?_⟩⟩
   rw [ek]
   refine ⟨(by show 2<=sizeLine;decide),fun t ht=>⟨Nat.lt_of_le_of_lt (m:=20) ?_ (by decide),?_⟩⟩
   ·rw [hrow.len]
    have:=congrArg List.length hfx
    rw [List.length_map,List.length_take] at this
    omega
   have p4:bD (upd H3 p (.lst [.int x4,.int y4])) p:=⟨_,_,upd_same⟩
   have hv:0<=d * (if i=sure then 0 else 1)/\d * (if i=sure then 0 else 1)<=3:=by split <;> constructor <;> omega
   have row4:dJ (upd (upd H3 p (.lst [.int x4,.int y4])) t (.tup [.str wd,.int (d * (if i=sure then 0 else 1))])) fx acc:=(hrow.same (bE.pot p3)).same (bE.of (aJ.upd ht))
   refine ⟨fx ++ [(wd,d * (if i=sure then 0 else 1))],_,rfl,(b3.trans (dL.upd p _ _)).trans (dL.new ht),p4.but (p4.ne ht),?_,fun r hr=>?_,fun hlt=>?_,row4.snoc upd_same⟩
   ·rw [List.map_append,hfx,List.take_succ,hwd];rfl
   ·obtain h | h:=List.mem_append.mp hr
    ·exact hpt r h
    ·rw [List.mem_singleton.mp h];exact hv
   ·by_cases z:i=sure
    ·exact ⟨_,List.mem_append_right _ List.mem_cons_self,by show d * (if i=sure then 0 else 1)=0;rw [if_pos z];omega⟩
    ·obtain ⟨r,h1,h2⟩:=hsu (by omega)
     exact ⟨r,List.mem_append_left _ h1,h2⟩
  ·rintro acc σ H3 ⟨fx,o,rfl,b3,p3,hfx,hpt,hsu,hrow⟩ fl hfl
   have l3:=b3 l _ hlp l2
   have f4:upd H3 fl (.lst acc) fl=some (.lst acc):=upd_same
   have b4:dL p H (upd H3 fl (.lst acc)):=(b2.trans b3).trans (dL.new hfl)
   have p4:=p3.but (o:=.lst acc) (p3.ne hfl)
   have l4:upd H3 fl (.lst acc) l=some (.lst (ws.map V.str)):=by rw [aE (aG l3 hfl)];exact l3
   have row4:dJ (upd H3 fl (.lst acc)) fx acc:=hrow.same (bE.of (aJ.upd hfl))
   have nfp:fl≠p:=(p3.ne hfl).symm
   generalize upd H3 fl (.lst acc)=H4 at f4 b4 p4 l4 row4 ⊢
   obtain ⟨r0,hr0,hz0⟩:=hsu hsm
   clear hrow hfl l3 p3 b3 b2 p2 l2 hsu
   refine ⟨fl,rfl,_,.inl f4,fun J hJ=>?_⟩
   have hfn:(fx.map (·.1)).Nodup:=by rw [hfx];exact nd.sublist (List.take_sublist _ _)
   have hzl:(zeros fx).length<=12:=by
    have h1:=(fT fx).length_le
    rw [hfx,List.length_take] at h1
    omega
   refine dG hJ (LI fx H4) ⟨none,none,rfl,rfl,rfl⟩ (by rintro i acc' σ H' _ ⟨_,_,_,rfl,_⟩;rfl) ?_ ?_
   ·rintro i x acc' σ H' hx ⟨o1,o2,rfl,rfl,rfl⟩
    obtain ⟨r,t,hr,rfl,ht⟩:=row4.get hx
    refine ⟨t,_,rfl,iE.of ht,rfl,_,_,rfl,_,_,rfl,rfl,_,rfl,?_⟩
    dsimp only [tC]
    rw [rEqD_ii]
    refine ⟨_,rfl,?_⟩
    by_cases z:r.2=0
    ·rw [if_pos (by simpa using z)]
     refine ⟨_,rfl,?_,?_⟩
     ·rw [List.length_map]
      have h1:=(fT (fx.take i)).length_le
      have h2:(fx.take i).length<=12:=by
       have h3:=congrArg List.length hfx
       rw [List.length_map,List.length_take] at h3
       rw [List.length_take];omega
      rw [List.length_map] at h1
      exact Nat.lt_of_le_of_lt (m:=12) (by omega) (by decide)
     ·exact ⟨_,_,rfl,rfl,by rw [bO hr,gX,if_pos z,List.map_append];rfl⟩
    ·rw [if_neg (by simpa using z)]
     exact ⟨_,_,rfl,rfl,by rw [bO hr,gX,if_neg z,List.append_nil]⟩
   ·rintro acc' σ H' ⟨o1,o2,rfl,rfl,rfl⟩ lf hlf
    rw [List.take_of_length_le (by rw [row4.len];exact Nat.le_refl _)]
    refine ⟨Nat.zero_le _,fun tl htl=>⟨l,rfl,ws.map V.str,.inl ?_,?_,fun sl o hsl ho=>?_⟩⟩
    ·rw [aE,aE (aG l4 hlf)]
     ·exact l4
     ·intro e;subst e;rw [aE (aG l4 hlf),l4] at htl;cases htl
    ·rintro ⟨ys,hy⟩
     rw [aE,aE (aG l4 hlf),l4] at hy
     ·cases hy
     ·intro e;subst e;rw [aE (aG l4 hlf),l4] at htl;cases htl
    ·have l5:upd H' lf (HO.lst (List.map V.str (zeros fx))) l=some (.lst (ws.map V.str)):=by rw [aE (aG l4 hlf)];exact l4
     have l6:upd (upd H' lf (HO.lst (List.map V.str (zeros fx)))) tl (.lst []) l=some (.lst (ws.map V.str)):=by rw [aE (aG l5 htl)];exact l5
     have eo:o = .lst ((ws.drop many).map V.str):=by
      rcases ho with ⟨e,_⟩ | ⟨_,e⟩
      ·rw [e,EL,List.map_drop]
      ·rw [l6] at e;cases e
     subst eo
     clear ho
     have htf:tl≠lf:=fun e=>by subst e;rw [upd_same] at htl;cases htl
     have htl':H' tl=none:=by rw [aE htf] at htl;exact htl
     have hst:sl≠tl:=fun e=>by subst e;rw [upd_same] at hsl;cases hsl
     have hsf:sl≠lf:=fun e=>by subst e;rw [aE hst,upd_same] at hsl;cases hsl
     have hsl':H' sl=none:=by rw [aE hst,aE hsf] at hsl;exact hsl
     have nn:∀ a,H' a=none->H a=none:=fun a ha=>by
      cases e:H a with
      | none=>rfl
      | some o=>have z:=b4 a o (p4.ne ha).symm e;rw [ha] at z;cases z
     have dst:LE p fl lf tl sl H:=⟨nfp,(p4.ne hlf).symm,(p4.ne htl').symm,(p4.ne hsl').symm,(aG f4 hlf).symm,hsf.symm,htf.symm,(aG f4 htl').symm,hst.symm,nn _ hlf,nn _ htl'⟩
     have h0:HS p fl lf tl sl H fx acc ((ws.drop many).map V.str) ((zeros fx).map V.str) [] [] (upd (upd (upd H' lf (.lst ((zeros fx).map V.str))) tl (.lst [])) sl (.lst ((ws.drop many).map V.str))):=by
      have s1:aJ H' (upd (upd (upd H' lf (.lst ((zeros fx).map V.str))) tl (.lst [])) sl (.lst ((ws.drop many).map V.str))):=((aJ.upd hlf).trans (aJ.upd htl)).trans (aJ.upd hsl)
      obtain ⟨px,py,pe⟩:=p4
      exact ⟨b4.trans s1.but,⟨px,py,s1 _ _ pe⟩,s1 _ _ f4,row4.same (bE.of s1),by rw [aE hsf.symm,aE htf.symm,upd_same],by rw [aE hst.symm,upd_same],rfl,upd_same⟩
     have n0:NS fx [] [] (zeros fx):=⟨rfl,Nat.le_refl _,hfn.sublist (fT fx),fun _ h=>h,by simp,by simp⟩
     generalize upd (upd (upd H' lf (.lst ((zeros fx).map V.str))) tl (.lst [])) sl (.lst ((ws.drop many).map V.str))=H7 at h0 ⊢
     refine ⟨_,.inl h0.z,fun J2 hJ2=>?_⟩
     refine mK hJ2 (SI p fl lf tl sl l many sums sure ws fx acc ((ws.drop many).map V.str) H) ⟨none,none,[],zeros fx,[],rfl,h0,n0,rfl⟩ (by rintro i σ H'' _ ⟨_,_,_,_,_,_,hh,_⟩;rw [hh.z,h0.z]) ?_ ?_
     ·rintro i x σ H8 hx ⟨o8,o9,sm,lz,sv,rfl,hh,ns,hsv⟩
      obtain ⟨n,hn,rfl⟩:∃ n,(ws.drop many)[i]?=some n/\x = .str n:=by
       rw [List.getElem?_map] at hx
       cases e:(ws.drop many)[i]? with
       | none=>rw [e] at hx;cases hx
       | some n=>rw [e] at hx;exact ⟨n,rfl,by cases hx;rfl⟩
      have hi:i < 4:=by
       have:=(List.getElem?_eq_some_iff.mp hn).1
       rw [List.length_drop] at this
       omega
      refine ⟨_,rfl,Nat.zero_le _,fun q hq2=>⟨.lst (lz.map D.str),.lst [],⟨lf,_,rfl,(hh.new hq2).l,uS _ _⟩,⟨q,[],rfl,upd_same,rfl⟩,by rw [depD,nV];decide,_,rfl,?_⟩⟩
      have h9:=hh.new (o:=.lst []) hq2
      generalize upd H8 q (.lst [])=H9 at h9 ⊢
      cases lz with
      | nil =>
       dsimp only
       rw [if_neg (by decide),if_neg (by decide)]
       refine m8 dst rfl rfl rfl h9 (by omega) fun t H'' h''=>?_
       exact ⟨_,_,_,_,_,rfl,h'',by rw [bO hn];exact ns.none n,by rw [List.length_append,hsv];rfl⟩
      | cons z lz =>
       dsimp only
       rw [if_pos (by rfl)]
       refine ⟨_,rfl,p,3,rfl,h9.pot,by decide,by decide,fun d1 x1 y1 d0 d1'=>⟨_,_,rfl,rfl,_,rfl,?_⟩⟩
       have h10:=h9.take dst x1 y1
       generalize upd H9 p (.lst [.int x1,.int y1])=H10 at h10 ⊢
       dsimp only
       by_cases hd:0 < d1
       ·rw [if_pos (by simpa using hd)]
        have hlz:(z :: lz).length<=12:=by
         have h1:=ns.lzl
         omega
        refine ⟨_,rfl,.inl ⟨rfl,_,fH.of h10.l⟩,_,rfl,_,rfl,_,_,rfl,(by dsimp only;rw [lenV_l h10.l];rfl),p,_,rfl,h10.pot,?_,?_,fun d2 x2 y2 e0 e1=>?_⟩
        ·rw [List.length_map,List.length_cons];omega
        ·rw [List.length_map];omega
        ·have h11:=h10.take dst x2 y2
         generalize upd H10 p (.lst [.int x2,.int y2])=H11 at h11 ⊢
         rw [List.length_map] at e1
         obtain ⟨y,hy⟩:∃ y,(z :: lz)[d2.toNat]?=some y:=⟨_,List.getElem?_eq_getElem (by omega)⟩
         refine ⟨lf,_,d2,d2.toNat,.str y,rfl,rfl,h11.l,by omega,by omega,PySem.StrLaws.seqIndex_nonneg e0 (by rw [List.length_map];exact e1),by rw [List.getElem?_map,hy];rfl,?_⟩
         have h12:=h11.left dst (((z :: lz).eraseIdx d2.toNat).map V.str)
         rw [rE]
         refine m8 dst rfl rfl rfl h12 (by omega) fun t H'' h''=>?_
         exact ⟨_,_,_,_,_,rfl,h'',by rw [bO hn];exact ns.pop n hy,by rw [List.length_append,hsv];rfl⟩
       ·rw [if_neg (by simpa using hd)]
        refine m8 dst rfl rfl rfl h10 (by omega) fun t H'' h''=>?_
        exact ⟨_,_,_,_,_,rfl,h'',by rw [bO hn];exact ns.none n,by rw [List.length_append,hsv];rfl⟩
     ·rintro σ H8 ⟨o8,o9,sm,lz,sv,rfl,hh,ns,hsv⟩
      refine ⟨_,rfl,_,rfl,(by show 2<=sizeLine;decide),fun t ht=>?_⟩
      have h9:=hh.new (o:=.tup [.ref fl,.ref tl]) ht
      refine hq t fl tl fx sm acc sv _ h9.b h9.pot upd_same h9.f h9.t h9.r h9.s ?_ dst.fp dst.tp
      have e1:=ns.names
      rw [List.length_map,List.take_length] at e1
      have e2:=congrArg List.length e1
      have e3:=congrArg List.length hfx
      rw [List.length_map,List.length_drop] at e2
      rw [List.length_map,List.length_take] at e3
      have e4:fx.map (·.1) ++ sm.map (·.1)=ws:=by rw [hfx,e1,List.take_append_drop]
      exact ⟨by omega,by omega,by omega,by rw [e4];exact ok,by rw [e4];exact nd,hpt,⟨r0,hr0,hz0⟩,fun r hr ne=>(ns.no r hr ne).1,ns.once⟩
end
section
variable {P:Program}{w:World}{K:PySem.W.Frag}{mg:eJ}{base:Heap}
noncomputable def isWd (c:Nat):Prop:=(97<=c/\c<=122)∨(48<=c/\c<=57)
noncomputable def cC (x:Str):Prop:=∃ l:List Nat,x=⟨(63 :: l).toArray⟩/\1<=l.length/\l.length<=8/\∀ c ∈ l,isWd c
noncomputable def wds:Str:=PySem.Str.ofString "abcdefghijklmnopqrstuvwxyz0123456789"
theorem yC:wds.cps.toList.length=36:=by decide +kernel
theorem E8:wds.cps.toList.all (fun c=>(decide (97<=c) && decide (c<=122)) || (decide (48<=c) && decide (c<=57)))=true:=by decide +kernel
theorem IK {c:Nat}(h:c ∈ wds.cps.toList):isWd c:=by
 have:=List.all_eq_true.mp E8 c h
 simpa [isWd] using this
theorem JX {H:Hp}{i:Int}(h0:0<=i)(h1:i < 36):∃ c,isWd c/\ixV H (.str wds) (.int i)=some (.str ⟨#[c]⟩):=by
 have hl:i.toNat < wds.cps.toList.length:=by rw [yC];omega
 refine ⟨wds.cps.toList[i.toNat],IK (List.getElem_mem hl),?_⟩
 show (if wds.length<=sizeLine then (atI wds.cps.toList i).map fun c=>V.str ⟨#[c]⟩ else none)=_
 rw [if_pos (by decide +kernel),iR h0 (by rw [yC];exact h1),List.getElem?_eq_getElem hl]
 rfl
noncomputable def sW:Sp:=fun vs H Q _=>∃ p:Addr,vs=[.ref p]/\bD H p/\∀ (o:Addr) (os:aW) (H':Hp),o≠p->dL p H H'->bD H' p->H' o=some (.lst (os.map V.str))->os.length=5->(∀ x ∈ os,cC x)->Q (.ref o) H'
noncomputable def DI (p l:Addr)(H:Hp)(i:Nat)(σ:St)(H1:Hp):Prop:=∃ (os:aW) (o2 o3 o4:Option V),σ=[some (.ref p),some (.ref l),o2,o3,o4]/\H1 l=some (.lst (os.map V.str))/\dL p H H1/\bD H1 p/\os.length=i/\∀ x ∈ os,cC x
noncomputable def DJ (p l:Addr)(os:aW)(i:Int)(H:Hp)(j:Nat)(σ:St)(H1:Hp):Prop:=∃ (cs:List Nat) (o4:Option V),σ=[some (.ref p),some (.ref l),some (.int i),some (.str ⟨(63 :: cs).toArray⟩),o4]/\H1 l=some (.lst (os.map V.str))/\dL p H H1/\bD H1 p/\cs.length=j/\∀ c ∈ cs,isWd c
theorem DR {f:Addr}{fd:FuncData}(F:gN K "_law_drawn" "_law_drawn" dX f fd)(T:Txt mg)(O__law_take:dQ P w K mg base bP 1 "_law_take" fL):cF P w K mg base bP 2 f fd jU sW:=by
 refine F.ok d8 (fun vs H Q E h=>?_) (fun cdv A outer s H vs Q E hr h=>?_)
 ·obtain ⟨p,rfl,_⟩:=h
  rfl
 ·obtain ⟨p,rfl,hp,q⟩:=h
  have hu:=hr.units
  refine ⟨_,(aC (aP (i:=1) d8.nd rfl (Or.inl rfl) (cJ aB))
   (aC (fW PassesOwn.never rfl (fC rfl T.n_range (aA aF aB)) (bN (i:=2) d8.nd rfl (Or.inl rfl)) (aC (aP (i:=3) d8.nd rfl (Or.inl rfl) bA)
   (aC (fW PassesOwn.never rfl (fC rfl T.n_range (aA (bB aY aF (aO O__law_take (hr.mono (by decide)) pass0 rfl (aA (pv 0) (aA (bM dF (cJ (aA aF (aA aF (aA aF aB)))) (aO O__law_take (hr.mono (by decide)) pass0 rfl (aA (pv 0) (aA aF aB))) (fun _ _=>rfl)) aB)))) aB)) (bN (i:=4) d8.nd rfl (Or.inl rfl)) (aH (aP (i:=3) d8.nd rfl (Or.inl rfl) (bB aY (pv 3) (bM dF bA (aO O__law_take (hr.mono (by decide)) pass0 rfl (aA (pv 0) (aA aF aB))) (fun _ _=>rfl))))))
   (aH (eL (j9 PySem.F.plainAttrs_list PySem.F.slot_list_append PySem.F.type_list_append fE (pv 1) (aA (pv 3) aB)))))))
   (aH (aR (pv 1))))),?_⟩
  simp only [mW]
  clear hr F T O__law_take hu
  walk_at "rd"
  refine ⟨by decide,fun l hl=>⟨by decide,by decide,?_⟩⟩
  have npl:p≠l:=hp.ne hl
  refine eX (DI p l H) ⟨[],none,none,none,rfl,upd_same,dL.new hl,hp.but npl,rfl,by simp⟩ ?_ ?_
  ·rintro i σ H1 hi ⟨os,o2,o3,o4,rfl,hl1,hb,hp1,hlen,ok⟩
   clear q hp
   have keep:=aI hl (aI hl1 (aI hb (aI hp1 (aI hlen ok))))
   clear hl hl1 hb hp1 hlen ok
   walk_at "rd"
   obtain ⟨hl,hl1,hb,hp1,hlen,ok⟩:=keep
   refine ⟨by decide,fun r hr=>⟨p,3,rfl,hp1.but (hp1.ne hr),by decide,by decide,fun d a b h0 h1=>?_⟩⟩
   have npr:p≠r:=hp1.ne hr
   have nlr:l≠r:=aG hl1 hr
   obtain ⟨B,hB,hB0,hB1⟩:∃ B:Int,atI [V.int 1,V.int 2,V.int 8] d=some (.int B)/\0 < B/\B<=8:=by
    have:d=0∨d=1∨d=2:=by omega
    rcases this with rfl | rfl | rfl
    ·exact ⟨1,by decide,by decide,by decide⟩
    ·exact ⟨2,by decide,by decide,by decide⟩
    ·exact ⟨8,by decide,by decide,by decide⟩
   dsimp only
   refine ⟨.int B,by rw [ixV_l (xs:=[.int 1,.int 2,.int 8]) (by rw [aE npr.symm,upd_same])];exact hB,p,B,rfl,⟨a,b,upd_same⟩,hB0,by omega,fun n a2 b2 n0 n1=>⟨.int (1 + n),rfl,1 + n,rfl,by omega,by omega,?_⟩⟩
   have hb2:dL p H (upd (upd (upd H1 r (.lst [.int 1,.int 2,.int 8])) p (.lst [.int a,.int b])) p (.lst [.int a2,.int b2])):=((hb.trans (dL.new hr)).trans (dL.upd _ _ _)).trans (dL.upd _ _ _)
   have hp2:bD (upd (upd (upd H1 r (.lst [.int 1,.int 2,.int 8])) p (.lst [.int a,.int b])) p (.lst [.int a2,.int b2])) p:=⟨_,_,upd_same⟩
   have hl2:upd (upd (upd H1 r (.lst [.int 1,.int 2,.int 8])) p (.lst [.int a,.int b])) p (.lst [.int a2,.int b2]) l=some (.lst (os.map V.str)):=by rw [aE npl.symm,aE npl.symm,aE nlr];exact hl1
   generalize upd (upd (upd H1 r (.lst [.int 1,.int 2,.int 8])) p (.lst [.int a,.int b])) p (.lst [.int a2,.int b2])=H2 at hb2 hp2 hl2 ⊢
   refine eX (DJ p l os i H) ⟨[],o4,rfl,hl2,hb2,hp2,rfl,by simp⟩ ?_ ?_
   ·rintro j σ H3 hj ⟨cs,o4',rfl,hl3,hb3,hp3,hcs,hcw⟩
    refine ⟨_,rfl,_,rfl,p,36,rfl,hp3,by decide,by decide,fun d3 a3 b3 e0 e1=>?_⟩
    obtain ⟨c,hc,hx⟩:=JX (H:=upd H3 p (.lst [.int a3,.int b3])) e0 e1
    refine ⟨_,hx,?_⟩
    refine .inl ⟨.str ⟨(63 :: (cs ++ [c])).toArray⟩,?_,?_⟩
    ·show (if (63 :: cs).toArray.size + 1<=sizeLine then some (V.str _) else none)=_
     rw [if_pos (Nat.le_trans (m:=100) (by simp;omega) (by decide))]
     exact congrArg some (congrArg V.str (congrArg Str.mk (by simp)))
    ·exact ⟨cs ++ [c],_,rfl,by rw [aE npl.symm];exact hl3,hb3.trans (dL.upd _ _ _),⟨_,_,upd_same⟩,by rw [List.length_append,hcs];rfl,fun x hx=>(List.mem_append.mp hx).elim (hcw x) fun h=>by rw [List.mem_singleton.mp h];exact hc⟩
   ·rintro σ H3 ⟨cs,o4',rfl,hl3,hb3,hp3,hcs,hcw⟩
    refine ⟨_,rfl,tyL hl3,_,rfl,l,_,_,rfl,rfl,hl3,Nat.lt_of_le_of_lt (m:=10) (by rw [List.length_map];omega) (by decide),?_⟩
    refine ⟨os ++ [⟨(63 :: cs).toArray⟩],_,_,_,rfl,by rw [upd_same,List.map_append];rfl,?_,hp3.but npl,by rw [List.length_append,hlen];rfl,fun x hx=>(List.mem_append.mp hx).elim (ok x) fun h=>by rw [List.mem_singleton.mp h];exact ⟨cs,rfl,by omega,by omega,hcw⟩⟩
    intro c u hc e
    rw [aE (fun z=>?_)]
    ·exact hb3 c u hc e
    ·subst z;rw [hl] at e;cases e
  ·rintro σ H1 ⟨os,o2,o3,o4,rfl,hl1,hb,hp1,hlen,ok⟩
   exact ⟨_,rfl,q l os H1 npl.symm hb hp1 hl1 hlen ok⟩
end
section
variable {P:Program}{w:World}{K:PySem.W.Frag}{mg:eJ}{base:Heap}
noncomputable def BJ (p t:Addr)(fx:cL)(sm:cQ)(H:Hp):Prop:=∃ (a b:Addr) (fv sv:List V),H t=some (.tup [.ref a,.ref b])/\H a=some (.lst fv)/\H b=some (.lst sv)/\dJ H fx fv/\eY H sm sv/\a≠p/\b≠p
theorem bE.ofBut {p:Addr}{H H':Hp}(h:dL p H H')(hp:bD H p):bE H H':=fun b xs e=>h b _ (fun z=>by obtain ⟨x,y,q⟩:=hp;rw [z,q] at e;cases e) e
theorem BJ.but {p t:Addr}{fx:cL}{sm:cQ}{H H':Hp}(h:BJ p t fx sm H)(hb:dL p H H')(hp:bD H p):BJ p t fx sm H':=by
 obtain ⟨a,b,fv,sv,h1,h2,h3,h4,h5,h6,h7⟩:=h
 exact ⟨a,b,fv,sv,bE.ofBut hb hp _ _ h1,hb _ _ h6 h2,hb _ _ h7 h3,h4.same (bE.ofBut hb hp),h5.same (bE.ofBut hb hp),h6,h7⟩
noncomputable def EU (p o:Addr)(os:aW)(H:Hp):Prop:=H o=some (.lst (os.map V.str))/\o≠p
theorem EU.but {p o:Addr}{os:aW}{H H':Hp}(h:EU p o os H)(hb:dL p H H'):EU p o os H':=⟨hb _ _ h.2 h.1,h.2⟩
noncomputable def nG:Sp:=fun vs H Q _=>∃ (p t o:Addr) (fx:cL) (sm:cQ) (os:aW),vs=[.ref p,.ref t,.ref o]/\bD H p/\BJ p t fx sm H/\EU p o os H/\1<=os.length/\os.length<=10/\fx.length<=12/\(∃ r ∈ fx,r.2=0) /\
 ∀ (x:Str) (H':Hp),dL p H H'->bD H' p->(x ∈ os∨x ∈ zeros fx)->Q (.str x) H'
theorem vY {K0:PySem.W.Frag}{J:It}{a:Addr}{fx:cL}{fv:List V}{H4:Hp}{Qk:VK}(hJ:EZ K0 a fv J H4)(row4:dJ H4 fx fv)(h12:fx.length<=12)(hd:∀ lf,H4 lf=none->Qk (.ref lf) (upd H4 lf (.lst ((zeros fx).map V.str)))) :
  kQ J (gTup K0 2 (gCons (gName 0) (gCons (gName 1) gNil))) (tTest (tOp rEqD (tVar 1) (tC (.int 0)))) (tVar 0) Qk [none,none] H4:=by
 refine dG hJ (LI fx H4) ⟨none,none,rfl,rfl,rfl⟩ (by rintro i acc' σ H' _ ⟨_,_,_,rfl,_⟩;rfl) ?_ ?_
 ·rintro i x acc' σ H' hx ⟨o1,o2,rfl,rfl,rfl⟩
  obtain ⟨r,t,hr,rfl,ht⟩:=row4.get hx
  refine ⟨t,_,rfl,iE.of ht,rfl,_,_,rfl,_,_,rfl,rfl,_,rfl,?_⟩
  dsimp only [tC]
  rw [rEqD_ii]
  refine ⟨_,rfl,?_⟩
  by_cases z:r.2=0
  ·rw [if_pos (by simpa using z)]
   refine ⟨_,rfl,?_,?_⟩
   ·rw [List.length_map]
    have h1:=(fT (fx.take i)).length_le
    rw [List.length_map,List.length_take] at h1
    exact Nat.lt_of_le_of_lt (m:=12) (by omega) (by decide)
   ·exact ⟨_,_,rfl,rfl,by rw [bO hr,gX,if_pos z,List.map_append];rfl⟩
  ·rw [if_neg (by simpa using z)]
   exact ⟨_,_,rfl,rfl,by rw [bO hr,gX,if_neg z,List.append_nil]⟩
 ·rintro acc' σ H' ⟨o1,o2,rfl,rfl,rfl⟩ lf hlf
  rw [List.take_of_length_le (by rw [row4.len];exact Nat.le_refl _)]
  exact hd lf hlf
theorem GJ {f:Addr}{fd:FuncData}(F:gN K "_law_leaf" "_law_leaf" dR f fd)(T:Txt mg)(O__law_take:dQ P w K mg base bP 1 "_law_take" fL):cF P w K mg base bP 2 f fd kL nG:=by
 refine F.ok jI (fun vs H Q E h=>?_) (fun cdv A outer s H vs Q E hr h=>?_)
 ·obtain ⟨p,t,o,fx,sm,os,rfl,_⟩:=h
  rfl
 ·obtain ⟨p,t,o,fx,sm,os,rfl,hp,ht,ho,h1,h2,h3,hz,q⟩:=h
  have hu:=hr.units
  refine ⟨_,(aC (kU (i:=3) jI.nd rfl rfl rfl rfl (bG.by (N:=kO) (names:=(aD dR).names) (N':=["_law_name","_law_parts"]) (src:=[none,none]) (by decide +kernel) rfl rfl) (dM K rfl (bM dF (pv 1) aF (fun _ _=>rfl))) (fun _ _ _ _=>(dD K rfl (i:=0) (j:=1) rfl (show List.Nodup (["_law_name","_law_parts"]:aW) by decide +kernel) rfl rfl rfl rfl)) (fun _ _ _ _=>(kT (aS (eI hu) (pv 1) aF (nomark _)))) (fun _ _ _ _=>(pv 0)))
   (aC (aP (i:=4) jI.nd rfl (Or.inl rfl) (bM dF (cJ (aA (pv 2) (aA (pv 3) aB))) (aO O__law_take (hr.mono (by decide)) pass0 rfl (aA (pv 0) (aA aF aB))) (fun _ _=>rfl)))
   (aH (aR (bM dF (pv 4) (aO O__law_take (hr.mono (by decide)) pass0 rfl (aA (pv 0) (aA (aK bH rfl T.n_len rfl (aA (pv 4) aB)) aB))) (fun _ _=>rfl)))))),?_⟩
  simp only [kO]
  clear hr F T O__law_take hu
  obtain ⟨a,b,fv,sv,t1,t2,t3,t4,t5,t6,t7⟩:=ht
  have keep:=aI q (aI hp (aI ho (aI h1 (aI h2 (aI h3 hz)))))
  clear q hp ho h1 h2 h3 hz
  walk_at "rd"
  obtain ⟨q,hp,ho,h1,h2,h3,hz⟩:=keep
  refine ⟨.ref a,by rw [ixV_t t1];rfl,a,rfl,fv,.inl t2,fun J hJ=>vY hJ t4 h3 fun lf hlf=>⟨by decide,fun r hr=>?_⟩⟩
  have hne:1<=(zeros fx).length:=by
   obtain ⟨y,hy,e⟩:=hz
   exact List.length_pos_of_mem (List.mem_map.mpr ⟨y,List.mem_filter.mpr ⟨hy,by simpa using e⟩,rfl⟩)
  have hle:(zeros fx).length<=12:=by have:=(fT fx).length_le;rw [List.length_map] at this;omega
  have p1:=hp.but (o:=.lst ((zeros fx).map V.str)) (hp.ne hlf)
  have p2:=p1.but (o:=.lst [.ref o,.ref lf]) (p1.ne hr)
  have b2:dL p H (upd (upd H lf (.lst ((zeros fx).map V.str))) r (.lst [.ref o,.ref lf])):=(dL.new hlf).trans (dL.new hr)
  have f2:upd (upd H lf (.lst ((zeros fx).map V.str))) r (.lst [.ref o,.ref lf]) lf=some (.lst ((zeros fx).map V.str)):=by rw [aE (aG upd_same hr)];exact upd_same
  have o2:=(ho.but b2)
  have r2:upd (upd H lf (.lst ((zeros fx).map V.str))) r (.lst [.ref o,.ref lf]) r=some (.lst [.ref o,.ref lf]):=upd_same
  have nr:=(p1.ne hr).symm
  have nl:=(hp.ne hlf).symm
  generalize upd (upd H lf (.lst ((zeros fx).map V.str))) r (.lst [.ref o,.ref lf])=H2 at p2 b2 f2 o2 r2 ⊢
  refine ⟨p,2,rfl,p2,by decide,by decide,fun d x y d0 d1=>?_⟩
  have p3:bD (upd H2 p (.lst [.int x,.int y])) p:=⟨_,_,upd_same⟩
  have b3:=b2.trans (dL.upd p H2 (.lst [.int x,.int y]))
  have f3:upd H2 p (.lst [.int x,.int y]) lf=some (.lst ((zeros fx).map V.str)):=by rw [aE nl];exact f2
  have o3:=o2.but (dL.upd p H2 (.lst [.int x,.int y]))
  have r3:upd H2 p (.lst [.int x,.int y]) r=some (.lst [.ref o,.ref lf]):=by rw [aE nr];exact r2
  generalize upd H2 p (.lst [.int x,.int y])=H3 at p3 b3 f3 o3 r3 ⊢
  have fin:∀ (l:Addr) (ls:aW),H3 l=some (.lst (ls.map V.str))->1<=ls.length->ls.length<=12->l≠p->(∀ z ∈ ls,z ∈ os∨z ∈ zeros fx) ->
    ∃ x,Option.map (fun n=>V.int n) ((lenV H3 (.ref l)).bind fun a=>some (a:Int))=some x/\fL [V.ref p,x] H3 (fun y H2=>∃ v_1,ixV H2 (.ref l) y=some v_1/\Q v_1 H2) E0:=by
   intro l ls hl g1 g2 nlp gin
   refine ⟨.int ls.length,by rw [lenV_l hl];simp,p,ls.length,rfl,p3,by omega,by omega,fun e x4 y4 e0 e1=>?_⟩
   have he:e.toNat < ls.length:=by omega
   refine ⟨.str ls[e.toNat],?_,q _ _ (b3.trans (dL.upd _ _ _)) ⟨_,_,upd_same⟩ (gin _ (List.getElem_mem he))⟩
   rw [ixV_l (xs:=ls.map V.str) (by rw [aE nlp];exact hl),iR e0 (by rw [List.length_map];exact e1),List.getElem?_map,List.getElem?_eq_getElem he]
   rfl
  dsimp only
  have:d=0∨d=1:=by omega
  rcases this with rfl | rfl
  ·exact ⟨.ref o,by rw [ixV_l r3];rfl,fin o os o3.1 h1 (by omega) o3.2 fun z hz=>.inl hz⟩
  ·exact ⟨.ref lf,by rw [ixV_l r3];rfl,fin lf _ f3 hne hle nl fun z hz=>.inr hz⟩
end
section
variable {P:Program}{w:World}{K:PySem.W.Frag}{mg:eJ}{base:Heap}
noncomputable def KR (fx:cL)(sm:cQ)(room:Int)(r:Str×Int):Prop:=(0 < r.2/\r.2<=room/\r ∈ fx)∨(r.2=0/\1 < room/\r.1 ∈ sm.map (·.1))
noncomputable def lW:Sp:=fun vs H Q _=>∃ (p t:Addr) (room:Int) (fx:cL) (sm:cQ),vs=[.ref t,.int room]/\BJ p t fx sm H/\fx.length<=12/\sm.length<=3 /\
 ∀ (l:Addr) (hs:cL) (hv:List V) (H':Hp),aJ H H'->H l=none->H' l=some (.lst hv)->dJ H' hs hv->hs.length<=18->(∀ r ∈ hs,KR fx sm room r)->Q (.ref l) H'
noncomputable def HI (fx:cL)(room:Int)(H:Hp)(i:Nat)(acc:List V)(σ:St)(H1:Hp):Prop:=∃ (o1 o2:Option V) (hs:cL),σ=[o1,o2,some (.int room)]/\aJ H H1/\dJ H1 hs acc/\hs.length<=i/\∀ r ∈ hs,0 < r.2/\r.2<=room/\r ∈ fx
noncomputable def HJ (sm:cQ)(H:Hp)(i:Nat)(acc:List V)(σ:St)(H1:Hp):Prop:=∃ (o1 o2:Option V) (hs:cL),σ=[o1,o2]/\aJ H H1/\dJ H1 hs acc/\hs.length=i/\∀ r ∈ hs,r.2=0/\r.1 ∈ sm.map (·.1)
theorem eY.get {H:Hp}:∀ {l:cQ} {vs:List V} {i:Nat} {v:V},eY H l vs->vs[i]?=some v->∃ r t,l[i]?=some r/\v = .ref t/\H t=some (.tup [.str r.1,.str r.2])
 | [],_,_,_,h,e=>by cases h;simp at e
 | r :: _,_,0,_,⟨t,us,e,h,q⟩,k=>by subst e;simp at k;exact ⟨r,t,rfl,k.symm,h⟩
 | _ :: _,_,i + 1,_,⟨t,us,e,h,q⟩,k=>by subst e;simp at k;obtain ⟨r,t,h1,h2,h3⟩:=eY.get q k;exact ⟨r,t,by simpa using h1,h2,h3⟩
theorem eY.len {H:Hp}:∀ {l:cQ} {vs:List V},eY H l vs->vs.length=l.length
 | [],_,h=>by cases h;rfl
 | _ :: _,_,⟨t,us,e,h,q⟩=>by subst e;simp [eY.len q]
theorem dJ.app {H:Hp}:∀ {l m:cL} {vs us:List V},dJ H l vs->dJ H m us->dJ H (l ++ m) (vs ++ us)
 | [],_,_,_,h,k=>by cases h;exact k
 | _ :: _,_,_,_,⟨t,us,e,h,q⟩,k=>by subst e;exact ⟨t,_,rfl,h,dJ.app q k⟩
theorem DQ {f:Addr}{fd:FuncData}(F:gN K "_law_heads" "_law_heads" cP f fd)(T:Txt mg):cF P w K mg base bP 1 f fd jT lW:=by
 refine F.ok iO (fun vs H Q E h=>?_) (fun cdv A outer s H vs Q E hr h=>?_)
 ·obtain ⟨p,t,room,fx,sm,rfl,_⟩:=h
  rfl
 ·obtain ⟨p,t,room,fx,sm,rfl,ht,h1,h2,q⟩:=h
  have hu:=hr.units
  refine ⟨_,(aC (kU (i:=2) iO.nd rfl rfl rfl rfl (bG.by (N:=gQ) (names:=(aD cP).names) (N':=["_law_name","_law_parts","_law_room"]) (src:=[none,none,some 1]) (by decide +kernel) rfl rfl) (dM K rfl (bM dF (pv 0) aF (fun _ _=>rfl))) (fun _ _ _ _=>(dD K rfl (i:=0) (j:=1) rfl (show List.Nodup (["_law_name","_law_parts","_law_room"]:aW) by decide +kernel) rfl rfl rfl rfl)) (fun _ _ _ _=>(kT (j8 (jM hu) mF aF (pv 1) (pv 2)))) (fun _ _ _ _=>(eB (aA (pv 0) (aA (pv 1) aB)))))
   (aC (bU (aS uZ (pv 1) aF (nomark _)) (aH (aP (i:=2) iO.nd rfl (Or.inl rfl) (bB aY (pv 2) (bB (nO.or nN) (eM rfl (bG.by (N:=gQ) (names:=(aD cP).names) (N':=["_law_name","_law_nought"]) (src:=[none,none]) (by decide +kernel) rfl rfl) (dM K rfl (bM dF (pv 0) aF (fun _ _=>rfl))) (fun _ _ _ _=>(dD K rfl (i:=0) (j:=1) rfl (show List.Nodup (["_law_name","_law_nought"]:aW) by decide +kernel) rfl rfl rfl rfl)) (fun _ _ _ _=>eD) (fun _ _ _ _=>(eB (aA (pv 0) (aA aF aB))))) aF)))) aX)
   (aH (aR (pv 2))))),?_⟩
  simp only [gQ]
  clear hr F T hu
  obtain ⟨a,b,fv,sv,t1,t2,t3,t4,t5,t6,t7⟩:=ht
  have keep:=aI q (aI h1 h2)
  clear q h1 h2
  walk_at "rd"
  obtain ⟨q,h1,h2⟩:=keep
  refine ⟨.ref a,by rw [ixV_t t1];rfl,a,rfl,fv,.inl t2,fun J hJ=>dG hJ (HI fx room H) ⟨none,none,[],rfl,fun _ _ h=>h,rfl,Nat.le_refl _,by simp⟩ ?_ ?_ ?_⟩
  ·rintro i acc σ H' _ ⟨_,_,_,_,s1,_⟩
   rw [s1 _ _ t2,t2]
  ·rintro i x acc σ H1 hx ⟨o1,o2,hs,rfl,s1,row,hl,hin⟩
   obtain ⟨r,t',hr,rfl,ht⟩:=(t4.same (bE.of s1)).get hx
   have hi:i < 12:=by
    have:=(List.getElem?_eq_some_iff.mp hr).1
    omega
   refine ⟨t',_,rfl,iE.of ht,rfl,_,_,rfl,_,_,rfl,rfl,_,rfl,.inl (.inl ⟨0,rfl,r.2,rfl,_,rfl,?_⟩)⟩
   by_cases z:0 < r.2
   ·rw [if_pos (by simpa using z)]
    refine ⟨_,rfl,_,_,rfl,rfl,_,rfl,?_⟩
    dsimp only
    by_cases z2:r.2<=room
    ·rw [if_pos (by simpa using z2)]
     refine ⟨_,rfl,_,rfl,(by show 2<=sizeLine;decide),fun u hu=>⟨Nat.lt_of_le_of_lt (m:=12) (by rw [row.len];omega) (by decide),?_⟩⟩
     have row2:=(row.same (bE.of (aJ.upd (o:=.tup [.str r.1,.int r.2]) hu))).snoc (n:=r.1) (k:=r.2) upd_same
     exact ⟨_,_,hs ++ [(r.1,r.2)],rfl,s1.trans (aJ.upd hu),row2,by rw [List.length_append];simp;omega,fun y hy=>(List.mem_append.mp hy).elim (hin y) fun h=>by rw [List.mem_singleton.mp h];exact ⟨z,z2,List.mem_of_getElem? hr⟩⟩
    ·rw [if_neg (by simpa using z2)]
     exact ⟨_,_,hs,rfl,s1,row,by omega,hin⟩
   ·rw [if_neg (by simpa using z)]
    refine ⟨false,rfl,?_⟩
    dsimp only
    rw [if_neg (by decide)]
    exact ⟨_,_,hs,rfl,s1,row,by omega,hin⟩
  ·rintro acc σ H1 ⟨o1,o2,hs,rfl,s1,row,hl,hin⟩ l hl1
   rw [t4.len] at hl
   have s2:aJ H (upd H1 l (.lst acc)):=s1.trans (aJ.upd hl1)
   have nl:H l=none:=by
    cases e:H l with
    | none=>rfl
    | some o=>have z:=s1 l o e;rw [hl1] at z;cases z
   have row2:=row.same (bE.of (aJ.upd (o:=.lst acc) hl1))
   have l2:upd H1 l (.lst acc) l=some (.lst acc):=upd_same
   generalize upd H1 l (.lst acc)=H2 at s2 row2 l2 ⊢
   by_cases hr:1 < room
   ·rw [if_pos hr]
    refine ⟨.ref b,by rw [ixV_t (s2 _ _ t1)];rfl,b,rfl,sv,.inl (s2 _ _ t3),fun J2 hJ2=>dG hJ2 (HJ sm H2) ⟨none,none,[],rfl,fun _ _ h=>h,rfl,rfl,by simp⟩ ?_ ?_ ?_⟩
    ·rintro i acc σ H' _ ⟨_,_,_,_,s3,_⟩
     rw [s3 _ _ (s2 _ _ t3),s2 _ _ t3]
    ·rintro i x acc2 σ H3 hx ⟨o1,o2,hs2,rfl,s3,row3,hl3,hin3⟩
     obtain ⟨r,t',hr',rfl,ht⟩:=(t5.same (bE.of (s2.trans s3))).get hx
     have hi:=(List.getElem?_eq_some_iff.mp hr').1
     refine ⟨t',_,rfl,iE.of ht,rfl,_,_,rfl,_,_,rfl,rfl,?_⟩
     dsimp only [tYes]
     rw [if_pos rfl]
     refine ⟨_,rfl,(by show 2<=sizeLine;decide),fun u hu=>⟨Nat.lt_of_le_of_lt (m:=12) (by rw [row3.len];omega) (by decide),?_⟩⟩
     have row4:=(row3.same (bE.of (aJ.upd (o:=.tup [.str r.1,.int 0]) hu))).snoc (n:=r.1) (k:=0) upd_same
     exact ⟨_,_,hs2 ++ [(r.1,0)],rfl,s3.trans (aJ.upd hu),row4,by rw [List.length_append,hl3];rfl,fun y hy=>(List.mem_append.mp hy).elim (hin3 y) fun h=>by rw [List.mem_singleton.mp h];exact ⟨rfl,List.mem_map.mpr ⟨r,List.mem_of_getElem? hr',rfl⟩⟩⟩
    ·rintro acc2 σ H3 ⟨o1,o2,hs2,rfl,s3,row3,hl3,hin3⟩ m hm
     rw [t5.len] at hl3
     have s4:=s3.trans (aJ.upd (o:=.lst acc2) hm)
     have row4:=row3.same (bE.of (aJ.upd (o:=.lst acc2) hm))
     have m4:upd H3 m (.lst acc2) m=some (.lst acc2):=upd_same
     generalize upd H3 m (.lst acc2)=H4 at s4 row4 m4 ⊢
     refine .inr ⟨m,rfl,acc2,m4,by decide,by decide,Nat.le_trans (m:=100) (by rw [row4.len];show _ * 2<=_;omega) (by decide),fun u hu=>?_⟩
     have e2:(List.replicate (Int.toNat 2) acc2).flatten=acc2 ++ acc2:=by show acc2 ++ (acc2 ++ [])=_;rw [List.append_nil]
     rw [e2]
     have l5:upd H4 u (.lst (acc2 ++ acc2)) l=some (.lst acc):=by rw [aE (aG (s4 _ _ l2) hu)];exact s4 _ _ l2
     have s5:=s4.trans (aJ.upd (o:=.lst (acc2 ++ acc2)) hu)
     have row5:=row4.same (bE.of (aJ.upd (o:=.lst (acc2 ++ acc2)) hu))
     have u5:upd H4 u (.lst (acc2 ++ acc2)) u=some (.lst (acc2 ++ acc2)):=upd_same
     generalize upd H4 u (.lst (acc2 ++ acc2))=H5 at l5 s5 row5 u5 ⊢
     refine ⟨.lst (acc ++ (acc2 ++ acc2)),?_,fun v hv=>?_⟩
     ·simp only [catO,l5,u5]
      exact if_pos (Nat.le_trans (m:=100) (by rw [List.length_append,row5.len,(row2.same (bE.of s5)).len];omega) (by decide))
     ·have s6:=(s2.trans s5).trans (aJ.upd (o:=.lst (acc ++ (acc2 ++ acc2))) hv)
      have row6:=((row2.same (bE.of s5)).app (row5.app row5)).same (bE.of (aJ.upd (o:=.lst (acc ++ (acc2 ++ acc2))) hv))
      refine q v _ _ _ s6 ?_ upd_same row6 (by simp only [List.length_append];omega) fun y hy=>?_
      ·cases e:H v with
       | none=>rfl
       | some o=>have z:=(s2.trans s5) v o e;rw [hv] at z;cases z
      ·obtain h | h:=List.mem_append.mp hy
       ·exact .inl (hin y h)
       ·have:=(List.mem_append.mp h).elim (hin3 y) (hin3 y)
        exact .inr ⟨this.1,hr,this.2⟩
   ·rw [if_neg hr]
    exact q l hs acc H2 s2 nl l2 row2 (by omega) fun y hy=>.inl (hin y hy)
end
section
variable {P:Program}{w:World}{K:PySem.W.Frag}{mg:eJ}{base:Heap}
noncomputable def n8 (fx:cL)(sm:cQ)(n:Str)(k:Nat):Prop:=(0 < k/\(n,(k:Int)) ∈ fx)∨(2<=k/\n ∈ sm.map (·.1))
mutual
noncomputable def cT (fx:cL)(sm:cQ)(os:aW):D->Prop
 | .str x=>x ∈ os∨x ∈ zeros fx
 | .tup (.str n :: ds)=>n8 fx sm n ds.length/\IsTms fx sm os ds
 | .lst (.str n :: ds)=>n8 fx sm n ds.length/\IsTms fx sm os ds
 | _=>False
noncomputable def IsTms (fx:cL)(sm:cQ)(os:aW):List D->Prop
 | []=>True
 | d :: ds=>cT fx sm os d/\IsTms fx sm os ds
end
mutual
noncomputable def lvs:D->Nat
 | .tup (_ :: ds)=>lvss ds
 | .lst (_ :: ds)=>lvss ds
 | _=>1
noncomputable def lvss:List D->Nat
 | []=>0
 | d :: ds=>lvs d + lvss ds
end
theorem IsTms.snoc {fx:cL}{sm:cQ}{os:aW}{d:D}(h:cT fx sm os d):∀ {ds:List D},IsTms fx sm os ds->IsTms fx sm os (ds ++ [d])
 | [],_=>⟨h,trivial⟩
 | _ :: _,⟨a,b⟩=>⟨a,IsTms.snoc h b⟩
theorem rF (d:D):∀ ds:List D,lvss (ds ++ [d])=lvss ds + lvs d
 | []=>by simp [lvss]
 | e :: ds=>by rw [List.cons_append,lvss,rF d ds,lvss];omega
theorem fX (d:D):∀ ds:List D,depDs (ds ++ [d])=max (depDs ds) (depD d)
 | []=>Nat.max_comm _ _
 | e :: ds=>by rw [List.cons_append,depDs,fX d ds,depDs,Nat.max_assoc]
theorem Reps.snoc {H:Hp}{d:D}{v:V}(h:cD H d v):∀ {ds:List D} {vs:List V},Reps H ds vs->Reps H (ds ++ [d]) (vs ++ [v])
 | [],_,e=>by cases e;exact ⟨v,[],rfl,h,rfl⟩
 | _ :: _,_,⟨x,r,e,a,b⟩=>by subst e;exact ⟨x,r ++ [v],rfl,a,Reps.snoc h b⟩
theorem Reps.len {H:Hp}:∀ {ds:List D} {vs:List V},Reps H ds vs->vs.length=ds.length
 | [],_,e=>by cases e;rfl
 | _ :: _,_,⟨x,r,e,a,b⟩=>by subst e;simp [Reps.len b]
noncomputable def nw (H H':Hp):Hp:=fun a=>if H a=none then H' a else none
noncomputable def nwB (r:Addr)(H H':Hp):Hp:=fun a=>if H a=none/\a≠r then H' a else none
theorem pV {H H':Hp}{a:Addr}{o:HO}:nw H H' a=some o ↔ H a=none/\H' a=some o:=by
 unfold nw
 by_cases h:H a=none
 ·rw [if_pos h];exact ⟨fun e=>⟨h,e⟩,fun e=>e.2⟩
 ·rw [if_neg h];exact ⟨fun e=>(by cases e),fun e=>absurd e.1 h⟩
theorem pA {r:Addr}{H H':Hp}{a:Addr}{o:HO}:nwB r H H' a=some o ↔ (H a=none/\a≠r)/\H' a=some o:=by
 unfold nwB
 by_cases h:H a=none/\a≠r
 ·rw [if_pos h];exact ⟨fun e=>⟨h,e⟩,fun e=>e.2⟩
 ·rw [if_neg h];exact ⟨fun e=>(by cases e),fun e=>absurd e.1 h⟩
noncomputable def lK (p t o:Addr)(fx:cL)(sm:cQ)(os:aW)(H:Hp):Prop:=bD H p/\BJ p t fx sm H/\EU p o os H/\bC fx sm/\1<=os.length/\os.length<=10
theorem lK.but {p t o:Addr}{fx:cL}{sm:cQ}{os:aW}{H H':Hp}(h:lK p t o fx sm os H)(hb:dL p H H')(hp:bD H' p):lK p t o fx sm os H' :=
 ⟨hp,h.2.1.but hb h.1,h.2.2.1.but hb,h.2.2.2⟩
noncomputable def lD (n:Nat):Sp:=fun vs H Q _=>∃ (p t o:Addr) (fx:cL) (sm:cQ) (os:aW) (room deep:Nat),vs=[.ref p,.ref t,.ref o,.int room,.int deep]/\lK p t o fx sm os H/\1<=room/\room<=64/\deep<=n /\
 ∀ (d:D) (v:V) (H':Hp),dL p H H'->bD H' p->cD (nw H H') d v->cT fx sm os d->lvs d<=room->depD d<=deep->Q v H'
theorem kS {H:Hp}:∀ {hs:cL} {hv:List V},dJ H hs hv->Reps H (hs.map fun r=>D.tup [.str r.1,.int r.2]) hv
 | [],_,e=>e
 | r :: _,_,⟨t,us,e,h,q⟩=>⟨.ref t,us,e,⟨t,_,rfl,h,_,_,rfl,rfl,_,_,rfl,rfl,rfl⟩,kS q⟩
theorem mM:∀ hs:cL,depDs (hs.map fun r=>D.tup [.str r.1,.int r.2])<=1
 | []=>Nat.zero_le _
 | r :: hs=>by
  have:=mM hs
  rw [List.map_cons,depDs]
  show max 1 _<=1
  omega
noncomputable def TI (p t o l rw:Addr)(room deep parts:Nat)(nm:Str)(fx:cL)(sm:cQ)(os:aW)(H:Hp)(i:Nat)(σ:St)(H1:Hp):Prop :=
 ∃ (left:Nat) (ds:List D) (vs:List V) (o10 o11:Option V),σ=[some (.ref p),some (.ref t),some (.ref o),some (.int room),some (.int deep),some (.ref l),some (.str nm),some (.int parts),some (.int left),some (.ref rw),o10,o11] /\
  dL p H H1/\bD H1 p/\H1 rw=some (.lst (.str nm :: vs))/\Reps (nwB rw H H1) ds vs/\ds.length=i/\IsTms fx sm os ds/\lvss ds + left + (parts - i)<=room/\depDs ds + 1<=deep
theorem qY {K0:PySem.W.Frag}{Q:VK}{H H5:Hp}{p t o l rw:Addr}{fx:cL}{sm:cQ}{os:aW}{room deep parts n:Nat}{nm:Str}(hin:lK p t o fx sm os H)(dn:deep<=n)(d1:1<=deep)(r2:room<=64)(hpr:parts<=room)(hh:n8 fx sm nm parts)
  (b5:dL p H H5) (p5:bD H5 p) (nr:H rw=none) (r5:H5 rw=some (.lst [.str nm]))
  (q:∀ (d:D) (v:V) (H':Hp),dL p H H'->bD H' p->cD (nw H H') d v->cT fx sm os d->lvs d<=room->depD d<=deep->Q v H') :
  x9 (BR 0 parts) (gName 10) (tSeq (tAsg (tCall fL [] E0 (tCons (tVar 0) (tCons (tOp rAddF (tVar 8) (tC (V.int 1))) tNil))) (gName 11)) (tSeq (tAsg (tOp (rI0 fun i j=>V.int (i - j)) (tVar 8) (tVar 11)) (gName 8))
   (tDrop (tBM K0 "list" rAppend (tVar 9) (tCons (tCall (fun vs H Q E=>∃ m,m < n/\lD m vs H Q E) [] E0 (tCons (tVar 0) (tCons (tVar 1) (tCons (tVar 2) (tCons (tOp rAddF (tC (V.int 1)) (tVar 11)) (tCons (tOp (rI0 fun i j=>V.int (i - j)) (tVar 4) (tC (V.int 1))) tNil)))))) tNil)))))
   { nx:=tRet (tOp (fun x y H Q=>∃ v,ixV H x y=some v/\Q v H) (tLst (tCons (tVar 9) (tCons (tCB rTupU (tCons (tVar 9) tNil)) tNil))) (tCall fL [] E0 (tCons (tVar 0) (tCons (tC (V.int 2)) tNil)))) { nx:=fun x H'=>Q V.non H',rt:=Q },rt:=Q }
   [some (.ref p),some (.ref t),some (.ref o),some (.int room),some (.int deep),some (.ref l),some (.str nm),some (.int parts),some (.int ((room:Int) - (parts:Int))),some (.ref rw),none,none] H5:=by
 have nrp:rw≠p:=fun z=>by obtain ⟨x,y,e⟩:=hin.1;rw [← z,nr] at e;cases e
 have hp0:H p≠none:=fun z=>by obtain ⟨x,y,e⟩:=hin.1;rw [z] at e;cases e
 refine eX (TI p t o l rw room deep parts nm fx sm os H) ⟨room - parts,[],[],none,none,by rw [Int.ofNat_sub hpr],b5,p5,r5,rfl,rfl,trivial,by show 0 + (room - parts) + (parts - 0)<=room;omega,d1⟩ ?_ ?_
 ·rintro i σ H1 hi ⟨left,ds,vs,o10,o11,rfl,b1,p1,r1,rp,hl,tm,lv,dp⟩
  refine ⟨_,rfl,_,rfl,.inl ⟨.int (left + 1),rfl,p,left + 1,rfl,p1,by omega,by omega,fun more x y m0 m1=>?_⟩⟩
  obtain ⟨k,rfl⟩:∃ k:Nat,more=(k:Int):=⟨more.toNat,by omega⟩
  have b2:=b1.trans (dL.upd p H1 (.lst [.int x,.int y]))
  have p2:bD (upd H1 p (.lst [.int x,.int y])) p:=⟨_,_,upd_same⟩
  have r2':upd H1 p (.lst [.int x,.int y]) rw=some (.lst (.str nm :: vs)):=by rw [aE nrp];exact r1
  have s2:∀ a,a≠p->upd H1 p (.lst [.int x,.int y]) a=H1 a:=fun a ha=>aE ha
  generalize upd H1 p (.lst [.int x,.int y])=H2 at b2 p2 r2' s2 ⊢
  refine ⟨_,rfl,_,rfl,_,_,rfl,rfl,?_⟩
  have e1:(1:Int) + (k:Int)=((1 + k:Nat):Int):=by omega
  have e2:(deep:Int) - 1=((deep - 1:Nat):Int):=by omega
  refine ⟨_,rfl,.inl ⟨rfl,_,fH.of r2'⟩,_,rfl,_,rfl,_,rfl,_,rfl,.inl ⟨_,rfl,_,rfl,_,_,rfl,rfl,deep - 1,by omega,p,t,o,fx,sm,os,1 + k,deep - 1,(by rw [← e1,← e2];rfl),hin.but b2 p2,by omega,by omega,Nat.le_refl _,fun d v H3 b3 p3 rep3 tm3 lv3 dp3=>?_⟩⟩
  have r3:=b3 rw _ nrp r2'
  have old:∀ a,H2 a=none->H a=none:=fun a ha=>by
   cases e:H a with
   | none=>rfl
   | some u =>
    by_cases z:a=p
    ·obtain ⟨x,y,e'⟩:=p2;rw [z,e'] at ha;cases ha
    ·have:=b2 a u z e;rw [ha] at this;cases this
  refine ⟨rw,_,v,rfl,rfl,r3,Nat.lt_of_le_of_lt (m:=100) (by simp only [List.length_cons];rw [Reps.len rp];omega) (by decide),?_⟩
  refine ⟨left - k,ds ++ [d],vs ++ [v],some (.int (0 + i)),some (.int k),?_,xT (b2.trans b3) nr,p3.but nrp.symm,by rw [upd_same];rfl,?_,by rw [List.length_append,hl];rfl,tm.snoc tm3,?_,?_⟩
  ·rw [Int.ofNat_sub (by omega)];rfl
  ·refine Reps.snoc (cD.same ?_ rep3) (Reps.same ?_ rp)
   ·intro a u e
    obtain ⟨g1,g2⟩:=pV.mp e
    have nar:a≠rw:=fun z=>by rw [z,r2'] at g1;cases g1
    exact pA.mpr ⟨⟨old a g1,nar⟩,by rw [aE nar];exact g2⟩
   ·intro a u e
    obtain ⟨⟨g1,g2⟩,g3⟩:=pA.mp e
    have nap:a≠p:=fun z=>hp0 (by rw [← z];exact g1)
    exact pA.mpr ⟨⟨g1,g2⟩,by rw [aE g2];exact b3 a u nap (by rw [s2 a nap];exact g3)⟩
  ·rw [rF];omega
  ·rw [fX];omega
 ·rintro σ H1 ⟨left,ds,vs,o10,o11,rfl,b1,p1,r1,rp,hl,tm,lv,dp⟩
  refine ⟨_,rfl,_,rfl,rw,_,rfl,.inl r1,fun tp H2 hc=>?_⟩
  rcases hc with ⟨z,_⟩ | ⟨_,ht,rfl⟩
  ·rw [r1] at z;cases z
  refine ⟨(by show 2<=sizeLine;decide),fun u hu=>⟨_,rfl,p,2,rfl,(p1.but (p1.ne ht)).but ((p1.but (p1.ne ht)).ne hu),by decide,by decide,fun d x y d0 d2=>?_⟩⟩
  have s2:aJ H1 (upd (upd H1 tp (.tup (.str nm :: vs))) u (.lst [.ref rw,.ref tp])):=(aJ.upd ht).trans (aJ.upd hu)
  have t2:upd (upd H1 tp (.tup (.str nm :: vs))) u (.lst [.ref rw,.ref tp]) tp=some (.tup (.str nm :: vs)):=by rw [aE (aG upd_same hu)];exact upd_same
  have u2:upd (upd H1 tp (.tup (.str nm :: vs))) u (.lst [.ref rw,.ref tp]) u=some (.lst [.ref rw,.ref tp]):=upd_same
  have nup:u≠p:=((p1.but (o:=.tup (.str nm :: vs)) (p1.ne ht)).ne hu).symm
  have ntp:tp≠p:=(p1.ne ht).symm
  generalize upd (upd H1 tp (.tup (.str nm :: vs))) u (.lst [.ref rw,.ref tp])=H2 at s2 t2 u2 ⊢
  have b3:dL p H (upd H2 p (.lst [.int x,.int y])):=(b1.trans s2.but).trans (dL.upd _ _ _)
  have r3:upd H2 p (.lst [.int x,.int y]) rw=some (.lst (.str nm :: vs)):=by rw [aE nrp];exact s2 _ _ r1
  have t3:upd H2 p (.lst [.int x,.int y]) tp=some (.tup (.str nm :: vs)):=by rw [aE ntp];exact t2
  have u3:upd H2 p (.lst [.int x,.int y]) u=some (.lst [.ref rw,.ref tp]):=by rw [aE nup];exact u2
  have nt:H tp=none:=by
   cases e:H tp with
   | none=>rfl
   | some w=>have:=b1 tp w ntp e;rw [ht] at this;cases this
  have rp3:Reps (nw H (upd H2 p (.lst [.int x,.int y]))) (.str nm :: ds) (.str nm :: vs):=by
   refine ⟨_,_,rfl,rfl,Reps.same (fun a w e=>?_) rp⟩
   obtain ⟨⟨g1,g2⟩,g3⟩:=pA.mp e
   exact pV.mpr ⟨g1,by rw [aE (fun z=>hp0 (by rw [← z];exact g1))];exact s2 _ _ g3⟩
  have dd:depDs (.str nm :: ds) + 1<=deep:=by
   rw [depDs,show depD (.str nm)=0 from rfl];omega
  have ll:lvss ds<=room:=by omega
  dsimp only
  have:d=0∨d=1:=by omega
  rcases this with rfl | rfl
  ·refine ⟨.ref rw,by rw [ixV_l u3];rfl,q (.lst (.str nm :: ds)) _ _ b3 ⟨_,_,upd_same⟩ ⟨rw,_,rfl,pV.mpr ⟨nr,r3⟩,rp3⟩ ?_ (by rw [lvs];exact ll) (by rw [depD];exact dd)⟩
   unfold cT;exact ⟨by rw [hl];exact hh,tm⟩
  ·refine ⟨.ref tp,by rw [ixV_l u3];rfl,q (.tup (.str nm :: ds)) _ _ b3 ⟨_,_,upd_same⟩ ⟨tp,_,rfl,pV.mpr ⟨nt,t3⟩,rp3⟩ ?_ (by rw [lvs];exact ll) (by rw [depD];exact dd)⟩
   unfold cT;exact ⟨by rw [hl];exact hh,tm⟩
theorem GE {f:Addr}{fd:FuncData}(n:Nat)(F:gN K "_law_term" "_law_term" dA f fd)(T:Txt mg)(O__law_take:dQ P w K mg base bP 1 "_law_take" fL)(O__law_leaf:dQ P w K mg base bP 2 "_law_leaf" nG)(O__law_heads:dQ P w K mg base bP 1 "_law_heads" lW)
  (O__law_term:dQ P w K mg base bP (n + 3) "_law_term" (fun vs H Q E=>∃ m,m < n/\lD m vs H Q E)):cF P w K mg base bP (n + 4) f fd fI (lD n):=by
 refine F.ok cM (fun vs H Q E h=>?_) (fun cdv A outer s H vs Q E hr h=>?_)
 ·obtain ⟨p,t,o,fx,sm,os,room,deep,rfl,_⟩:=h
  rfl
 ·obtain ⟨p,t,o,fx,sm,os,room,deep,rfl,hin,r1,r2,dn,q⟩:=h
  have hu:=hr.units
  refine ⟨_,(aC (aP (i:=5) cM.nd rfl (Or.inl rfl) (aO O__law_heads (hr.mono (by omega)) pass0 rfl (aA (pv 1) (aA (pv 3) aB))))
   (aC (bU (PW.pt (iK (aS (eI hu) (pv 4) aF (nomark _)) (iK (aS (eI hu) (pv 5) (cJ aB) (nomark _)) (g9 (aS (eI hu) (aO O__law_take (hr.mono (by omega)) pass0 rfl (aA (pv 0) (aA aF aB))) aF (nomark _)))))) (aH (aR (aO O__law_leaf (hr.mono (by omega)) pass0 rfl (aA (pv 0) (aA (pv 1) (aA (pv 2) aB)))))) aX)
   (aC (nK (bM dF (pv 5) (aO O__law_take (hr.mono (by omega)) pass0 rfl (aA (pv 0) (aA (aK bH rfl T.n_len rfl (aA (pv 5) aB)) aB))) (fun _ _=>rfl)) (dD K rfl (i:=6) (j:=7) rfl cM.nd rfl rfl rfl rfl))
   (aC (bU (aS (eI hu) (pv 7) aF (nomark _)) (aH (aP (i:=7) cM.nd rfl (Or.inl rfl) (bB aY aF (aO O__law_take (hr.mono (by omega)) pass0 rfl (aA (pv 0) (aA (aK (rW rfl) rfl T.n_min rfl (aA aF (aA (bB lG (pv 3) aF) aB))) aB)))))) aX)
   (aC (aP (i:=8) cM.nd rfl (Or.inl rfl) (bB lG (pv 3) (pv 7)))
   (aC (aP (i:=9) cM.nd rfl (Or.inl rfl) (cJ (aA (pv 6) aB)))
   (aC (fW PassesOwn.never rfl (fC rfl T.n_range (aA (pv 7) aB)) (bN (i:=10) cM.nd rfl (Or.inl rfl)) (aC (aP (i:=11) cM.nd rfl (Or.inl rfl) (aO O__law_take (hr.mono (by omega)) pass0 rfl (aA (pv 0) (aA (bB aY (pv 8) aF) aB))))
   (aC (aP (i:=8) cM.nd rfl (Or.inl rfl) (bB lG (pv 8) (pv 11)))
   (aH (eL (j9 PySem.F.plainAttrs_list PySem.F.slot_list_append PySem.F.type_list_append fE (pv 9) (aA (aO O__law_term (hr.mono (by omega)) pass0 rfl (aA (pv 0) (aA (pv 1) (aA (pv 2) (aA (bB aY aF (pv 11)) (aA (bB lG (pv 4) aF) aB)))))) aB)))))))
   (aH (aR (bM dF (cJ (aA (pv 9) (aA (d9 iM rfl T.n_tuple rfl (aA (pv 9) aB)) aB))) (aO O__law_take (hr.mono (by omega)) pass0 rfl (aA (pv 0) (aA aF aB))) (fun _ _=>rfl))))))))))),?_⟩
  simp only [oJ]
  clear hr F T hu O__law_take O__law_leaf O__law_heads O__law_term
  have keep:=aI q (aI hin (aI r1 (aI r2 dn)))
  clear q hin r1 r2 dn
  walk_at "rd"
  obtain ⟨q,hin,r1,r2,dn⟩:=keep
  have leaf:∀ H1,dL p H H1->bD H1 p->nG [.ref p,.ref t,.ref o] H1 Q E0:=fun H1 b1 p1=>by
   have i1:=hin.but b1 p1
   exact ⟨p,t,o,fx,sm,os,rfl,p1,i1.2.1,i1.2.2.1,i1.2.2.2.2.1,i1.2.2.2.2.2,hin.2.2.2.1.f2,hin.2.2.2.1.bare,fun x H' b2 p2 hx=>q (.str x) (.str x) H' (b1.trans b2) p2 rfl (by unfold cT;exact hx) r1 (Nat.zero_le _)⟩
  refine ⟨p,t,room,fx,sm,rfl,hin.2.1,hin.2.2.2.1.f2,hin.2.2.2.1.s2,fun l hs hv H1 s1 nl l1 row hl hok=>?_⟩
  have b1:dL p H H1:=s1.but
  have p1:bD H1 p:=by obtain ⟨x,y,e⟩:=hin.1;exact ⟨x,y,s1 _ _ e⟩
  have nlp:l≠p:=fun z=>by obtain ⟨x,y,e⟩:=hin.1;rw [← z,nl] at e;cases e
  dsimp only
  by_cases hd0:(deep:Int)=0
  ·rw [if_pos hd0];exact leaf H1 b1 p1
  rw [if_neg hd0]
  refine ⟨Nat.zero_le _,fun u hu=>?_⟩
  have b2:=b1.trans (dL.new (p:=p) (o:=.lst []) hu)
  have p2:=p1.but (o:=.lst []) (p1.ne hu)
  have l2:upd H1 u (.lst []) l=some (.lst hv):=by rw [aE (aG l1 hu)];exact l1
  have row2:=row.same (bE.of (aJ.upd (o:=.lst []) hu))
  have u2:upd H1 u (.lst []) u=some (.lst []):=upd_same
  generalize upd H1 u (.lst [])=H2 at b2 p2 l2 row2 u2 ⊢
  refine ⟨.lst (hs.map fun r=>D.tup [.str r.1,.int r.2]),.lst [],⟨l,hv,rfl,l2,kS row2⟩,⟨u,[],rfl,u2,rfl⟩,?_,_,rfl,?_⟩
  ·have:=mM hs
   rw [depD];omega
  by_cases he:hs=[]
  ·subst he
   rw [if_pos (by rfl)];exact leaf H2 b2 p2
  rw [if_neg (by cases hs with | nil=>exact absurd rfl he | cons a b=>exact Bool.false_ne_true)]
  refine ⟨p,7,rfl,p2,by decide,by decide,fun d x y d0 d1=>?_⟩
  have b3:=b2.trans (dL.upd p H2 (.lst [.int x,.int y]))
  have p3:bD (upd H2 p (.lst [.int x,.int y])) p:=⟨_,_,upd_same⟩
  have l3:upd H2 p (.lst [.int x,.int y]) l=some (.lst hv):=by rw [aE nlp];exact l2
  have row3:=row2.same (bE.pot (o:=.lst [.int x,.int y]) p2)
  generalize upd H2 p (.lst [.int x,.int y])=H3 at b3 p3 l3 row3 ⊢
  dsimp only
  rw [rEqD_ii]
  refine ⟨_,rfl,?_⟩
  by_cases hd:d=0
  ·rw [if_pos (by simpa using hd)];exact leaf H3 b3 p3
  rw [if_neg (by simpa using hd)]
  have hn:1<=hs.length:=by cases hs with | nil=>exact absurd rfl he | cons a b=>simp
  refine ⟨.int hs.length,by rw [lenV_l l3,row3.len];rfl,p,hs.length,rfl,p3,by omega,by omega,fun e x4 y4 e0 e1=>?_⟩
  have b4:=b3.trans (dL.upd p H3 (.lst [.int x4,.int y4]))
  have p4:bD (upd H3 p (.lst [.int x4,.int y4])) p:=⟨_,_,upd_same⟩
  have l4:upd H3 p (.lst [.int x4,.int y4]) l=some (.lst hv):=by rw [aE nlp];exact l3
  have row4:=row3.same (bE.pot (o:=.lst [.int x4,.int y4]) p3)
  generalize upd H3 p (.lst [.int x4,.int y4])=H4 at b4 p4 l4 row4 ⊢
  have hle:e.toNat < hv.length:=by rw [row4.len];omega
  obtain ⟨r,tt,hr,hv',ht⟩:=row4.get (List.getElem?_eq_getElem hle)
  have hok':=hok r (List.mem_of_getElem? hr)
  refine ⟨.ref tt,by rw [ixV_l l4,iR e0 (by omega),List.getElem?_eq_getElem hle,hv'],tt,rfl,_,iE.of ht,rfl,_,_,rfl,_,_,rfl,rfl,?_⟩
  rw [rEqD_ii]
  refine ⟨_,rfl,?_⟩
  by_cases hz:r.2=0
  ·rw [if_pos (by simpa using hz)]
   have h0:1 < (room:Int)/\r.1 ∈ sm.map (·.1):=by
    rcases hok' with ⟨a,_,_⟩ | ⟨_,b,c⟩
    ·omega
    ·exact ⟨b,c⟩
   refine ⟨4,(room:Int) - 1,⟨rfl,rfl⟩,p,_,rfl,p4,by split <;> omega,by split <;> omega,fun g x5 y5 g0 g1=>⟨.int (2 + g),rfl,2 + g,rfl,by decide,fun u5 hu5=>⟨2 + g,rfl,by split at g1 <;> omega,by split at g1 <;> omega,?_⟩⟩⟩
   obtain ⟨k,hk⟩:∃ k:Nat,2 + g=(k:Int):=⟨(2 + g).toNat,by omega⟩
   have hk2:2<=k/\k<=room:=by split at g1 <;> omega
   rw [hk,Int.toNat_natCast]
   have b5:=(b4.trans (dL.upd p H4 (.lst [.int x5,.int y5]))).trans (dL.new (o:=.lst [.str r.1]) hu5)
   have p5:bD (upd H4 p (.lst [.int x5,.int y5])) p:=⟨_,_,upd_same⟩
   refine qY hin dn (by omega) r2 hk2.2 (.inr ⟨hk2.1,h0.2⟩) b5 (p5.but (p5.ne hu5)) ?_ upd_same q
   cases e:H u5 with
   | none=>rfl
   | some w=>have:=(b4.trans (dL.upd p H4 (.lst [.int x5,.int y5]))) u5 w (p5.ne hu5).symm e;rw [hu5] at this;cases this
  ·rw [if_neg (by simpa using hz)]
   have h0:0 < r.2/\r.2<=(room:Int)/\r ∈ fx:=by
    rcases hok' with h | ⟨h,_⟩
    ·exact h
    ·exact absurd h hz
   refine ⟨r.2,rfl,by decide,fun u5 hu5=>⟨r.2,rfl,by omega,by omega,?_⟩⟩
   obtain ⟨k,hk⟩:∃ k:Nat,r.2=(k:Int):=⟨r.2.toNat,by omega⟩
   have hm:(r.1,(k:Int)) ∈ fx:=by rw [← hk];exact h0.2.2
   rw [hk,Int.toNat_natCast]
   have b5:=b4.trans (dL.new (p:=p) (o:=.lst [.str r.1]) hu5)
   refine qY hin dn (by omega) r2 (by omega) (.inl ⟨by omega,hm⟩) b5 (p4.but (p4.ne hu5)) ?_ upd_same q
   cases e:H u5 with
   | none=>rfl
   | some w=>have:=b4 u5 w (p4.ne hu5).symm e;rw [hu5] at this;cases this
theorem GY {f:Addr}{fd:FuncData}(F:gN K "_law_term" "_law_term" dA f fd)(T:Txt mg)(O__law_take:dQ P w K mg base bP 1 "_law_take" fL)(O__law_leaf:dQ P w K mg base bP 2 "_law_leaf" nG)(O__law_heads:dQ P w K mg base bP 1 "_law_heads" lW)
  (hm:mg "_law_term" = some (.ref f)) (hk:PySem.W.keepIn K (.ref f)=true) (hb:fK K fd fI []):∀ n,cF P w K mg base bP (n + 4) f fd fI (lD n):=by
 intro n
 induction n using Nat.strongRecOn with
 | ind n ih =>
  exact GE n F T O__law_take O__law_leaf O__law_heads ⟨f,fd,_,⟨fun vs H Q E ⟨m,h1,h⟩=>(ih m h1).len vs H Q E h,fun A outer s H args us vs Q E hr he hb hv ⟨m,h1,h⟩=>((ih m h1).mono (by omega)).run A outer s H args us vs Q E hr he hb hv h⟩,hm,hk,hb⟩
theorem DB {f:Addr}{fd:FuncData}(F:gN K "_law_term" "_law_term" dA f fd)(T:Txt mg)(O__law_take:dQ P w K mg base bP 1 "_law_take" fL)(O__law_leaf:dQ P w K mg base bP 2 "_law_leaf" nG)(O__law_heads:dQ P w K mg base bP 1 "_law_heads" lW)
  (hm:mg "_law_term" = some (.ref f)) (hk:PySem.W.keepIn K (.ref f)=true) (hb:fK K fd fI []) (n:Nat):dQ P w K mg base bP (n + 4) "_law_term" (lD n):=⟨f,fd,_,GY F T O__law_take O__law_leaf O__law_heads hm hk hb n,hm,hk,hb⟩
end
noncomputable abbrev M:=Nat×Str×Nat
noncomputable def sL (x y:Str):Bool:=decide (x.cps.toList < y.cps.toList)
noncomputable def sortS (x:Str):Nat:=if x.cps.toList[0]?=some 63 then 0 else 1
mutual
noncomputable def key:D->List M
 | .str x=>[(sortS x,x,0)]
 | .tup (.str n :: ds)=>(2,n,ds.length + 1) :: keys ds
 | _=>[]
noncomputable def keys:List D->List M
 | []=>[]
 | d :: ds=>key d ++ keys ds
end
noncomputable def sortD:D->Nat
 | .str x=>sortS x
 | _=>2
mutual
/-- part by part -/
noncomputable def ah:D->D->Bool
 | .str x,.str y=>if sortS x=sortS y then sL x y else decide (sortS x < sortS y)
 | .tup (.str n :: ds),.tup (.str m :: es)=>if n=m then (if ds.length=es.length then ahs ds es else decide (ds.length < es.length)) else sL n m
 | d,e=>decide (sortD d < sortD e)
noncomputable def ahs:List D->List D->Bool
 | d :: ds,e :: es=>if eqD d e=true then ahs ds es else ah d e
 | _,_=>false
end
section
variable {P:Program}{w:World}{K:PySem.W.Frag}{mg:eJ}{base:Heap}
theorem Reps.get {H:Hp}:∀ {ds:List D} {vs:List V} {i:Nat} {v:V},Reps H ds vs->vs[i]?=some v->∃ d,ds[i]?=some d/\cD H d v
 | [],_,_,_,e,h=>by cases e;simp at h
 | d :: _,_,0,_,⟨x,r,e,a,b⟩,h=>by subst e;simp at h;subst h;exact ⟨d,rfl,a⟩
 | _ :: _,_,i + 1,_,⟨x,r,e,a,b⟩,h=>by subst e;simp at h;obtain ⟨d,h1,h2⟩:=Reps.get b h;exact ⟨d,by simpa using h1,h2⟩
theorem mO:∀ {ds:List D} {i:Nat} {d:D},ds[i]?=some d->depD d<=depDs ds
 | [],_,_,h=>by simp at h
 | e :: ds,0,_,h=>by simp at h;subst h;rw [depDs];omega
 | e :: ds,i + 1,_,h=>by have:=mO (ds:=ds) (i:=i) (by simpa using h);rw [depDs];omega
end
section
variable {P:Program}{w:World}{K:PySem.W.Frag}{mg:eJ}{base:Heap}
noncomputable def opn1 (n z:Str)(d:D):List D:=match d with
 | .tup (.str m :: es)=>if m=n then es else [d]
 | d=>if eqD d (.str z)=true then [] else [d]
noncomputable def opn (n z:Str)(ds:List D):List D:=ds.flatMap (opn1 n z)
end
section
variable {P:Program}{w:World}{K:PySem.W.Frag}{mg:eJ}{base:Heap}
theorem IS {fx:cL}{sm:cQ}{os:aW}{d:D}(h:cT fx sm os d):(∃ x,d = .str x/\(x ∈ os∨x ∈ zeros fx))∨∃ n ds,(d = .tup (.str n :: ds)∨d = .lst (.str n :: ds))/\n8 fx sm n ds.length/\IsTms fx sm os ds:=by
 unfold cT at h
 split at h
 ·exact .inl ⟨_,rfl,h⟩
 ·exact .inr ⟨_,_,.inl rfl,h⟩
 ·exact .inr ⟨_,_,.inr rfl,h⟩
 ·exact absurd h id
theorem D7 {fx:cL}{sm:cQ}{n:Str}{k:Nat}(h:n8 fx sm n k):1<=k:=by rcases h with ⟨h,_⟩ | ⟨h,_⟩ <;> omega
theorem p6 {H:Hp}{a:Addr}{xs:List V}(h:H a=some (.tup xs)):isV H (.ref a) (.ty "str")=some false:=by unfold isV tyN;simp only [h];rfl
theorem J1 {H:Hp}{a:Addr}{xs:List V}(h:H a=some (.lst xs)):isV H (.ref a) (.ty "str")=some false:=by unfold isV tyN;simp only [h];rfl
theorem y7:∀ {ds:List D} {i:Nat} {d:D},ds[i]?=some d->lvs d<=lvss ds
 | [],_,_,h=>by simp at h
 | e :: ds,0,_,h=>by simp at h;subst h;rw [lvss];omega
 | e :: ds,i + 1,_,h=>by have:=y7 (ds:=ds) (i:=i) (by simpa using h);rw [lvss];omega
mutual
theorem wG {fx:cL}{sm:cQ}{os:aW}:∀ {d:D},cT fx sm os d->1<=lvs d
 | .str x,_=>by rw [lvs] <;> simp
 | .tup (.str n :: ds),h=>by
  unfold cT at h
  have:=oX h.2
  have:=D7 h.1
  rw [lvs];omega
 | .lst (.str n :: ds),h=>by
  unfold cT at h
  have:=oX h.2
  have:=D7 h.1
  rw [lvs];omega
 | .non,h=>by unfold cT at h;exact absurd h id
 | .bl _,h=>by unfold cT at h;exact absurd h id
 | .int _,h=>by unfold cT at h;exact absurd h id
 | .tup [],h=>by unfold cT at h;exact absurd h id
 | .lst [],h=>by unfold cT at h;exact absurd h id
 | .tup (.non :: _),h=>by unfold cT at h;exact absurd h id
 | .tup (.bl _ :: _),h=>by unfold cT at h;exact absurd h id
 | .tup (.int _ :: _),h=>by unfold cT at h;exact absurd h id
 | .tup (.tup _ :: _),h=>by unfold cT at h;exact absurd h id
 | .tup (.lst _ :: _),h=>by unfold cT at h;exact absurd h id
 | .lst (.non :: _),h=>by unfold cT at h;exact absurd h id
 | .lst (.bl _ :: _),h=>by unfold cT at h;exact absurd h id
 | .lst (.int _ :: _),h=>by unfold cT at h;exact absurd h id
 | .lst (.tup _ :: _),h=>by unfold cT at h;exact absurd h id
 | .lst (.lst _ :: _),h=>by unfold cT at h;exact absurd h id
theorem oX {fx:cL}{sm:cQ}{os:aW}:∀ {ds:List D},IsTms fx sm os ds->ds.length<=lvss ds
 | [],_=>Nat.zero_le _
 | d :: ds,⟨a,b⟩=>by
  have h1:=wG a
  have h2:=oX b
  rw [lvss,List.length_cons];omega
end
end
noncomputable def insA (d:D):List D->List D
 | []=>[d]
 | e :: l=>if ah d e=true then d :: e :: l else e :: insA d l
end Lw
namespace L2
open PySem PySem.Spec PyProof.Rows
def lQ (K:PySem.W.Frag)(D:Addr):Bool :=
 (PySem.W.findIn K (.ref D) "__getattribute__" == some (some (.builtin "BaseException.__getattribute__"))) && (PySem.W.findIn K (.ref D) "__getattr__" == some none) && (PySem.W.mroIn K D (.type "BaseException") == some true) && (PySem.W.findIn K (.ref D) "__class__" == some (some (.builtin "object.__class__"))) && (PySem.W.specialIn K (.builtin "object.__class__") "__get__" == some (some (.builtin "getset_descriptor.__get__"))) &&
 (PySem.W.takesIn K (.builtin "object.__class__") == some true) && (PySem.W.mroIn K D (.type "object") == some true)
noncomputable def eQ (e C:Addr)(h:Heap):Prop:=eS e h/\∃ o,h.get? e=some o/\o.cls = .ref C
section
variable {K:PySem.W.Frag}{M:Model}{h:Heap}{e C:Addr}
theorem eQ.type (x:eQ e C h):PySem.W.Looks M h (typeOf (.ref e)) (.ref C):=by
 obtain ⟨_,o,ho,hc⟩:=x
 exact hc ▸ (PySem.W.Looks.ld ho).andThen .now
end
section
variable {prog:Program}{w:World}{A:Around}{E:cY}{s:Shared}{K:PySem.W.Frag}{e C:Addr}
structure iD (M:Model)(h:Heap)(e C:Addr):Prop where
 ty:PySem.W.Looks M h (typeOf (.ref e)) (.ref C)
 ga:PySem.W.Looks M h (typeLookup (.ref C) "__getattribute__") (some (.builtin "BaseException.__getattribute__"))
 hook:PySem.W.Looks M h (typeLookup (.ref C) "__getattr__") none
 attr:PySem.W.Looks M h (Builtin.ObjectAttr.find (.ref e) (.ref C) "__class__") (.bind (.builtin "getset_descriptor.__get__") (.builtin "object.__class__"))
 sub:PySem.W.Looks M h (isSubtype (.ref C) (.type "object")) true
 base:PySem.W.Looks M h (isSubtype (.ref C) (.type "BaseException")) true
theorem iD.of {M:Model}{h:Heap}(kn:lQ K C=true)(X:K.In h)(x:eQ e C h):iD M h e C:=by
 simp only [lQ,Bool.and_eq_true,beq_iff_eq] at kn
 obtain ⟨⟨⟨⟨⟨⟨g1,g2⟩,g3⟩,k3⟩,k4⟩,k5⟩,k6⟩:=kn
 refine ⟨x.type,PySem.W.looks_findIn X g1,PySem.W.looks_findIn X g2,?_,PySem.W.looks_mroIn X k6,PySem.W.looks_mroIn X g3⟩
 have data:PySem.W.Looks M h (Builtin.ObjectAttr.dataDescriptor? (some (.builtin "object.__class__")) (some (.builtin "getset_descriptor.__get__"))) (some (.builtin "getset_descriptor.__get__",.builtin "object.__class__")):=(PySem.W.looks_takesIn X k5).andThen .now
 exact (PySem.W.looks_findIn X k3).andThen ((PySem.W.looks_specialIn X k4).andThen (data.andThen (PySem.W.Looks.tag .now)))
theorem G7 {R:Result->Shared->Prop}{tp:Value}(L:iD (model prog w) s.heap e C)(q:R (.ok (.ret (.ref C))) s):codeAny (model prog w) A (.call (.builtin "getset_descriptor.__get__") ⟨[.builtin "object.__class__",.ref e,tp],[]⟩) R s:=by
 have ty:=L.ty
 have sub:=L.sub
 obtain ⟨h,g,d,t,os⟩:=s
 refine codeAny_call_builtin PySem.W.KF.slot_gs.plain PySem.W.KF.entry_gs (PySem.W.KF.slot_gs.check _ _ _ _ _ _ _ _ PySem.W.KF.type_class (PySem.W.KF.args_gs _ _ _) ?_)
 have got:=PySem.W.dga_obj (.builtin "object.__class__") tp e
 have own:=PySem.W.KF.owner_class
 refine wpAny_bind ?_
 rw [got]
 refine wpAny_pure ?_
 have inst:PySem.W.Looks (model prog w) h (isInstance (.ref e) (.type "object")) true:=ty.andThen sub
 have chk:PySem.W.Looks (model prog w) h (Builtin.Getset_descriptor.descrCheckInstance (.builtin "object.__class__") (.ref e)) ():=by
  unfold Builtin.Getset_descriptor.descrCheckInstance Builtin.Getset_descriptor.descrNameAndClass
  dsimp only
  rw [own]
  exact inst.andThen .now
 refine wpAny_bind (chk.at ?_)
 refine wpAny_pure ⟨Code.quiet_builtin _ (by decide +kernel),codeAny_builtin PySem.W.KF.entry_class ?_⟩
 have shown:PySem.W.Looks (model prog w) h (shownTypeOf (.ref e)) (.ref C):=ty.andThen .now
 exact wpAny_bind (shown.at (wpAny_pure q))
theorem AZ {R:Result->Shared->Prop}{tk:Tok}(L:iD (model prog w) s.heap e C)(q:R (.ok (.ret (.ref C))) s):codeAny (model prog w) A (.call (.builtin "BaseException.__getattribute__") ⟨[.ref e,.str "__class__" tk],[]⟩) R s:=by
 have kind:builtinKind "BaseException.__getattribute__" = some .slot:=by decide +kernel
 have split:splitId "BaseException.__getattribute__" = some ("BaseException","__getattribute__"):=by decide +kernel
 have few:=PySem.F.args_bexc_ga (.ref e) (.str "__class__" tk)
 have ty:=L.ty
 have attr:=L.attr
 have inst:PySem.W.Looks (model prog w) s.heap (isInstance (.ref e) (.type "BaseException")) true:=L.ty.andThen L.base
 have got:=fun {A:Around} {R:Result->Shared->Prop} (q:R (.ok (.ret (.ref C))) s)=>G7 (A:=A) (tp:=.ref C) L q
 obtain ⟨h,g,d,t,os⟩:=s
 refine codeAny_call_builtin PySem.F.excAttr_ValueError.ga.plain PySem.F.entry_bexc_ga ?_
 simp only [checkBuiltinCall,kind,split]
 repeat (first | with_reducible refine PySem.W.Looks.at inst ?_ | with_reducible refine PySem.W.Looks.at ty ?_ | with_reducible refine PySem.W.Looks.at attr ?_ | wp_step)
 exact got (wpAny_pure q)
theorem A2 {Q:Option Value->Shared->Prop}(L:iD (model prog w) s.heap e C)(q:Q (some (.ref C)) { s with toks:=s.toks + 1 }):wpAny (model prog w) A (getAttr? (.ref e) "__class__") Q E s:=by
 have ty:=L.ty
 have ga:=L.ga
 have hook:=L.hook
 have bound:=PySem.F.excAttr_ValueError.ga.bind (.ref e)
 have other:(Value.builtin "BaseException.__getattribute__" == Value.builtin "object.__getattribute__")=false:=by decide +kernel
 have by_:(onTheHeap (Value.ref C) && Value.builtin "BaseException.__getattribute__" == Value.builtin "object.__getattribute__")=false:=by rw [other];rfl
 have own:iD (model prog w) ({ s with toks:=s.toks + 1 }:Shared).heap e C:=⟨L.ty,L.ga,L.hook,L.attr,L.sub,L.base⟩
 have called:=fun {A:Around} {R:Result->Shared->Prop} (q:R (.ok (.ret (.ref C))) { s with toks:=s.toks + 1 })=>AZ (A:=A) (tk:=s.toks) own q
 obtain ⟨h,g,d,t,os⟩:=s
 unfold getAttr?
 unfold getAttrBy? getAttrBy
 refine wpAny_bind (wpAny_mkText (wpAny_bind (wpAny_attempt (wpAny_holding (wpAny_bind (ty.at (wpAny_bind (ga.at ?_))))))))
 dsimp only
 rw [by_,if_neg Bool.false_ne_true]
 unfold getAttrByItsOwn hookBefore
 unfold callGetattribute boundAndCalled
 rw [if_pos (show onTheHeap (Value.ref C)=true from rfl)]
 refine wpAny_bind (hook.at (wpAny_bind (wpAny_attempt (wpAny_holding ?_))))
 rw [if_neg (by decide)]
 refine wpAny_bind (wpAny_of_eq bound (wpAny_call (called ?_)))
 exact wpAny_pure (wpAny_pure q)
end
def dH (K:PySem.W.Frag)(D:Addr):Bool:=(PySem.W.kitCls K (.ref D) (.ref D)).isSome && (PySem.W.subIn K (.ref D) (.type "BaseException") == some true)
section
variable {K:PySem.W.Frag}{M:Model}{h:Heap}{e C D:Addr}
theorem qD (kn:dH K D=true)(X:K.In h):PySem.W.Looks M h (typeOf (.ref D)) (.type "type")/\PySem.W.Looks M h (isType (.ref D)) true/\PySem.W.Looks M h (isExcClass (.ref D)) true:=by
 simp only [dH,Bool.and_eq_true,beq_iff_eq] at kn
 obtain ⟨v,hv⟩:=Option.isSome_iff_exists.mp kn.1
 obtain ⟨a,b,_⟩:=PySem.W.kit_cls (M:=M) X hv
 exact ⟨a,b,b.andThen (PySem.W.looks_subIn X kn.2)⟩
theorem qT (kn:dH K D=true)(X:K.In h){tp:Addr}{o:Obj}(ht:h.get? tp=some o)(hc:o.cls = .type "tuple"):(Value.ref D == .ref tp)=false:=by
 simp only [dH,Bool.and_eq_true,beq_iff_eq] at kn
 obtain ⟨v,hv⟩:=Option.isSome_iff_exists.mp kn.1
 unfold PySem.W.kitCls at hv
 dsimp only at hv
 split at hv
 ·rename_i z
  have z2:=(Bool.and_eq_true_iff.mp z).2
  cases q:(Value.ref D == .ref tp) with
  | false=>rfl
  | true =>
  have same:=Value.ref.inj (eq_of_beq q)
  subst same
  obtain ⟨o',ho',hc'⟩:=Option.map_eq_some_iff.mp (show (K.lookup D).map (·.cls)=some (.type "type") from beq_iff_eq.mp z2)
  have same:=(X _ _ ho').symm.trans ht
  cases same
  rw [hc] at hc'
  exact absurd hc' (by decide)
 ·cases hv
theorem vF (kn:lQ K C=true)(kc:dH K C=true):PySem.W.KitX K (.ref e) (.ref C) (eQ e C) where
 ty:=fun _ _ _ p=>p.type
 it:=fun _ _ X _=>(qD kc X).2.1
 ne:=fun h tp dd its n sl X ht=>qT kc X ht rfl
 ca:=fun X p q=>A2 (iD.of kn X p) q
end
theorem vJ {prog:Program}{w:World}{A:Around}{E:cY}{s:Shared}{K:PySem.W.Frag}{e C D:Addr}{Q:Bool->Shared->Prop}(kd:dH K D=true)(ks:PySem.W.subIn K (.ref C) (.ref D)=some true)(X:K.In s.heap)(x:eQ e C s.heap)(q:Q true s) :
  wpAny (model prog w) A (excMatches (.ref e) (.ref D)) Q E s:=by
 obtain ⟨t1,t2,t3⟩:=qD (M:=model prog w) kd X
 have noTup:PySem.W.Looks (model prog w) s.heap (isInstance (.ref D) (.type "tuple")) false:=t1.andThen (PySem.W.Looks.of_pure tc_notTuple)
 have ty:=x.type (M:=model prog w)
 have sub:=PySem.W.looks_subIn (M:=model prog w) X ks
 clear t1 t2
 obtain ⟨h,g,d,tk,os⟩:=s
 unfold excMatches
 repeat lk
 exact q
noncomputable def clsU:V->Value
 | .ty n=>.type n
 | .ref D=>.ref D
 | _=>.none
noncomputable def isCls:V->Bool
 | .ty _=>true
 | .ref _=>true
 | _=>false
theorem vP:∀ {c:V} {u:Value},isCls c=true->aQ c u->u=clsU c
 | .ty _,_,_,r=>by cases r;rfl
 | .ref _,_,_,r=>by cases r;rfl
 | .non,_,h,_ | .bl _,_,h,_ | .int _,_,h,_ | .str _,_,h,_ | .byt _,_,h,_ | .flt _,_,h,_=>nomatch h
theorem rR:∀ {cs:List V} {us:cE},(∀ c ∈ cs,isCls c=true)->aV cs us->us=cs.map clsU
 | [],_,_,.nil=>rfl
 | c :: cs,_,h,.cons r t=>by rw [List.map_cons,vP (h c List.mem_cons_self) r,rR (fun c q=>h c (List.mem_cons_of_mem _ q)) t]
noncomputable def yI (K:PySem.W.Frag)(H:Hp)(C:Addr)(c:V)(b:Bool):Prop :=
 (isCls c=true/\PySem.W.kitOne K (.ref C) (clsU c)=some b)∨∃ p cs,c = .ref p/\H p=some (.tup cs)/\(∀ c ∈ cs,isCls c=true)/\PySem.W.kitAny K (.ref C) (cs.map clsU)=some b
noncomputable def rIsX (K:PySem.W.Frag):List V->Hp->VK->Prop:=fun xs H Q=>∃ e C c b,xs=[.ref e,c]/\H e=some (.ext (eQ e C))/\lQ K C=true/\dH K C=true/\yI K H C c b/\Q (.bl b) H
theorem EN {X:Cx}:cS X (.builtin "isinstance") (rIsX X.K):=by
 rintro pins s σ H _ us Q I r ⟨e,C,c,b,rfl,he,kn,kc,says,q⟩
 cases r with
 | cons re r2 =>
  cases r2 with
  | cons rc r3 =>
   cases r3
   cases re
   have at_:eQ e C s.heap:=(show bY X.prog X.w H s.heap e (.ext (eQ e C)) from I.hok e _ he).1
   have fin:∀ tk,EP X pins σ Q (.bool b) { s with toks:=tk }:=fun tk=>⟨.bl b,H,I.tok tk,rfl,q⟩
   rcases says with ⟨ic,k⟩ | ⟨p,cs,rfl,hp,ic,k⟩
   ·rw [vP ic rc]
    exact PySem.W.kia_one (vF kn kc) I.kIn at_ k (fun z=>nomatch z) fin
   ·cases rc
    obtain ⟨_,its,rv,o,ho,hc,n,hd⟩:=(show bY X.prog X.w H s.heap p (.tup cs) from I.hok p _ hp)
    obtain ⟨ocls,odict,odata,oslots⟩:=o
    dsimp only at hc hd
    subst hc hd
    exact PySem.W.kia_tup (vF kn kc) I.kIn at_ ho (by rw [rR ic rv];exact k) (fun z=>nomatch z) fin
section
variable {X:Cx}{pins:cZ}{σ:St}{H:Hp}{s:Shared}
theorem aN.unname {h':Heap}{t':Nat}{v0:Option Value}{m:eJ}{i:Nat}{n:Str}(I:aN X pins σ H s)(hN:X.N.Nodup)(hi:X.N[i]?=some n)(hm:s.heap.Ns X.env.locals m)(hn:h'.Ns X.env.locals (fun x=>if x=n then v0 else m x))(sb:Heap.SameBut X.env.locals s.heap h'):aN X pins (σ.set i none) H { s with heap:=h',toks:=t' }:=by
 have k:∀ b o,b≠X.env.locals->s.heap.get? b=some o->h'.get? b=some o:=fun b o hb e=>sb.extBut b o hb e
 have old:∀ b o,X.s₀.heap.get? b=some o->b≠X.env.locals:=fun b o e=>Nat.ne_of_lt (Nat.lt_of_lt_of_le (Heap.lt_size e) I.ok.above)
 have tracked:∀ b u,H b=some u->b≠X.env.locals:=fun b u e z=>by rw [z,I.free] at e;cases e
 refine ⟨I.ok,I.os,I.bare,⟨fun b o e n hb hx=>k b o (old b o e) (I.base.keep b o e n hb hx),fun b o e n hb hx=>?_,I.base.free,fun b o e hx=>?_,I.base.tups,I.base.frzs,I.base.tbls⟩,⟨_,hn,fun j y v e1 e2 e3=>?_⟩,fun x c e=>?_,I.free,I.freeC,fun p hp=>?_,fun a o e=>?_,(List.length_set ..).trans I.len⟩
 ·obtain ⟨sl,q⟩:=I.base.slot b o e n hb hx
  exact ⟨sl,k b _ (old b o e) q⟩
 ·obtain ⟨o',q⟩:=I.base.there b o e hx
  exact ⟨o',k b o' (old b o e) q⟩
 ·have ji:j≠i:=fun z=>by
   subst z
   rw [List.getElem?_set] at e2
   split at e2
   ·split at e2 <;> cases e2
   ·exact absurd rfl ‹_›
  have yn:y≠n:=fun z=>ji (pX hN e1 (z ▸ hi))
  rw [List.getElem?_set_ne (Ne.symm ji)] at e2
  obtain ⟨m2,hm2,hl⟩:=I.loc
  obtain ⟨u,ru,look⟩:=hl j y v e1 e2 e3
  refine ⟨u,ru,?_⟩
  rcases look with ⟨z,e⟩ | ⟨z,c,hc,o,ho,hd⟩
  ·have em:m y=m2 y:=by
    obtain ⟨o,es,ep,ho,hd,_,f⟩:=hm
    obtain ⟨o',es',ep',ho',hd',_,f'⟩:=hm2
    rw [ho] at ho';cases ho'
    rw [hd] at hd';cases hd'
    rw [← f,← f']
   exact .inl ⟨z,(if_neg yn).trans (em.trans e)⟩
  ·exact .inr ⟨z,c,hc,o,k c o (I.cne y c hc) ho,hd⟩
 ·obtain ⟨v,o,ho,hd⟩:=I.cell x c e
  exact ⟨v,o,k c o (I.cne x c e) ho,hd⟩
 ·obtain ⟨a,b,c,d⟩:=I.pin p hp
  exact ⟨k _ _ c a,b,c,d⟩
 ·refine (I.hok a o e).stay (fun b u hb q=>k b u ?_ q) (fun _ q=>q) fun _ _ q=>q
  rcases hb with z | z
  ·rw [z];exact tracked a o e
  ·exact tracked b _ z
theorem aN.know {e C:Addr}(I:aN X pins σ H s)(x:eQ e C s.heap)(hH:H e=none)(h0:X.s₀.heap.get? e=none)(hL:e≠X.env.locals)(hcell:∀ n c,X.env.cells.lookup n=some c->c≠e)(hpin:∀ p ∈ X.pn ++ pins,p.1≠e):aN X pins σ (upd H e (.ext (eQ e C))) s:=by
 have ne:∀ b u,H b=some u->b≠e:=fun b u q z=>by rw [z,hH] at q;cases q
 have ne0:∀ b o,X.s₀.heap.get? b=some o->b≠e:=fun b o q z=>by rw [z,h0] at q;cases q
 refine ⟨I.ok,I.os,I.bare,⟨fun b o q n hb hx=>I.base.keep b o q n hb hx,fun b o q n hb hx=>I.base.slot b o q n hb hx,fun b o q n hx=>?_,I.base.there,fun b xs q=>?_,fun b o u q=>?_,fun b ps q=>?_⟩,I.loc,I.cell,?_,fun n c q=>?_,fun p hp=>?_,fun a o q=>?_,I.len⟩
 ·rw [aE (ne0 b o q)];exact I.base.free b o q n hx
 ·have z:=I.base.tups b xs q
  rw [aE (ne b _ z)];exact z
 ·have z:=I.base.frzs b o u q
  rw [aE (ne b _ z)];exact z
 ·obtain ⟨more,z⟩:=I.base.tbls b ps q
  exact ⟨more,by rw [aE (ne b _ z)];exact z⟩
 ·rw [aE (Ne.symm hL)];exact I.free
 ·rw [aE (hcell n c q)];exact I.freeC n c q
 ·obtain ⟨a,b,c⟩:=I.pin p hp
  exact ⟨a,by rw [aE (hpin p hp)];exact b,c⟩
 ·by_cases z:a=e
  ·subst z
   rw [upd_same] at q
   cases q
   obtain ⟨_,ob,ho,_⟩:=id x
   refine ⟨x,⟨ob,ho⟩,fun h1 h2 ⟨a1,o1,e1,c1⟩ keep=>⟨a1.at keep,o1,keep o1 e1,c1⟩⟩
  ·rw [aE z] at q
   exact (I.hok a o q).stay (fun _ _ _ w=>w) (fun b w=>by rw [aE (ne b _ w)];exact w) fun b xs w=>by rw [aE (ne b _ w)];exact w
end
section
variable {X:Cx}{x n:Str}{D:Addr}{i:Nat}{np hp pos:Pos}{EX:XK}{b0:Stmt}{suite body:List Stmt}{tb:TS}{th:Addr->TS}
noncomputable abbrev xU (D:gR)(i:Nat):gR:={ nx:=fun σ H=>D.nx (σ.set i none) H,rt:=D.rt }
theorem EM {pins:cZ}{σ:St}{H:Hp}{s s1:Shared}{e:Value}{W:gR}(hst:X.stack=X.env :: X.outer/\X.env.frame=some X.env.locals)(hex:X.ex=[])(hN:X.N.Nodup)(hi:X.N[i]?=some n)(hn:X.env.scope.names.lookup n=some .local)(hg:Gl X x)(hm:X.mg x=some (.ref D))(kd:dH X.K D=true)
  (hh:∀ e,oH (X.mk1 (.ref e)) (b0 :: suite) (th e)) (hEX:∀ cls d H',EX cls d H'->∃ C,cls = .ref C/\PySem.W.subIn X.K (.ref C) (.ref D)=some true) (I:aN X pins σ H s) (cx:yA X.prog X.w X.stack H s EX e s1)
  (hx:∀ C d H' ea,EX (.ref C) d H'->H' ea=none->th ea (xU W i) (σ.set i (some (.ref ea))) (upd H' ea (.ext (eQ ea C)))) (hdb:(x == ("__debug__" : Str))=false) :
  wpAny (model X.prog X.w) X.A (noteFrame e X.env) (fun _ s₂=>wpAny (model X.prog X.w) X.A (setFlight e none) (fun _ s₃=>wpAny (model X.prog X.w) X.A (handleBy e X.env [.ExceptHandler (some (.Name x np)) (some n) (b0 :: suite) hp]) (SP X pins W) X.xe s₃) X.xe s₂) X.xe s1:=by
 obtain ⟨ea,C,a0,B,H',rfl,hfl,al,un,hok,os,bare,cov,covH,hE⟩:=cx
 have ks:PySem.W.subIn X.K (.ref C) (.ref D)=some true:=by
  obtain ⟨C2,e2,k2⟩:=hEX _ _ _ hE
  cases e2
  exact k2
 have hfr:X.A.frames=some (X.env :: X.outer):=by rw [← hst.1];exact I.ok.frames
 rw [hst.1] at hfl
 have I6:∀ h6,Heap.FlyingW B (X.env :: X.outer) ea (.ref C) a0 h6->s1.heap.UpToSlots h6->aN X pins σ H' { s1 with heap:=h6 }:=fun h6 fl sm=>by
  have kB:∀ b o,B.get? b=some o->s1.heap.get? b=some o/\h6.get? b=some o:=fun b o z=>⟨hfl.1 b o z,fl.1 b o z⟩
  refine I.call' (s':={ s1 with heap:=h6 }) (ch:=[]) os (un.fly kB cov fun b hb o z=>pO hfl.2.2.1 sm b (by rw [← hst.1];exact hb) o z) (hok.fly kB covH) bare fun b z=>absurd z (by simp)
 -- the exception is new
 have nB:B.get? ea=none:=hfl.2.1
 have nFr:ea ∉ frs X.stack:=fun z=>by
  rw [hst.1] at z
  obtain ⟨_,o,ho,nf⟩:=hfl.2.2.1.mem z
  obtain ⟨oe,vs,_,_,_,he,_,hd,_⟩:=hfl.2.2.2
  rw [ho] at he;cases he
  exact nf vs hd
 have nS:s.heap.get? ea=none:=by
  cases q:s.heap.get? ea with
  | none=>rfl
  | some o =>
   obtain ⟨o',z⟩:=cov ea o q nFr
   rw [nB] at z;cases z
 have nH:H' ea=none:=by
  cases q:H' ea with
  | none=>rfl
  | some u =>
   obtain ⟨o',z⟩:=covH ea u q
   rw [nB] at z;cases z
 have n0:X.s₀.heap.get? ea=none:=by
  cases q:X.s₀.heap.get? ea with
  | none=>rfl
  | some o =>
   obtain ⟨o',z⟩:=I.base.there ea o q (by rw [hex];simp)
   rw [nS] at z;cases z
 have nL:ea≠X.env.locals:=fun z=>by
  obtain ⟨m,⟨o,_,_,ho,_⟩,_⟩:=I.loc
  rw [← z,nS] at ho;cases ho
 have nC:∀ y c,X.env.cells.lookup y=some c->c≠ea:=fun y c q z=>by
  obtain ⟨v,o,ho,_⟩:=I.cell y c q
  rw [z,nS] at ho;cases ho
 have nP:∀ p ∈ X.pn ++ pins,p.1≠ea:=fun p hp z=>by
  have q:=(I.pin p hp).1
  rw [z,nS] at q;cases q
 refine mR (pI _ _) al (wpAny_looks_onW hfr hst.2 hfl fun h4 held4 sm4 al4=>?_)
 refine mR (jF _ _) al4 (wpAny_landsW held4 fun h5 fl5 sm5 al5=>?_)
 have J5:=(I6 h5 fl5 (sm4.trans sm5)).mk1 (.ref ea)
 refine wpAny_handleBy_cons (codeAny_handlers_test (jN J5 hg hm ?_ hdb)) (by intro z;cases z)
 refine vJ kd ks J5.kIn ⟨al5,fl5.there⟩ (codeAny_handlers_suite_as ?_)
 refine mR (jF _ _) al5 (lands_againW fl5 fun h6 fl6 sm6 al6=>?_)
 have I7:=((I6 h6 fl6 ((sm4.trans sm5).trans sm6)).know (C:=C) ⟨al6,fl6.there⟩ nH n0 nL nC nP)
 refine lU I7 hN hi (.inl hn) (v:=.ref ea) rfl (fun s8 I8=>?_) (.inr hn)
 refine wpAny_mono (hh ea pins s8 _ _ (xU W i) (I8.mk1 (.ref ea)) (hx C none H' ea hE nH)) (fun f s9 h9=>?_) fun _ _ z=>False.elim z
 have h9:=SP.unmk1 I.ok h9
 cases f with
 | next =>
  obtain ⟨σ9,H9,I9,q9⟩:=h9
  obtain ⟨m9,hn9,_⟩:=id I9.loc
  refine wpAny_nameGoes_keeps hn hn9 (by rw [I9.ok.kind];rfl) fun h10 v10 hn10 sb10=>?_
  exact ⟨_,H9,I9.unname hN hi hn9 hn10 sb10,q9⟩
 | brk=>obtain ⟨_,_,_,q⟩:=h9;exact q.elim
 | cont=>obtain ⟨_,_,_,q⟩:=h9;exact q.elim
 | ret v =>
  obtain ⟨y,σ9,H9,I9,r9,q9⟩:=h9
  obtain ⟨m9,hn9,_⟩:=id I9.loc
  refine wpAny_nameGoes_keeps hn hn9 (by rw [I9.ok.kind];rfl) fun h10 v10 hn10 sb10=>?_
  exact ⟨y,_,H9,I9.unname hN hi hn9 hn10 sb10,r9,q9⟩
noncomputable def IT (tb:TS)(EX:XK)(i:Nat)(th:Addr->TS):TS:=fun W σ H=>tb W σ H/\∀ (C:Addr) (d:Option Addr) (σ':St) (H':Hp) (ea:Addr),EX (.ref C) d H'->H' ea=none->i < σ'.length->th ea (xU W i) (σ'.set i (some (.ref ea))) (upd H' ea (.ext (eQ ea C)))
theorem CI (EX:XK)(hst:X.stack=X.env :: X.outer/\X.env.frame=some X.env.locals)(hex:X.ex=[])(hN:X.N.Nodup)(hi:X.N[i]?=some n)(hn:X.env.scope.names.lookup n=some .local)(hg:Gl X x)(hm:X.mg x=some (.ref D))(kd:dH X.K D=true)
  (hEX:∀ cls d H',EX cls d H'->∃ C,cls = .ref C/\PySem.W.subIn X.K (.ref C) (.ref D)=some true) (hb:∀ pn Ew,fY (yA X.prog X.w) (X.tr pn Ew) EX->oH (X.tr pn Ew) body tb) (hh:∀ e,oH (X.mk1 (.ref e)) (b0 :: suite) (th e)) (hdb:(x == ("__debug__" : Str))=false:=by decide) :
  PS X (.Try body [.ExceptHandler (some (.Name x np)) (some n) (b0 :: suite) hp] [] [] pos) (IT tb EX i th):=by
 rintro pins s σ H W I ⟨hbd,hx⟩
 refine wpAny_Try_except ?_
 have hP:fY (yA X.prog X.w) (X.tr (X.pn ++ pins) fun e s₁=>wpAny (model X.prog X.w) X.A (noteFrame e X.env) (fun _ s₂=>wpAny (model X.prog X.w) X.A (setFlight e none) (fun _ s₃=>wpAny (model X.prog X.w) X.A (handleBy e X.env [.ExceptHandler (some (.Name x np)) (some n) (b0 :: suite) hp]) (SP X pins W) X.xe s₃) X.xe s₂) X.xe s₁) EX:=fun pl σ1 H1 s1 e s2 I1 cx =>
  EM hst hex hN hi hn hg hm kd hh hEX (I1.untr I.ok) cx (fun C d H' ea z nz=>hx C d σ1 H' ea z nz (by have e:=I1.len;have e:σ1.length=X.N.length:=e;rw [e];exact (List.getElem?_eq_some_iff.mp hi).1)) hdb
 refine wpAny_mono (hb _ _ hP [] s σ H W (I.tr _) hbd) (fun f s1 h1=>?_) fun _ _ z=>z
 have h2:=SP.untr I.ok h1
 cases f with
 | next=>exact wpAny_execs_nil h2
 | _=>exact h2
end
structure mS (k:Nat)(A:Around):Prop where
 dp:A.depth + 3 * k + 5 < recursionLimit
 un:A.units + 16 * k + 200 < cLine
theorem mS.deeper {k:Nat}{A:Around}(r:mS (k + 1) A)(env:Env):mS k (A.deeper env) :=
 ⟨by have:=r.dp;show A.depth + 1 + 3 * k + 5 < _;omega,by have:=r.un;show A.units + 3 + 16 * k + 200 < _;omega⟩
theorem mS.units {k:Nat}{A:Around}(r:mS k A):A.units + 64 < cLine:=by have:=r.un;omega
theorem fR.handling {k:Nat}{A:Around}(r:fR k A)(e:Value):mS k (A.mark (some e)):=⟨r.dp,r.un⟩
noncomputable def IG (A:Around)(vs:List V):Prop:=∀ e,vs[0]?=some (.ref e)->A.handled=some (.ref e)
structure E2 (P:Program)(w:World)(K:PySem.W.Frag)(mg:eJ)(base:Heap)(CX:sG)(k:Nat)(f:Addr)(fd:FuncData)(ps:aW)(sp:Sp):Prop where
 len:∀ vs H Q E,sp vs H Q E->vs.length=ps.length
 run:∀ (A:Around) (outer:List Env) (s:Shared) (H:Hp) (args:Args) (us:cE) (vs:List V) (Q:VK) (E:XK),mS k A->IG A vs->uG P w K mg base A outer s H->BindsTo s fd args (ps.zip us)->aV vs us->sp vs H Q E ->
  codeAny (model P w) A (.call (.ref f) args) (CR CX outer P w H s Q E) s
noncomputable abbrev Cx.rough (X:Cx):Cx:={ X with calm:=false }
theorem aN.rough {X Y:Cx}{pins:cZ}{σ:St}{H:Hp}{s:Shared}{A:Around}(I:aN X pins σ H s)(e:Y={ X with calm:=false,A:=A,xe:=Y.xe })(hA:A.frames=X.A.frames):aN Y pins σ H s:=by
 rw [e]
 have ok:=I.ok
 exact ⟨⟨ok.mod,ok.kind,ok.glob,ok.blt,ok.above,ok.inj,ok.has,ok.cab,fun h=>Bool.noConfusion h,hA.trans ok.frames,ok.stk,ok.exf,ok.bs,ok.bsz,ok.noex,ok.exfs,ok.funs,ok.frf⟩,I.os,I.bare,I.base,I.loc,I.cell,I.free,I.freeC,I.pin,I.hok,I.len⟩
section
variable {P:Program}{w:World}{K:PySem.W.Frag}{mg:eJ}{base:Heap}
theorem gN.okH {x qual:Str}{st:Stmt}{f:Addr}{fd:FuncData}{N ps:aW}{k:Nat}{sp:Sp}(F:gN K x qual st f fd)(S:aZ N ps (aD st))(len:∀ vs H Q E,sp vs H Q E->vs.length=ps.length)
  (hbody:∀ (cdv:Value) (A:Around) (outer:List Env) (s:Shared) (H:Hp) (vs:List V) (Q:VK) (E:XK),mS k (A.deeper (envOfC qual (aD st) s.heap.objs.size f cdv))->IG A vs->sp vs H Q E ->
   ∃ t,oH (cxOf bP P w K mg base N qual (aD st) f cdv A outer s H E).rough.nox (aM st) t/\t { nx:=fun _ H'=>Q .non H',rt:=Q } (start N vs) H):E2 P w K mg base bP (k + 1) f fd ps sp:=by
 obtain ⟨oc,od,kV,doc,pm,an,cdv,ct,osl,rfl,lk,hcd⟩:=F.ex
 refine ⟨len,fun A outer s H args us vs Q E hr hot e0 hb r hsp=>?_⟩
 have hl:=len _ _ _ _ hsp
 have KX:K.In s.heap:=e0.mod.kin.keeps fun b o e=>(e0.bs b o e).1
 have lim:s.heap.NoLimit:=e0.mod.nolimit.keeps fun b o e=>(e0.bs b o e).1
 have hkind:∀ y ∈ ps.zip us,(aD st).names.lookup y.1=some .local∨((aD st).names.lookup y.1=some .cell/\((cellsFrom (s.heap.objs.size + 1) (aD st).names []).lookup y.1).isSome=true):=fun ⟨n,v⟩ hy=>by
  rcases S.par n (List.of_mem_zip hy).1 with q | q
  ·exact .inl q
  ·exact .inr ⟨q,PySem.W.cellsFrom_some _ _ _ (.inl q)⟩
 refine codeAny_call_function (by have:=hr.dp;omega) (KX _ _ lk) rfl S.co S.gen rfl (PySem.W.codeRec_of KX hcd) (hb _ _ _ _ ?_)
 refine wpAny_newFunctionEnv_cells S.kind hkind fun env he s1 x=>?_
 subst he
 refine ⟨lim.keeps x.toInCall.keep,codeAny_func ?_⟩
 obtain ⟨t,ht,hq⟩:=hbody cdv A outer s H vs Q E (hr.deeper _) hot hsp
 have e0':uG P w K mg base { A with handled:=none } outer s H:=⟨e0.frames,e0.mod,e0.bs,e0.bsz,e0.funs,e0.frf,e0.hok,e0.bare⟩
 have I0:=rL (CX:=bP) (E:=E) (qual:=qual) (f:=f) (cd:=cdv) S rfl e0' hl r x
 have I:aN (cxOf bP P w K mg base N qual (aD st) f cdv A outer s H E).rough [] (start N vs) H s1:=I0.rough (A:=A.deeper (envOfC qual (aD st) s.heap.objs.size f cdv)) rfl rfl
 refine wpAny_mono (ht.nox [] s1 (start N vs) H _ I hq) (fun fl s' hs=>?_) fun e s' hs=>hs
 have fin:∀ {σ':St} {H':Hp} {v:V} {u:Value},aN (cxOf bP P w K mg base N qual (aD st) f cdv A outer s H E).rough [] σ' H' s'->aQ v u->Q v H'->CE outer P w H s Q u s' :=
  fun {σ' H' v u} J rv q=>⟨v,H',J.os,J.bare,J.base,J.hok,rv,q⟩
 cases fl with
 | ret u =>
  obtain ⟨v,σ',H',J,rv,q⟩:=hs
  exact fin J rv q
 | next =>
  obtain ⟨σ',H',J,q⟩:=hs
  exact fin (v:=V.non) (u:=Value.none) J rfl q
 | brk =>
  obtain ⟨_,_,_,q⟩:=hs
  exact False.elim q
 | cont =>
  obtain ⟨_,_,_,q⟩:=hs
  exact False.elim q
end
noncomputable def KK (P:Program)(w:World)(K:PySem.W.Frag)(mg:eJ)(base:Heap)(CX:sG)(k:Nat)(x:Str)(sp:Sp):Prop :=
 ∃ f fd ps,E2 P w K mg base CX k f fd ps sp/\mg x=some (.ref f)/\PySem.W.keepIn K (.ref f)=true/\fK K fd ps []
section
variable {X:Cx}{k:Nat}{sp:Sp}{x:Str}{p pos:Pos}{e:Expr}{es:iW}{t:TA}
noncomputable def IY (e0:Addr)(sp:Sp)(t:TA):TE:=fun σ H Q=>t σ H fun vs H1=>(∀ e,vs[0]?=some (.ref e)->e=e0)/\sp vs H1 Q E0
theorem FR {e0:Addr}(hh:X.A.handled=some (.ref e0))(O:KK X.prog X.w X.K X.mg X.base bP k x sp)(hr:mS k X.A)(hg:Gl X x)(ha:PA X (e :: es) t)(hdb:(x == ("__debug__" : Str))=false:=by decide)
  (he:starEach (e :: es) X.env=(false,eval e X.env) :: starEach es X.env:=by rfl) (hpl:(backTo pos (starEach es X.env)).any (·.1)=false:=by rfl):PE X (.Call (.Name x p) (e :: es) [] pos) (IY e0 sp t):=by
 obtain ⟨f,fd,ps,F,hm,hk,hb⟩:=O
 intro pins s σ H Q I h
 refine wpAny_Call_Name_kw (jN I hg hm ?_ hdb)
 refine PySem.W.callWith_K (h₀:=X.base) I.ok.mod.kin hk (thn (ha pos pins s σ H _ I h) fun us s1 ⟨vs,H1,I1,r,hot,q⟩=>⟨I1.kIn,?_⟩) he hpl
 have hl:(us ++ []).length=ps.length:=by rw [List.append_nil,← r.length,← F.len _ _ _ _ q]
 refine wpAny_call (codeAny_mono (F.run X.A X.stack s1 H1 ⟨us,[]⟩ (us ++ []) (vs ++ []) Q E0 hr (by rw [List.append_nil];exact fun e z=>(hot e z) ▸ hh) I1.env0 (hb s1 us I1.kIn hl) (r.append .nil) (by rw [List.append_nil];exact q)) fun r s' hq=>?_)
 cases r with
 | error e=>exact hq.elim
 | ok fl =>
  cases fl with
  | ret u=>exact I1.after hq
  | _=>exact False.elim hq
end
theorem eA {X:Cx}(K:PySem.W.Frag)(hK:X.K=K):cS X (.builtin "isinstance") (rIsX K):=by subst hK;exact EN
theorem gE {K:PySem.W.Frag}{H:Hp}{e C:Addr}{c:V}{b:Bool}{Q:VK}(he:H e=some (.ext (eQ e C)))(k:lQ K C=true/\dH K C=true)(says:yI K H C c b)(q:Q (.bl b) H):rIsX K [.ref e,c] H Q:=⟨e,C,c,b,rfl,he,k.1,k.2,says,q⟩
theorem pS {X:Cx}{k v:Expr}{pos:Pos}{tk tv:TE}(hk:PE X k tk)(hv:PE X v tv):PE X (.Dict [some k] [v] pos) (tDisp [(tk,tv)]):=FV (CN hk hv FP) rfl rfl (List.cons_ne_nil _ _) (show 1<=15 by decide)
theorem AB {ks:List (Option Expr)}{vs es:iW}{p:Pos}{env:Env}:starEach (.Dict ks vs p :: es) env=(false,eval (.Dict ks vs p) env) :: starEach es env:=by rw [starEach];exact fun _ _ z=>nomatch z
theorem wJ {c:Const}{j:Nat}{es:iW}{p:Pos}{env:Env}:starEach (.Constant c j p :: es) env=(false,eval (.Constant c j p) env) :: starEach es env:=by rw [starEach];exact fun _ _ z=>nomatch z
theorem LO {X:Cx}{c:Const}{j:Nat}{p:Pos}{es:iW}{te:TE}{t:TA}(h:PE X (.Constant c j p) te)(hr:PA X es t):PA X (.Constant c j p :: es) (tCons te t):=aA h hr wJ
theorem tO:typeLookup (.type "list") "keys" = pure none:=am_miss_of_fast (by decide +kernel)
theorem tU {P:Program}{w:World}{A:Around}{E:cY}{s:Shared}{a:Addr}{xs:uH}{k:Nat}{sl:Array (Option Value)}{Q:Option Value->Shared->Prop}
  (at_a:s.heap.get? a=some { cls:=.type "list",dict:=none,data:=.seq xs k,slots:=sl }) (calm:A.handled=none)
  (q:∀ h' tk,(∀ b ob,s.heap.get? b=some ob->h'.get? b=some ob)->Q none { s with heap:=h',toks:=tk }) :
  wpAny (model P w) A (getAttr? (.ref a) "keys") Q E s:=by
 rcases s with ⟨hp,gs,dr,tk,os⟩
 have ty:∀ t,(⟨hp,gs,dr,t,os⟩:Shared).TypeIs (.ref a) "list":=fun _=>⟨_,at_a,rfl⟩
 have l1:=F.slot_list_getattribute.lookup
 have l2:=F.slot_list_getattribute.bind (.ref a)
 have l3:=am_list_getattr_none
 have l4:=sub_AttributeError
 rw [getAttr?]
 unfold getAttrBy? getAttrBy
 repeat (any_goals (first | assumption | exact ty _ | ((with_reducible show wpAny _ _ (call (Value.builtin "list.__getattribute__") _ _) _ _ _);refine call_meets F.slot_list_getattribute (ty _) am_entry_list_getattribute (F.args_list_getattribute_2 _ _) (meets_getattribute_miss_list a xs k sl "keys" _ tO (by decide) (by decide)) ⟨at_a,calm,fun h' tk' e n=>?_⟩) | wp_step))
 obtain ⟨x1,x2,x3⟩:=n.there
 dsimp only [wants]
 unfold getattributeRaised
 wp_walk
 exact q _ _ n.keeps
section
variable {P:Program}{w:World}{K:Type}[DecidableEq K]{knd:KeyKind P w K}
noncomputable def uB (knd:KeyKind P w K)(h:Heap)(d it:Addr)(x:Value)(kv:K×Value):Prop :=
 ∃ (q:Addr) (o:Obj) (key:Value) (n:Nat),x = .ref q/\q≠d/\q≠it/\h.get? q=some o/\(o.cls = .type "list"∨o.cls = .type "tuple")/\o.data = .seq #[key,kv.2] n/\knd.is kv.1 key=true
theorem uB.mono {h h':Heap}{d it:Addr}{x:Value}{kv:K×Value}(p:uB knd h d it x kv)(k:∀ b o,b≠d->b≠it->h.get? b=some o->h'.get? b=some o):uB knd h' d it x kv:=by
 obtain ⟨q,o,key,n,e1,e2,e3,e4,e5⟩:=p
 exact ⟨q,o,key,n,e1,e2,e3,k q o e2 e3 e4,e5⟩
inductive HD (knd:KeyKind P w K)(h:Heap)(d it:Addr):cE->List (K×Value)->Prop
 | nil:HD knd h d it [] []
 | cons {x:Value} {xs:cE} {kv:K×Value} {more:List (K×Value)}:uB knd h d it x kv->HD knd h d it xs more->HD knd h d it (x :: xs) (kv :: more)
theorem HD.mono {h h':Heap}{d it:Addr}(k:∀ b o,b≠d->b≠it->h.get? b=some o->h'.get? b=some o):∀ {xs:cE} {more:List (K×Value)},HD knd h d it xs more->HD knd h' d it xs more
 | _,_,.nil=>.nil
 | _,_,.cons p r=>.cons (p.mono k) (HD.mono k r)
theorem kW:plainId "dict.update.loop" = true:=by decide +kernel
theorem rO:entryFor table "dict.update.loop" = some Builtin.«dict.update.loop»:=entryFor_of_fast (by kernel_rfl)
theorem qR {A:Around}{E:cY}{s:Shared}{q:Addr}{o:Obj}{n:Nat}{a b:Value}{Q:cE->Shared->Prop}(e:s.heap.get? q=some o)(c:o.cls = .type "list"∨o.cls = .type "tuple")(dt:o.data = .seq #[a,b] n)(h:Q [a,b] s) :
  wpAny (model P w) A (Builtin.Dict.pairItems (.ref q)) Q E s:=by
 unfold Builtin.Dict.pairItems
 rcases c with c | c
 ·refine wpAny_bind (wpAny_typeOf (T:="list") ⟨o,e,c⟩ ?_)
  rw [if_pos (by decide)]
  exact wpAny_bind (wpAny_seqItems e dt (wpAny_pure h))
 ·refine wpAny_bind (wpAny_typeOf (T:="tuple") ⟨o,e,c⟩ ?_)
  rw [if_pos (by decide)]
  exact wpAny_bind (wpAny_seqItems e dt (wpAny_pure h))
theorem BW {d it l:Addr}{items:uH}(nid:it≠d)(nld:l≠d)(nli:l≠it):∀ (m i:Nat),items.size - i=m->∀ (A:Around) (R:Result->Shared->Prop) (s:Shared) (kvs more:List (K×Value)) (tk:Tok),
  A.handled=none->s.heap.IsListIter it l i->s.heap.IsList l items->s.heap.DictOf knd d kvs->HD knd s.heap d it (items.toList.drop i) more->kvs.length + more.length<=sizeLine ->
  (∀ h' tk',h'.DictOf knd d (merged kvs more)->(∀ b o,b≠d->b≠it->s.heap.get? b=some o->h'.get? b=some o)->R (.ok (.ret .none)) { s with heap:=h',toks:=tk' }) ->
  codeAny (model P w) A (.builtin "dict.update.loop" ⟨[.ref d,.ref it,.int i tk,.none],[]⟩) R s:=by
 intro m
 induction m with
 | zero =>
  intro i hm A R s kvs more tk hA st hl hd al hz k
  refine codeAny_builtin rO ?_
  rw [Around.under_plainId kW]
  have hi:items[i]?=none:=by simp;omega
  have en:more=[]:=by
   have:items.toList.drop i=[]:=by simp;omega
   rw [this] at al
   cases al;rfl
  subst en
  unfold Builtin.«dict.update.loop»
  dsimp only
  refine wpAny_bind (wpAny_pyNext_list_end hA st hl hi fun h' eb=>?_)
  dsimp only
  refine wpAny_bind (m:=Builtin.Dict.addKeywords d []) (wpAny_pure (wpAny_pure ?_))
  exact k h' s.toks (hd.extBut eb nid.symm) fun b o _ hb e=>eb b o hb e
 | succ m ih =>
  intro i hm A R s kvs more tk hA st hl hd al hz k
  refine codeAny_builtin rO ?_
  rw [Around.under_plainId kW]
  have inR:i < items.size:=by omega
  have hi:items[i]?=some items[i]:=by simp [inR]
  have ed:items.toList.drop i=items[i] :: items.toList.drop (i + 1):=by simp [List.drop_eq_getElem_cons,inR]
  rw [ed] at al
  cases al with
  | cons p rest =>
   rename_i kv more
   unfold Builtin.«dict.update.loop»
   dsimp only
   refine wpAny_bind (wpAny_pyNext_list_item st hl hi fun h1 st1 sb1=>?_)
   dsimp only
   obtain ⟨q,o,key,n,eq,nqd,nqi,gq,cq,dq,kq⟩:=p
   rw [eq]
   refine wpAny_bind (wpAny_holding (wpAny_bind (wpAny_tryCatch (qR (s:={ s with heap:=h1 }) ((sb1.2 q nqi).trans gq) cq dq ?_))))
   refine wpAny_holding (wpAny_dictSet_pairs kq (hd.sameBut sb1 nid.symm) (fun h2 hd2 sb2=>?_) (by simp at hz;omega))
   have kept:∀ b o,b≠d->b≠it->s.heap.get? b=some o->h2.get? b=some o:=fun b o nb ni e=>(sb2.2 b nb).trans ((sb1.2 b ni).trans e)
   refine wpAny_pure ⟨plainId_quiet kW _,?_⟩
   have e1:((i:Int) + 1)=((i + 1:Nat):Int):=by push_cast;rfl
   rw [e1]
   refine ih (i + 1) (by omega) A R _ (stored kvs kv.1 kv.2) more 0 hA (st1.at fun o e=>(sb2.2 it nid).trans e) (hl.at fun o e=>kept l o nld nli e) hd2 (rest.mono kept) ?_ fun h' tk' r1 r2=>?_
   ·have:=stored_length_le kvs kv.1 kv.2
    simp at hz;omega
   ·exact k h' tk' r1 fun b o nb ni e=>r2 b o nb ni (kept b o nb ni e)
noncomputable def KI (knd:KeyKind P w K)(h:Heap)(x:Value)(kv:K×Value):Prop :=
 ∃ (q:Addr) (o:Obj) (key:Value) (n:Nat),x = .ref q/\h.get? q=some o/\(o.cls = .type "list"∨o.cls = .type "tuple")/\o.data = .seq #[key,kv.2] n/\knd.is kv.1 key=true
inductive mU (knd:KeyKind P w K)(h:Heap):cE->List (K×Value)->Prop
 | nil:mU knd h [] []
 | cons {x:Value} {xs:cE} {kv:K×Value} {more:List (K×Value)}:KI knd h x kv->mU knd h xs more->mU knd h (x :: xs) (kv :: more)
theorem mU.at {h h':Heap}{d it:Addr}(ed:h.get? d=none)(ei:h.get? it=none)(k:∀ b o,h.get? b=some o->h'.get? b=some o):∀ {xs:cE} {more:List (K×Value)},mU knd h xs more->HD knd h' d it xs more
 | _,_,.nil=>.nil
 | _,_,.cons ⟨q,o,key,n,e1,e2,e3⟩ r=>.cons ⟨q,o,key,n,e1,fun e=>(by rw [e,ed] at e2;cases e2),fun e=>(by rw [e,ei] at e2;cases e2),k q o e2,e3⟩ (mU.at ed ei k r)
theorem oU {A:Around}{E:cY}{s:Shared}{l:Addr}{items:uH}{n:Nat}{sl:Array (Option Value)}{more:List (K×Value)}{Q:cY}
  (at_l:s.heap.get? l=some { cls:=.type "list",dict:=none,data:=.seq items n,slots:=sl }) (calm:A.handled=none) (al:mU knd s.heap items.toList more) (hz:more.length<=sizeLine)
  (q:∀ h' tk,h'.DictOf knd s.heap.objs.size (merged [] more)->(∀ b o,s.heap.get? b=some o->h'.get? b=some o)->Q (.ref s.heap.objs.size) { s with heap:=h',toks:=tk }) :
  wpAny (model P w) A (call (.type "dict") [.ref l]) Q E s:=by
 refine callType_codes (Q₁:=fun v s1=>v = .ref s.heap.objs.size/\s1={ s with heap:=s.heap.push { cls:=.type "dict",data:=.dict #[] } }) F.kt_called_dict (F.kt_typeCall_dict_1 _) F.entry_dict_init (kt_code_dict_new _ ⟨rfl,rfl⟩) ?_
 rintro v s1 ⟨rfl,rfl⟩
 have d0:(s.heap.push { cls:=.type "dict",data:=.dict #[] }).DictOf knd s.heap.objs.size []:=Heap.DictOf.new s.heap
 have l0:=Heap.get?_push_of_some { cls:=.type "dict",data:=.dict #[] } at_l
 have lt:=Heap.lt_size at_l
 refine ⟨d0.typeIs,F.args_dict_init_2 _ _,?_⟩
 unfold Builtin.«dict.__init__» Builtin.Dict.selfAndRest
 refine wpAny_bind (wpAny_bind (wpAny_notOrdered_dict d0.typeIs (wpAny_pure ?_)))
 unfold Builtin.Dict.updateCommon Builtin.Dict.updateFrom
 dsimp only
 refine wpAny_bind (wpAny_typeOf (T:="list") ⟨_,l0,rfl⟩ ?_)
 rw [if_pos (by decide)]
 refine wpAny_bind (tU l0 calm fun h1 t1 k1=>?_)
 rw [if_pos (by rfl)]
 have l1:=k1 _ _ l0
 refine wpAny_bind (wpAny_rule (wpAny_bind (wpAny_pyIter_list (items:=items) ⟨_,l1,rfl,_,rfl⟩ (wpAny_pure ⟨plainId_quiet kW _,?_⟩))))
 have d1:=d0.keep k1
 have dlt:s.heap.objs.size < h1.objs.size:=by
  obtain ⟨o,e,_⟩:=Heap.dictOf_iff.mp d1
  exact Heap.lt_size e
 have k2:∀ b o,s.heap.get? b=some o->(h1.push { cls:=.type "list_iterator",data:=.fields #[.ref l,.int 0 0] }).get? b=some o:=fun b o e=>Heap.get?_push_of_some _ (k1 b o (Heap.get?_push_of_some _ e))
 refine BW (it:=h1.objs.size) (l:=l) (items:=items) (Nat.ne_of_gt dlt) (Nat.ne_of_lt lt) (Nat.ne_of_lt (Nat.lt_trans lt dlt)) _ 0 rfl A.in1 _ _ [] more 0 calm ⟨_,Heap.get?_push_size _ rfl,rfl,rfl⟩ ⟨_,k2 _ _ at_l,rfl,_,rfl⟩ (d1.push _)
  (mU.at (Heap.get?_none_of_le (Nat.le_refl _)) (Heap.get?_none_of_le (Nat.le_of_lt dlt)) k2 al) (by simpa using hz) fun h' tk' r1 r2=>?_
 exact ⟨rfl,q h' tk' r1 fun b o e=>r2 b o (Nat.ne_of_lt (Heap.lt_size e)) (Nat.ne_of_lt (Nat.lt_trans (Heap.lt_size e) dlt)) (k2 b o e)⟩
end
noncomputable def prV (H:Hp):V->Option (V×V)
 | .ref p=>match H p with
  | some (.lst [a,b])=>some (a,b)
  | some (.tup [a,b])=>some (a,b)
  | _=>none
 | _=>none
theorem uU {X:Cx}{pins:cZ}{σ:St}{H:Hp}{s:Shared}(I:aN X pins σ H s):∀ {ys:List V} {us:cE} {kvs:List (eZ×V)},aV ys us->ys.map (prV H)=kvs.map (fun kv=>some (kV kv.1,kv.2)) ->
  ∃ rs:List (eZ×Value),mU (cB X.prog X.w) s.heap us rs/\KV kvs rs
 | [],_,[],r,_=>by cases r;exact ⟨[],.nil,.nil⟩
 | [],_,_ :: _,_,e=>by cases e
 | _ :: _,_,[],_,e=>by cases e
 | y :: ys,_,kv :: kvs,r,e=>by
  cases r with
  | @cons _ u _ us ry r =>
   rw [List.map_cons,List.map_cons] at e
   injection e with e1 e2
   obtain ⟨rs,c,q⟩:=uU I r e2
   cases y with
   | ref p =>
    cases ry
    unfold prV at e1
    dsimp only at e1
    split at e1
    ·rename_i a b hp
     cases e1
     obtain ⟨_,its,n,rv,h1⟩:=(show bY X.prog X.w H s.heap p (.lst [_,_]) from I.hok p _ hp)
     obtain ⟨u1,u2,rfl,r1,r2⟩:=vals2 rv
     exact ⟨(kv.1,u2) :: rs,.cons ⟨p,_,u1,n,rfl,h1,.inl rfl,rfl,vG r1⟩ c,.cons ⟨rfl,r2⟩ q⟩
    ·rename_i a b hp
     cases e1
     obtain ⟨_,its,rv,o,h1,h2,n,h3⟩:=(show bY X.prog X.w H s.heap p (.tup [_,_]) from I.hok p _ hp)
     obtain ⟨u1,u2,rfl,r1,r2⟩:=vals2 rv
     exact ⟨(kv.1,u2) :: rs,.cons ⟨p,o,u1,n,rfl,h1,.inr h2,h3,vG r1⟩ c,.cons ⟨rfl,r2⟩ q⟩
    ·cases e1
   | _=>cases e1
noncomputable def JD:List V->Hp->VK->Prop:=fun xs H Q=>∃ p ys kvs,xs=[.ref p]/\H p=some (.lst ys)/\ys.map (prV H)=kvs.map (fun kv=>some (kV kv.1,kv.2))/\∀ d,H d=none->Q (.ref d) (upd H d (.dK (gH [] kvs)))
theorem qF {X:Cx}(hc:X.calm=true):cS X (.type "dict") JD:=by
 intro pins s σ H xs us Q I r h
 obtain ⟨p,ys,kvs,rfl,hp,al,q⟩:=h
 obtain ⟨u,rfl,rx⟩:=vals1 r
 cases rx
 obtain ⟨z,its,n,rv,h1⟩:=(show bY X.prog X.w H s.heap p (.lst ys) from I.hok p _ hp)
 obtain ⟨rs,c,rk⟩:=uU I rv al
 have ll:kvs.length=ys.length:=by have:=congrArg List.length al;simpa using this.symm
 have lr:kvs.length=rs.length:=rk.length
 refine oU h1 (I.ok.hd hc) (by simpa using c) (by omega) fun h' tk dd kp=>⟨.ref s.heap.objs.size,_,?_,rfl,q _ (I.hok.fresh (Nat.le_refl _))⟩
 have hz:(gH [] kvs).length<=sizeLine:=by
  have:=iP kvs []
  rw [List.length_nil] at this;omega
 exact I.laid (t':=tk) kp (Nat.le_refl _) (EH hz (beq_eq_false_iff_ne.mpr (Ne.symm (Nat.ne_of_lt I.big))) (rk.merge .nil) dd)
end L2
namespace Lw
open PySem L2
noncomputable def J6 (ds:List D):List D:=ds.foldl (fun l d=>insA d l) []
noncomputable def zr (sm:cQ)(n:Str):Option Str:=(sm.find? fun r=>decide (r.1=n)).map (·.2)
noncomputable def one (n z:Str)(l:List D):D:=match l with
 | []=>.str z
 | [d]=>d
 | l=>.tup (.str n :: l)
noncomputable def knot (sm:cQ)(n:Str)(ps:List D):D:=match zr sm n with
 | none=>.tup (.str n :: ps)
 | some z=>one n z (J6 (opn n z ps))
mutual
noncomputable def flt (sm:cQ):D->D
 | .tup (.str n :: ds)=>knot sm n (flts sm ds)
 | .lst (.str n :: ds)=>knot sm n (flts sm ds)
 | d=>d
noncomputable def flts (sm:cQ):List D->List D
 | []=>[]
 | d :: ds=>flt sm d :: flts sm ds
end
mutual
noncomputable def sz:D->Nat
 | .tup (_ :: ds)=>max 1 (szs ds)
 | .lst (_ :: ds)=>max 1 (szs ds)
 | _=>1
noncomputable def szs:List D->Nat
 | []=>0
 | d :: ds=>sz d + szs ds
end
section
variable {P:Program}{w:World}{K:PySem.W.Frag}{mg:eJ}{base:Heap}
theorem zM (x:V)(xs:List V):cutV (x :: xs) (some 1) none=xs:=by
 unfold cutV HT.sIx
 simp
theorem eY.prs {H:Hp}:∀ {sm:cQ} {sv:List V},eY H sm sv->sv.map (prV H)=(sm.map fun r=>((.inr r.1,V.str r.2):eZ×V)).map (fun kv=>some (kV kv.1,kv.2))
 | [],_,e=>by cases e;rfl
 | r :: l,_,⟨t,us,e,h,q⟩=>by
  subst e
  rw [List.map_cons,eY.prs q]
  unfold prV
  simp only [h]
  rfl
theorem lH:∀ (more acc:List (eZ×V)),((acc ++ more).map (·.1)).Nodup->gH acc more=acc ++ more
 | [],acc,_=>by simp [gH]
 | p :: r,acc,h=>by
  have e:putK acc p.1 p.2=acc ++ [p]:=by
   unfold putK
   rw [if_neg]
   intro z
   obtain ⟨y,h1,h2⟩:=List.any_eq_true.mp z
   rw [List.map_append,List.map_cons] at h
   exact (List.nodup_append.mp h).2.2 y.1 (List.mem_map_of_mem h1) p.1 List.mem_cons_self (by simpa using h2)
  show gH (putK acc p.1 p.2) r=_
  rw [e,lH r (acc ++ [p]) (by simpa using h)]
  simp
theorem DW {sm:cQ}(nd:(sm.map (·.1)).Nodup):gH [] (sm.map fun r=>((.inr r.1,V.str r.2):eZ×V))=sm.map fun r=>(.inr r.1,V.str r.2):=by
 rw [lH]
 ·rfl
 ·rw [List.nil_append,List.map_map]
  exact List.pairwise_map.mpr ((List.pairwise_map.mp nd).imp fun h e=>h (Sum.inr.inj e))
theorem BU (n:Str):∀ sm:cQ,valV (sm.map fun r=>((.inr r.1,V.str r.2):eZ×V)) (.inr n)=(zr sm n).map V.str
 | []=>rfl
 | r :: l=>by
  by_cases e:r.1=n
  ·rw [List.map_cons,lS (by rw [e])];simp [zr,e]
  ·rw [List.map_cons,lT (fun z=>e (by cases z;rfl)),BU n l];simp [zr,e]
end
section
variable {P:Program}{w:World}{K:PySem.W.Frag}{mg:eJ}{base:Heap}
theorem Reps.rev {H:Hp}:∀ {ds:List D} {vs:List V},Reps H ds vs->Reps H ds.reverse vs.reverse
 | [],_,e=>by cases e;rfl
 | d :: ds,_,⟨x,r,e,a,b⟩=>by subst e;rw [List.reverse_cons,List.reverse_cons];exact Reps.snoc a (Reps.rev b)
end
end Lw
namespace L2
open PySem PySem.Spec PyProof.Rows
noncomputable def revT {α:Type}(xs:List α):List α:=(xs.drop 1).reverse
theorem AD {α:Type}(x:α)(xs:List α):revT (x :: xs)=xs.reverse:=rfl
theorem EQ (k:Nat):(List.range k).map (fun m=>k - m)=((List.range k).map (fun m=>1 + m)).reverse:=by
 apply List.ext_getElem
 ·simp
 ·intro i h1 h2
  simp at h1 h2 ⊢
  omega
theorem sB (its:cE)(k:Nat)(h:its.length=k + 1):(List.range k).filterMap (fun m=>its.toArray[k - m]?)=(its.drop 1).reverse:=by
 have e:(List.range k).filterMap (fun m=>its.toArray[k - m]?)=((List.range k).map (fun m=>k - m)).filterMap (fun j=>its.toArray[j]?):=by rw [List.filterMap_map];rfl
 rw [e,EQ,List.filterMap_reverse]
 have:=pick_run its.toArray 1 k
 rw [this]
 congr 1
 rw [List.take_of_length_le]
 rw [List.length_drop]
 simp
 omega
theorem AH (its:cE)(h:its≠[]):slicePick its.toArray none (some 0) (some (-1))=(revT its).toArray:=by
 obtain ⟨k,hk⟩:∃ k,its.length=k + 1:=⟨its.length - 1,by have:=List.length_pos_iff.mpr h;omega⟩
 unfold slicePick
 rw [List.size_toArray,hk]
 have e:sliceBounds none (some 0) (some (-1)) (k + 1)=((k:Int),0,-1):=by
  simp only [sliceBounds,Option.getD_some]
  refine Prod.ext ?_ (Prod.ext ?_ rfl)
  ·simp
  ·simp <;> omega
 rw [e]
 have e2:sliceRange (k:Int) 0 (-1)=(List.range k).map fun m=>k - m:=by
  unfold sliceRange
  have c:(if (-1:Int) > 0 then (if (k:Int) < 0 then (0 - (k:Int) + -1 - 1) / -1 else 0) else (if (k:Int) > 0 then ((k:Int) - 0 - -1 - 1) / (- -1) else 0)).toNat=k:=by
   rw [if_neg (by decide)]
   split
   ·have:((k:Int) - 0 - -1 - 1) / (- -1)=k:=by rw [show (- -1:Int)=1 from rfl,Int.ediv_one];omega
    rw [this];omega
   ·omega
  dsimp only
  rw [c]
  refine List.map_congr_left fun m hm=>?_
  have:=List.mem_range.mp hm
  omega
 dsimp only
 rw [e2,List.filterMap_map]
 have:=sB its k hk
 unfold revT
 rw [← this]
 rfl
theorem uA {prog:Program}{w:World}{A:Around}{E:cY}{s:Shared}{sl:Addr}{vl vu vt:Value}{n:Nat}{Q:Int×Int×Nat->Shared->Prop}(hs:s.heap.IsSliceOf sl vl vu vt)(pl:IsPart vl none)(pu:IsPart vu (some 0))(pt:IsPart vt (some (-1)))(hn:1<=n)
  (h:Q ((n:Int) - 1,-1,n - 1) s):wpAny (model prog w) A (Builtin.Slice.sliceApplied (.ref sl) (pure (n:Int))) Q E s:=by
 obtain ⟨os,hos,hcs,hds⟩:=id hs
 unfold Builtin.Slice.sliceApplied Builtin.Slice.sliceFields
 refine wpAny_bind (wpAny_bind (wpAny_field hos hds (x:=vl) rfl (wpAny_bind (wpAny_field hos hds (x:=vu) rfl (wpAny_bind (wpAny_field hos hds (x:=vt) rfl (wpAny_pure ?_)))))))
 refine wpAny_bind (HT.slicePart_ pt ?_)
 show wpAny _ _ (if ((-1:Int) == 0)=true then _ else _) _ _ s
 rw [if_neg (by decide)]
 refine wpAny_bind (HT.slicePart_ pl (wpAny_bind (HT.slicePart_ pu (wpAny_bind (wpAny_pure ?_)))))
 have e1:Builtin.Slice.sliceAdjust none (some 0) (-1) (n:Int)=((n:Int) - 1,0):=by
  unfold Builtin.Slice.sliceAdjust
  refine Prod.ext ?_ ?_
  ·simp
  ·simp
   omega
 have e2:Builtin.Slice.slicePlaces ((n:Int) - 1) 0 (-1)=n - 1:=by
  unfold Builtin.Slice.slicePlaces
  rw [if_neg (by decide)]
  split
  ·rw [show (- -1:Int)=1 from rfl,Int.ediv_one];omega
  ·omega
 show wpAny _ _ (match Builtin.Slice.sliceAdjust none (some 0) (-1) (n:Int) with | (lo,hi)=>pure (lo,(-1:Int),Builtin.Slice.slicePlaces lo hi (-1))) _ _ s
 rw [e1]
 show wpAny _ _ (pure ((n:Int) - 1,(-1:Int),Builtin.Slice.slicePlaces ((n:Int) - 1) 0 (-1))) _ _ s
 rw [e2]
 exact wpAny_pure h
theorem wC {prog:Program}{w:World}{A:Around}{E:cY}{s:Shared}{t sl:Addr}{its:cE}{vl vu vt:Value}{Q:cY}(ht:IsTup s.heap t its.toArray)(hs:s.heap.IsSliceOf sl vl vu vt)(pl:IsPart vl none)(pu:IsPart vu (some 0))(pt:IsPart vt (some (-1)))(hn:its≠[])(hz:its.length<=sizeLine)
  (h:Q (.ref s.heap.objs.size) { s with heap:=s.heap.push { cls:=.type "tuple",data:=.seq (revT its).toArray } }):wpAny (model prog w) A (getItem (.ref t) (.ref sl)) Q E s:=by
 obtain ⟨k,hk⟩:∃ k,its.length=k + 1:=⟨its.length - 1,by have:=List.length_pos_iff.mpr hn;omega⟩
 obtain ⟨os,hos,hcs,hds⟩:=id hs
 have hTs:s.TypeIs (.ref sl) "slice":=⟨os,hos,hcs⟩
 unfold getItem
 try with_reducible refine wpAny_holding ?_
 first | refine wpAny_bind (wpAny_pure ?_) | skip
 refine wpAny_bind (wpAny_sequenceKey ht.typeIs (by decide) ?_)
 refine wpAny_bind (wpAny_callSpecial?_slot (name:=Str.ofString "__getitem__") ht.typeIs PyProof.Rows.slot_tuple_getitem
  (wpAny_call_entry PyProof.Rows.slot_tuple_getitem ht.typeIs entry_tuple_getitem ?_ (args_tuple_getitem _ _)))
 show wpAny _ _ (Builtin.Tuple.tupleItemsOf (.ref t) >>= _) _ _ s
 refine wpAny_bind (tupleItemsOf_ ht ?_)
 refine wpAny_bind (wpAny_typeOf hTs ?_)
 rw [if_pos (by decide)]
 refine wpAny_bind (uA (n:=its.toArray.size) hs pl pu pt (by rw [List.size_toArray];omega) ?_)
 dsimp only
 rw [if_neg (by intro q;rw [Bool.and_eq_true,Bool.and_eq_true] at q;exact absurd q.1.2 (by decide))]
 have e:((List.range (its.toArray.size - 1)).filterMap fun (m:Nat)=>its.toArray[(((its.toArray.size:Nat):Int) - 1 + (m:Int) * -1).toNat]?).toArray=(revT its).toArray:=by
  rw [List.size_toArray,hk]
  have q:=sB its k hk
  unfold revT
  rw [← q]
  congr 2
  funext m
  congr 1
  omega
 rw [e]
 have hsz:sizeOk (.seq (revT its).toArray):=by
  show (revT its).toArray.size<=sizeLine
  rw [List.size_toArray]
  unfold revT
  rw [List.length_reverse,List.length_drop]
  omega
 first
  | exact wpAny_bind (m:=Builtin.Tuple.tupleExact _) (wpAny_newObj_type (wpAny_pure ⟨_,rfl,wpAny_pure h⟩) hsz)
  | exact wpAny_bind (m:=Builtin.Tuple.tupleExact _) (wpAny_newObj_type (wpAny_bind (wpAny_pure (wpAny_pure ⟨_,rfl,wpAny_pure h⟩))) hsz)
  | exact wpAny_bind (wpAny_bind (m:=Builtin.Tuple.tupleExact _) (wpAny_newObj_type (wpAny_pure (wpAny_pure ⟨_,rfl,wpAny_pure h⟩)) hsz))
  | exact wpAny_bind (wpAny_bind (m:=Builtin.Tuple.tupleExact _) (wpAny_newObj_type (wpAny_pure ⟨_,rfl,wpAny_pure h⟩) hsz))
noncomputable def K7 (X:Cx)(r:V->Option Int->Option Int->Option Int->Hp->VK->Prop):Prop :=
 ∀ (pins:cZ) (s:Shared) (σ:St) (H:Hp) (x:V) (v vl vu vt:Value) (lo hi st:Option Int) (sl:Addr) (Q:VK),aN X pins σ H s->aQ x v->s.heap.IsSliceOf sl vl vu vt->IsPart vl lo->IsPart vu hi->IsPart vt st->r x lo hi st H Q ->
  ∃ T id,typeLookup (.type T) "__getitem__" = pure (some (.builtin id))/\s.TypeIs v T/\wpAny (model X.prog X.w) X.A (getItem v (.ref sl)) (EP X pins σ Q) X.xe s
noncomputable def tSl3 (r:V->Option Int->Option Int->Option Int->Hp->VK->Prop)(te:TE)(tl th tt:TO):TE:=fun σ H Q=>te σ H fun x H1=>tl σ H1 fun l H2=>th σ H2 fun u H3=>tt σ H3 fun t H4=>r x l u t H4 Q
theorem AI {X:Cx}{e:Expr}{te:TE}{lo hi:Option Expr}{st:Expr}{tl th tt:TO}{pos p2:Pos}{r:V->Option Int->Option Int->Option Int->Hp->VK->Prop}(hr:K7 X r)(he:PE X e te)(hl:PO X lo tl)(hu:PO X hi th)(ht:PO X (some st) tt):PE X (.Subscript e (.Slice lo hi (some st) p2) pos) (tSl3 r te tl th tt):=by
 intro pins s σ H Q I h
 refine Subscript_ (thn (he pins s σ H _ I h) fun v s1 ⟨x,H1,I1,r1,q1⟩=>?_)
 refine wpAny_Slice (thn (hl pins s1 σ H1 _ I1 q1) fun vl s2 ⟨l,H2,I2,pl,q2⟩=>thn (hu pins s2 σ H2 _ I2 q2) fun vu s3 ⟨u,H3,I3,pu,q3⟩=>thn (ht pins s3 σ H3 _ I3 q3) fun vt s4 ⟨t,H4,I4,pt,q4⟩=>?_)
 have I5:aN X pins σ H4 { s4 with heap:=s4.heap.push { cls:=.type "slice",data:=.fields #[vl,vu,vt] } }:=I4.kept (t':=s4.toks) fun b ob q=>Heap.get?_push_of_some _ q
 obtain ⟨T,id,hT,hy,hg⟩:=hr pins _ σ H4 x v vl vu vt l u t s4.heap.objs.size Q I5 r1 (Heap.IsSliceOf.new ..) pl pu pt q4
 exact tail_any (ops:=[v,.ref s4.heap.objs.size]) hy hT hg (by with_unfolding_all rfl)
noncomputable def rBack:V->Option Int->Option Int->Option Int->Hp->VK->Prop:=fun x lo hi st H Q=>lo=none/\hi=some 0/\st=some (-1)/\∃ a xs,x = .ref a/\j4 H a xs/\xs≠[] /\
 ∀ p o,H p=none->(o = .lst (revT xs)/\H a=some (.lst xs)∨o = .tup (revT xs)/\H a=some (.tup xs))->Q (.ref p) (upd H p o)
theorem aV.revT {xs:List V}{us:cE}(h:aV xs us):aV (revT xs) (L2.revT us):=(h.drop 1).reverse
theorem uR {α:Type}(xs:List α):(revT xs).length<=xs.length:=by unfold revT;rw [List.length_reverse,List.length_drop];omega
theorem yD {xs:List V}{us:cE}(h:aV xs us)(n:xs≠[]):us≠[]:=fun z=>by
 have:=h.length
 rw [z] at this
 exact n (List.length_eq_zero_iff.mp this)
theorem FE {X:Cx}:K7 X rBack:=by
 intro pins s σ H x v vl vu vt lo hi st sl Q I rx hs pl pu pt h
 obtain ⟨rfl,rfl,rfl,a,xs,rfl,ha | ha,hn,q⟩:=h
 ·cases rx
  obtain ⟨its,r,hl,hz⟩:=I.list (fH.of ha)
  refine ⟨"list",_,slot_list_getitem.lookup,hl.isList.typeIs,?_⟩
  have hlen:=r.length
  refine wpAny_getItem_list_slice hl.isList hs pl pu pt (by decide) ?_ (by rw [List.size_toArray] <;> omega)
  rw [AH its (yD r hn)]
  refine ⟨.ref s.heap.objs.size,_,I.laid (t':=s.toks) (o:=.lst (revT xs)) (fun b ob q=>Heap.get?_push_of_some _ q) (Nat.le_refl _) ?_,rfl,q _ _ (I.hok.fresh (Nat.le_refl _)) (.inl ⟨rfl,ha⟩)⟩
  exact ⟨Nat.le_trans (uR xs) hz,_,0,r.revT,Heap.get?_push_size _ rfl⟩
 ·cases rx
  obtain ⟨its,r,hl,hz⟩:=I.tuple (iE.of ha)
  refine ⟨"tuple",_,PyProof.Rows.slot_tuple_getitem.lookup,hl.typeIs,?_⟩
  have hlen:=r.length
  refine wC hl hs pl pu pt (yD r hn) (by omega) ?_
  refine ⟨.ref s.heap.objs.size,_,I.laid (t':=s.toks) (o:=.tup (revT xs)) (fun b ob q=>Heap.get?_push_of_some _ q) (Nat.le_refl _) ?_,rfl,q _ _ (I.hok.fresh (Nat.le_refl _)) (.inr ⟨rfl,ha⟩)⟩
  exact ⟨Nat.le_trans (uR xs) hz,_,r.revT,⟨_,Heap.get?_push_size _ rfl,rfl,_,rfl⟩⟩
noncomputable def rExtU:V->List V->Hp->VK->Prop:=fun x vs H Q=>∃ l b xs zs,x = .ref l/\vs=[.ref b]/\H l=some (.lst xs)/\j4 H b zs/\xs.length + zs.length<=sizeLine/\Q .non (upd H l (.lst (xs ++ zs)))
theorem G0 {l b:Addr}{its its2:uH}{n n2:Nat}{od:Option Addr}{osl:Array (Option Value)}(h0:(!its.isEmpty && Builtin.List.listTooLong (its.size + its2.size))=false)(h1:its.size<=sizeLine)(h2:its.size + its2.size<=sizeLine + 1) :
  Meets (Builtin.«list.extend» ⟨[.ref l,.ref b],[]⟩) (fun _ R s=>s.heap.get? l=some { cls:=.type "list",data:=.seq its n }/\s.heap.get? b=some ⟨.type "tuple",od,.seq its2 n2,osl⟩ /\
   R (.ok (.ret .none)) { s with heap:=s.heap.update l (Obj.mapSeq fun x=>x ++ its2) }):=by
 refine .of_wp fun prog w A R s1 h=>?_
 obtain ⟨hp,g,d,tk,os⟩:=s1
 obtain ⟨hl,hb,h⟩:=h
 have h0:¬ (!its.isEmpty && Builtin.List.listTooLong (its.size + its2.size))=true:=by rw [h0];decide
 have f1:=AutoSeq1.idx_int
 have f4:=AutoSeq1.sub_tuple_list
 have f5:=AutoSeq1.sub_list_tuple
 have h3:(its ++ its2).size<=sizeLine + 1:=by
  rw [Array.size_append]
  exact h2
 wp_walk using (wpAny_updateSeq hl rfl (hz:=h1) (_hz':=h3)),
  wpAny_loadPart' hl,wpAny_loadPart' hb
 exact ⟨_,rfl,h⟩
theorem GQ {X:Cx}:LD X "list.extend" rExtU:=by
 intro pins s σ H x vs v us Q I rx rv h
 obtain ⟨l,b,xs,zs,hx,hv,hH,hB | hB,hz,q⟩:=h
 ·exact AR pins s σ H x vs v us Q I rx rv ⟨l,b,xs,zs,hx,hv,hH,hB,hz,q⟩
 subst hx hv
 cases rx
 obtain ⟨u,rfl,ru⟩:=rv.one
 cases ru
 obtain ⟨z,its,n,r,hl,e⟩:=I.lstM hH
 obtain ⟨its2,r2,⟨⟨oc,od,odt,osl⟩,e2,c2,n2,d2⟩,z2⟩:=I.tuple (iE.of hB)
 cases c2
 cases d2
 have hl2:=r2.length
 have hsz:its.toArray.size + its2.toArray.size<=sizeLine:=by rw [List.size_toArray,List.size_toArray];omega
 have m:=G0 (l:=l) (b:=b) (its:=its.toArray) (its2:=its2.toArray) (n:=n) (n2:=n2) (od:=od) (osl:=osl) (by rw [pW hsz,Bool.and_false]) (by rw [List.size_toArray];omega) (by omega)
 refine call_meets F.slot_list_extend ⟨_,e,rfl⟩ F.entry_list_extend (F.args_list_extend_2 _ _) m ⟨e,e2,?_⟩
 refine ⟨.non,_,I.lset (its':=its ++ its2) hH e (by simp) (r.append r2) ?_,rfl,q⟩
 rw [List.length_append]
 omega
noncomputable def tl1 (z:Str):Str:=⟨(z.cps.toList.drop 1).toArray⟩
noncomputable def rSlTx:V->Option Int->Option Int->Hp->VK->Prop:=fun x lo hi H Q=>∃ z,x = .str z/\lo=some 1/\hi=none/\1<=z.length/\z.length<=sizeLine/\Q (.str (tl1 z)) H
theorem AG (z:Str)(h:1<=z.length)(u:Tok):slicePicked z (some (1,u)) none none=(List.range (z.length - 1)).map fun m=>1 + m:=by
 show Builtin.Str.strSliceIndices (some 1) none 1 z.length=_
 unfold Builtin.Str.strSliceIndices;dsimp only
 rw [if_neg (show ¬ (1:Int) < 0 by decide),if_pos (show (1:Int) > 0 by decide),if_pos (show (1:Int) > 0 by decide)]
 have e:max 0 (min 1 (z.length:Int))=1:=by omega
 rw [e]
 unfold sliceRange
 dsimp only
 rw [if_pos (by decide)]
 have c:(if (1:Int) < (z.length:Int) then ((z.length:Int) - 1 + 1 - 1) / 1 else 0).toNat=z.length - 1:=by
  split
  ·rw [Int.ediv_one];omega
  ·omega
 rw [c]
 refine List.map_congr_left fun m _=>?_
 omega
theorem IZ {X:Cx}:KW X rSlTx:=by
 intro pins s σ H x v vl vu lo hi sl Q I rx hs pl pu h
 obtain ⟨z,rfl,rfl,rfl,h1,hz,q⟩:=h
 obtain ⟨t,rfl⟩:=rx
 cases pl
 rename_i tk
 cases pu
 refine ⟨"str",_,F.slot_str_getitem.lookup,typeIs_str _ _ _,?_⟩
 refine wpAny_getItem_str_slice (l:=some (1,tk)) (u:=none) (st:=none) hs rfl ?_
 have hp:=AG z h1 tk
 unfold sliceMade
 rw [hp,if_neg (by intro w;rw [Bool.and_eq_true] at w;have:=eq_of_beq w.2;simp at this;omega)]
 have e:(((List.range (z.length - 1)).map fun m=>1 + m).filterMap (z.cps[·]?)).toArray=(z.cps.toList.drop 1).toArray:=by
  have:=pick_run z.cps 1 (z.length - 1)
  rw [this]
  congr 1
  rw [List.take_of_length_le]
  rw [List.length_drop,Array.length_toList]
  exact Nat.le_refl _
 rw [e]
 refine ⟨?_,.str (tl1 z),H,I.tok _,⟨_,rfl⟩,q⟩
 show (z.cps.toList.drop 1).toArray.size<=sizeLine
 have hd:(z.cps.toList.drop 1).length=z.cps.size - 1:=by simp
 rw [List.size_toArray,hd]
 exact Nat.le_trans (Nat.sub_le _ _) hz
noncomputable def LN (z:Str):It:=⟨fun i _=>i < z.cps.size,fun i H x H'=>H'=H/\∃ c,z.cps[i]?=some c/\x = .str ⟨#[c]⟩,fun i _=>i=z.cps.size⟩
theorem B6 {P:Program}{w:World}{K:PySem.W.Frag}{tg:Expr}(it:Addr)(z:Str)(t:Tok):qV P w K tg (LN z) [it] it (fun i h=>h.IsStrIter it "str_ascii_iterator" z t i) where
 mem:=by simp
 obj:=fun i h st b hb=>by
  obtain rfl:b=it:=by simpa using hb
  obtain ⟨o,e,c,d⟩:=st
  exact ⟨o,e,fun v q=>by rw [d] at q;cases q⟩
 keep:=fun i h h' st k=>by
  obtain ⟨o,e,r⟩:=st
  exact ⟨o,k it (by simp) o e,r⟩
 item:=by
  intro X hP hw hK hc i pins s σ H E I hf st hg
  subst hP hw hK
  obtain ⟨f0,f1,f2,f3,f4,f5⟩:=hf it (by simp)
  have W:=Walks.strAscii (prog:=X.prog) (w:=X.w) (I.ok.hd hc) it z t
  refine W.item i s _ _ hg st fun v h' tk hv st' kk=>?_
  obtain ⟨c,u,hcu,rfl⟩:=hv
  have I1:aN X pins σ H { s with heap:=h',toks:=tk }:=I.turned (fun b o hb e=>kk b o (by simpa using hb) e) f0 f1 f3 f4 f5
  obtain ⟨o,e,cc,d⟩:=id st'
  exact ⟨_,rfl,vI (s:={ s with heap:=h',toks:=tk }) e cc d (by decide) ⟨.str ⟨#[c]⟩,H,I1,⟨u,rfl⟩,⟨rfl,c,hcu,rfl⟩,st',fun b hb=>(hf b hb).1⟩⟩
 done:=by
  intro X hP hw hK hc i pins s σ H E I hf st hg
  subst hP hw hK
  obtain ⟨f0,f1,f2,f3,f4,f5⟩:=hf it (by simp)
  have hg:i=z.cps.size:=hg
  subst hg
  exact wpAny_pyNext_ascii_end (I.ok.hd hc) st (by simp) fun h' eb=>⟨rfl,I.turned (t':=s.toks) (fun b o hb e=>eb b o hb e) f0 f1 f3 f4 f5⟩
 self:=fun _ _ _ _ _ st h=>wpAny_pyIter_striter_ascii st h
noncomputable def iTxt (te:TE):TI:=fun σ H R=>te σ H fun x H1=>∃ z:Str,x = .str z/\z.cps.all (· < 128)=true/\R (LN z) H1
theorem tG {X:Cx}{tg e:Expr}{te:TE}(he:PE X e te):PI X tg e (iTxt te):=by
 intro pins s σ H R I h
 refine thn (he pins s σ H _ I h) fun v s1 ⟨x,H1,I1,r1,q1⟩=>?_
 obtain ⟨z,rfl,ha,q⟩:=q1
 obtain ⟨t,rfl⟩:=r1
 refine wpAny_pyIter_ascii ha ?_
 refine ⟨s1.heap.objs.size,[s1.heap.objs.size],_,_,H1,rfl,I1.kept (t':=s1.toks) fun b o e=>Heap.get?_push_of_some _ e,B6 _ z t,⟨_,Heap.get?_push_size _ rfl,rfl,rfl⟩,fun b hb=>?_,q⟩
 obtain rfl:b=s1.heap.objs.size:=by simpa using hb
 exact I1.fpOk (Nat.le_refl _) (I1.hok.fresh (Nat.le_refl _))
section
variable {X:Cx}{CX:sG}{k:Nat}{sp:Sp}{E:XK}{x m:Str}{C:Addr}{p pos apos:Pos}{o e:Expr}{es:iW}{ta:TE}{t:TA}
theorem w5 {pl:Sem Bool}(O:ET X.prog X.w X.K X.mg X.base CX k C m sp)(hr:fR k X.A)(hx:fY CX X E)(he:PE X o ta)(ha:PA X (e :: es) t)
  (hst:starEach (e :: es) X.env=(false,eval e X.env) :: starEach es X.env:=by rfl) (hpl:(backTo pos (starEach es X.env)).any (·.1)=false:=by rfl)
  (ht:eval (.Call (.Attribute o m apos) (e :: es) [] pos) X.env=(do
   let ov ← eval o X.env
   standAt apos.atName
   let (f,first) ← holding [ov] (getMethod ov m pl)
   callWith pos f first (backTo pos (starEach (e :: es) X.env)) (backToKw pos (keywordEach [] X.env))):=by rfl):PE X (.Call (.Attribute o m apos) (e :: es) [] pos) (tMeth C m sp [] E ta t):=by
 obtain ⟨f,fd,ps,F,M,hb,c⟩:=O
 exact FS he c M F hr hb .nil hx ha hst hpl ht
noncomputable def KL (P:Program)(w:World)(K:PySem.W.Frag)(mg:eJ)(base:Heap)(CX:sG)(k:Nat)(x:Str)(C:Addr)(sp:Sp):Prop :=
 ∃ f fd ps,cF P w K mg base CX k f fd ps sp/\mg x=some (.ref C)/\Mk K C f/\fK K fd ps []
theorem K3 (O:KL X.prog X.w X.K X.mg X.base CX k x C sp)(hr:fR (k + 1) X.A)(hx:fY CX X E)(hg:Gl X x)(ha:PA X (e :: es) t)(hdb:(x == ("__debug__" : Str))=false:=by decide)
  (he:starEach (e :: es) X.env=(false,eval e X.env) :: starEach es X.env:=by rfl) (hpl:(backTo pos (starEach es X.env)).any (·.1)=false:=by rfl):PE X (.Call (.Name x p) (e :: es) [] pos) (tMake C sp [] E t):=by
 obtain ⟨f,fd,ps,F,hm,M,hb⟩:=O
 exact FT M F hr hg hm hb .nil hx ha hdb he hpl
end
section
variable {g:TG}{tt:TT}{te:TE}{Q:VK}{σ:St}{H:Hp}
theorem nW {z:Str}(Pv:Nat->List V->St->Hp->Prop)(h0:Pv 0 [] σ H)(hs:∀ i c acc σ H,z.cps[i]?=some c->Pv i acc σ H->CStep g tt te (.str ⟨#[c]⟩) acc σ H (Pv (i + 1)))
  (hd:∀ acc σ H,Pv z.cps.size acc σ H->∀ p,H p=none->Q (.ref p) (upd H p (.lst acc))):kQ (LN z) g tt te Q σ H :=
 kH (n:=z.cps.size) Pv h0 (fun i acc σ H hi p=>⟨hi,fun x H' y=>by obtain ⟨rfl,c,hc,rfl⟩:=y;exact hs i c acc σ _ hc p⟩) fun acc σ H p=>⟨rfl,hd acc σ H p⟩
end
noncomputable def inTx (z:Str)(c:Nat):Bool:=!(Builtin.Str.occurrences z ⟨#[c]⟩ 0 z.length 1).isEmpty
end L2
namespace Lw
open PySem L2
section
variable {P:Program}{w:World}{K:PySem.W.Frag}{mg:eJ}{base:Heap}
noncomputable def mulO (fx:cL)(n:Str):Option Int:=(fx.find? fun r=>decide (r.1=n)).map (·.2)
noncomputable def mulV (fx:cL)(n:Str):V:=((mulO fx n).map V.int).getD .non
noncomputable def nulV (sm:cQ)(n:Str):V:=((zr sm n).map V.str).getD .non
theorem BV (n:Str):∀ fx:cL,valV (fx.map fun r=>((.inr r.1,V.int r.2):eZ×V)) (.inr n)=(mulO fx n).map V.int
 | []=>rfl
 | r :: l=>by
  by_cases e:r.1=n
  ·rw [List.map_cons,lS (by rw [e])];simp [mulO,e]
  ·rw [List.map_cons,lT (fun z=>e (by cases z;rfl)),BV n l];simp [mulO,e]
structure oV (K:PySem.W.Frag)(C:Addr)(fx:cL)(sm:cQ)(H:Hp)(g:Addr):Prop where
 cls:BO K C
 n1:gK K C "many_by_name"
 n2:gK K C "nought_by_name"
 ex:∃ dx fs dm dn,H g=some (.ins C dx fs)/\fs.lookup ("many" : Str)=none/\fs.lookup ("nought" : Str)=none/\fs.lookup ("many_by_name" : Str)=some (.ref dm)/\fs.lookup ("nought_by_name" : Str)=some (.ref dn) /\
  H dm=some (.dK (fx.map fun r=>(.inr r.1,.int r.2)))/\H dn=some (.dK (sm.map fun r=>(.inr r.1,.str r.2)))
theorem oV.same {C:Addr}{fx:cL}{sm:cQ}{H H':Hp}{g:Addr}(h:oV K C fx sm H g)(s:aJ H H'):oV K C fx sm H' g:=by
 obtain ⟨a,b,c,dx,fs,dm,dn,h1,h2,h3,h4,h5,h6,h7⟩:=h
 exact ⟨a,b,c,dx,fs,dm,dn,s _ _ h1,h2,h3,h4,h5,s _ _ h6,s _ _ h7⟩
noncomputable def wO (K:PySem.W.Frag)(C:Addr):Sp:=fun vs H Q _=>∃ (g:Addr) (n:Str) (fx:cL) (sm:cQ),vs=[.ref g,.str n]/\oV K C fx sm H g/\Q (mulV fx n) H
theorem GI {f C:Addr}{fd:FuncData}(F:gN K "many" "Signs.many" dY f fd)(T:Txt mg):cF P w K mg base bP 1 f fd jW (wO K C):=by
 refine F.ok qP (fun vs H Q E h=>?_) (fun cdv A outer s H vs Q E hr h=>?_)
 ·obtain ⟨g,n,fx,sm,rfl,_⟩:=h
  rfl
 ·obtain ⟨g,n,fx,sm,rfl,⟨c1,c2,c3,dx,fs,dm,dn,h1,h2,h3,h4,h5,h6,h7⟩,q⟩:=h
  have hu:=hr.units
  refine ⟨_,(aH (aR (mC (aU K rfl (aK aL rfl T.n_isinstance rfl (aA (pv 1) (aA (bX (v:=V.ty "str") rfl T.n_str rfl rfl) aB))) (fun _=>rfl)) (uV (Nat.lt_of_le_of_lt (Nat.add_le_add_left (by decide) _) hu) (CU (pv 0) rfl) (pv 1) ⟨rfl,rfl,rfl,rfl⟩) jL))),?_⟩
  simp only [mX]
  clear hr F T hu
  have d6:=BN.k (k:=.inr n) h6
  rw [BV] at d6
  have keep:=aI q (aI c1 (aI c2 (aI h1 (aI h4 (aI h6 d6)))))
  clear q c1 c2 c3 h1 h2 h3 h4 h5 h6 h7 d6
  walk_at "rd"
  obtain ⟨q,c1,c2,h1,h4,h6,d6⟩:=keep
  refine ⟨true,rfl,?_⟩
  rw [if_pos rfl]
  exact ⟨_,rfl,g,C,dx,fs,_,rfl,h1,c1,c2,h4,dm,rfl,.inl ⟨_,.inl h6⟩,_,rfl,_,d6,q⟩
noncomputable def pJ (K:PySem.W.Frag)(C:Addr):Sp:=fun vs H Q _=>∃ (g:Addr) (n:Str) (fx:cL) (sm:cQ),vs=[.ref g,.str n]/\oV K C fx sm H g/\Q (nulV sm n) H
theorem AL {f C:Addr}{fd:FuncData}(F:gN K "nought" "Signs.nought" cV f fd)(T:Txt mg):cF P w K mg base bP 1 f fd h8 (pJ K C):=by
 refine F.ok oS (fun vs H Q E h=>?_) (fun cdv A outer s H vs Q E hr h=>?_)
 ·obtain ⟨g,n,fx,sm,rfl,_⟩:=h
  rfl
 ·obtain ⟨g,n,fx,sm,rfl,⟨c1,c2,c3,dx,fs,dm,dn,h1,h2,h3,h4,h5,h6,h7⟩,q⟩:=h
  have hu:=hr.units
  refine ⟨_,(aH (aR (mC (aU K rfl (aK aL rfl T.n_isinstance rfl (aA (pv 1) (aA (bX (v:=V.ty "str") rfl T.n_str rfl rfl) aB))) (fun _=>rfl)) (uV (Nat.lt_of_le_of_lt (Nat.add_le_add_left (by decide) _) hu) (CU (pv 0) rfl) (pv 1) ⟨rfl,rfl,rfl,rfl⟩) jL))),?_⟩
  simp only [kP]
  clear hr F T hu
  have d7:=BN.k (k:=.inr n) h7
  rw [BU] at d7
  have keep:=aI q (aI c1 (aI c3 (aI h1 (aI h5 (aI h7 d7)))))
  clear q c1 c2 c3 h1 h2 h3 h4 h5 h6 h7 d7
  walk_at "rd"
  obtain ⟨q,c1,c3,h1,h5,h7,d7⟩:=keep
  refine ⟨true,rfl,?_⟩
  rw [if_pos rfl]
  exact ⟨_,rfl,g,C,dx,fs,_,rfl,h1,c1,c3,h5,dn,rfl,.inl ⟨_,.inl h7⟩,_,rfl,_,d7,q⟩
theorem K2 {c:Nat}(h:isWd c):inTx "abcdefghijklmnopqrstuvwxyz0123456789" c=true:=by
 have a:∀ j:Fin 26,inTx "abcdefghijklmnopqrstuvwxyz0123456789" (97 + j.1)=true:=by decide +kernel
 have b:∀ j:Fin 10,inTx "abcdefghijklmnopqrstuvwxyz0123456789" (48 + j.1)=true:=by decide +kernel
 unfold isWd at h
 rcases h with h | h
 ·have:=a ⟨c - 97,by omega⟩
  rw [show 97 + (c - 97)=c by omega] at this
  exact this
 ·have:=b ⟨c - 48,by omega⟩
  rw [show 48 + (c - 48)=c by omega] at this
  exact this
theorem jA {H:Hp}{z:Str}(h:z.length<=sizeLine):lenV H (.str z)=some z.length:=if_pos h
theorem zF {H:Hp}{z:Str}{i:Int}(h:z.length<=sizeLine):ixV H (.str z) (.int i)=(atI z.cps.toList i).map fun c=>.str ⟨#[c]⟩:=if_pos h
theorem mI {fx:cL}{sm:cQ}(so:bC fx sm){n:Str}{k:Int}(h:(n,k) ∈ fx):mulO fx n=some k:=by
 have nd:=(List.nodup_append.mp so.nd).1
 unfold mulO
 clear so
 induction fx with
 | nil=>cases h
 | cons r l ih =>
  rw [List.map_cons,List.nodup_cons] at nd
  obtain rfl | h:=List.mem_cons.mp h
  ·simp
  ·have ne:r.1≠n:=fun e=>nd.1 (by rw [e];exact List.mem_map_of_mem (f:=(·.1)) h)
   rw [List.find?_cons,decide_eq_false ne]
   exact ih h nd.2
theorem E6 {sm:cQ}{n:Str}(h:n ∉ sm.map (·.1)):zr sm n=none:=by
 unfold zr
 rw [List.find?_eq_none.mpr]
 ·rfl
 ·intro r hr e
  exact h (List.mem_map.mpr ⟨r,hr,of_decide_eq_true e⟩)
theorem E5 {sm:cQ}{n:Str}(h:n ∈ sm.map (·.1)):∃ z,zr sm n=some z:=by
 obtain ⟨r,hr,e⟩:=List.mem_map.mp h
 cases q:sm.find? (fun r=>decide (r.1=n)) with
 | none=>exact absurd (decide_eq_true e) (List.find?_eq_none.mp q r hr)
 | some z=>exact ⟨z.2,by unfold zr;rw [q];rfl⟩
mutual
noncomputable def nds:D->Nat
 | .tup (_ :: ds)=>1 + ndss ds
 | .lst (_ :: ds)=>1 + ndss ds
 | _=>1
noncomputable def ndss:List D->Nat
 | []=>0
 | d :: ds=>nds d + ndss ds
end
theorem yW (d:D):1<=nds d:=by
 unfold nds
 split <;> omega
theorem kE:∀ ds:List D,ds.length<=ndss ds
 | []=>Nat.le_refl _
 | d :: ds=>by rw [ndss,List.length_cons];have:=yW d;have:=kE ds;omega
theorem fQ:∀ ds es:List D,ndss (ds ++ es)=ndss ds + ndss es
 | [],es=>by simp [ndss]
 | d :: ds,es=>by rw [List.cons_append,ndss,fQ ds es,ndss];omega
theorem u9:∀ ds:List D,ndss ds.reverse=ndss ds
 | []=>rfl
 | d :: ds=>by rw [List.reverse_cons,fQ,u9 ds,ndss,ndss,ndss];omega
theorem IJ {c:TT}{tb:TS}{D:gR}{σ:St}{H:Hp}(Pv:Nat->St->Hp->Prop)(n:Nat)(h0:Pv n σ H)
  (hs:∀ n σ H,Pv n σ H->∀ R:Bool->Hp->Prop,(∀ H',tb { D with nx:=fun σ' H''=>∃ m,m < n/\Pv m σ' H'',ct:=fun σ' H''=>∃ m,m < n/\Pv m σ' H'',bk:=D.nx } σ H'->R true H')->(∀ H',D.nx σ H'->R false H')->c σ H R):wH c tb D σ H:=by
 refine ⟨Pv,⟨n,h0⟩,?_⟩
 intro m σ H p
 refine hs m σ H p _ (fun H' h=>?_) (fun H' h=>?_)
 ·rw [if_pos rfl]
  exact ⟨_,fun σ' H'' z=>z,h⟩
 ·rw [if_neg (by decide)];exact h
theorem mP {H:Hp}{p:Addr}{o:HO}:del (upd H p o) p=del H p:=by
 funext b
 unfold del upd
 by_cases e:b=p
 ·rw [if_pos e,if_pos e]
 ·rw [if_neg e,if_neg e,if_neg e]
theorem zL {H:Hp}{t p:Addr}{o:HO}(h:H p=none):aJ (del H t) (del (upd H p o) t):=fun b u e=>by
 obtain ⟨h1,h2⟩:=gO e
 exact jB (by rw [aE (aG h1 h)];exact h1) h2
theorem jC {H H':Hp}{t:Addr}(s:aJ H H'):aJ (del H t) (del H' t):=fun b u e=>by
 obtain ⟨h1,h2⟩:=gO e
 exact jB (s _ _ h1) h2
theorem oC {H:Hp}{d:D}:∀ {ds:List D} {vs:List V},Reps H (ds ++ [d]) vs->∃ us v,vs=us ++ [v]/\Reps H ds us/\cD H d v
 | [],vs,⟨v,r,e,h,h'⟩=>by
  cases (show r=[] from h')
  exact ⟨[],v,e,rfl,h⟩
 | c :: ds,vs,⟨v,r,e,h,h'⟩=>by
  obtain ⟨us,u,e2,h2,h3⟩:=oC (ds:=ds) h'
  exact ⟨v :: us,u,by rw [e,e2];rfl,⟨v,us,rfl,h,h2⟩,h3⟩
noncomputable def tp (r:D×Nat):D:=.tup [r.1,.int r.2]
noncomputable def ML (t:Addr)(ds:List D)(k:Nat)(H5:Hp)(i:Nat)(acc:List V)(σ:St)(H6:Hp):Prop:=∃ o0:Option V,σ=[o0,some (.int k)]/\aJ H5 H6/\Reps (del H6 t) ((ds.reverse.take i).map fun d=>tp (d,k + 1)) acc
theorem J8 {H:Hp}{t:Addr}(h:H t=none){H2:Hp}(s:aJ H H2):aJ H (del H2 t):=fun b u e=>jB (s _ _ e) (aG e h)
theorem tZ {H H2:Hp}{t:Addr}(s:aJ H (del H2 t)):aJ H H2:=fun b u e=>(gO (s _ _ e)).1
end
end Lw
namespace L2
open PySem PySem.Spec PyProof.Rows PySem.W
structure L9 (n:Nat)(lt:Nat->Nat->Bool):Prop where
 irr:∀ i,lt i i=false
 asym:∀ i j,lt i j=true->lt j i=false
 tr:∀ i j k,lt j i=false->lt k j=false->lt k i=false
section
variable {n:Nat}{lt:Nat->Nat->Bool}
noncomputable def le (lt:Nat->Nat->Bool)(i j:Nat):Prop:=lt j i=false
noncomputable abbrev pa (p:Array Nat)(i:Nat):Nat:=p.getD i 0
variable (O:L9 n lt)
include O
end
end L2
namespace L2
open PySem PySem.Spec PyProof.Rows PySem.SeqAt
open PySem.AutoSeq1 (wpAny_loadPart')
open PySem.MeetsSeq PySem.MeetsSeq2 PySem.MeetsSeq3
end L2
namespace Lw
open PySem L2
section
variable {P:Program}{w:World}{K:PySem.W.Frag}{mg:eJ}{base:Heap}
structure LJ (fx:cL)(sm:cQ)(os:aW)(d:D):Prop where
 so:bC fx sm
 ho:∀ x ∈ os,cC x
 tm:cT fx sm os d
 lv:lvs d<=50
 nd:nds d<=1000
 dp:depD d<=50
end
end Lw
namespace L2
open PySem PySem.Spec PyProof.Rows
noncomputable def uF (vs:cE)(ks:List eZ):Prop:=ks.length=vs.length/\∀ (i:Nat) (k:eZ) (v:Value),ks[i]?=some k->vs[i]?=some v->keyIs k v=true/\v.scannable=true
noncomputable def E1 (P:Program)(w:World)(h:Heap)(S:Addr)(ks:List eZ)(i:Nat):Prop:=h.SetOf (cB P w) S (fun k=>(ks.take i).any fun x=>decide (x=k)) i
theorem E1.at {P:Program}{w:World}{h h':Heap}{S:Addr}{ks:List eZ}{i:Nat}(x:E1 P w h S ks i)(k:∀ o,h.get? S=some o->h'.get? S=some o):E1 P w h' S ks i:=by
 obtain ⟨o,es,ep,t,e,r⟩:=x
 exact ⟨o,es,ep,t,k _ e,r⟩
local macro_rules | `(tactic| walk_at "sd_on")=>`(tactic| (repeat (any_goals (first | assumption | wp_step))))
section
variable {P:Program}{w:World}{A:Around}
theorem zA {I S:Addr}{R:Result->Shared->Prop}{s:Shared}(h:wpAny (model P w) A.in1 (Builtin.«set.update.loop» ⟨[.ref S,.ref I],[]⟩) (fun y s'=>match y with | .done f=>R (.ok f) s' | .again c=>c.quiet=true/\codeAny (model P w) A c R s') (fun e s'=>R (.error e) s') s):codeAny (model P w) A (.builtin "set.update.loop" ⟨[.ref S,.ref I],[]⟩) R s :=
 codeAny_builtin F.entry_set_update_loop (by rw [Around.under_plainId F.plain_set_update_loop _];exact h)
theorem CA {l I S:Addr}{items:cE}{ks:List eZ}(hh:A.handled=none)(kk:uF items ks)(nd:ks.Nodup)(hb:items.length + 1 < scanBound)(n1:S≠I)(n2:l≠I)(n3:l≠S){R:Result->Shared->Prop} :
  ∀ (j i:Nat) (s:Shared),i + j=items.length->s.heap.IsListIter I l i->s.heap.IsList l items.toArray->E1 P w s.heap S ks i ->
   (∀ h' tk,E1 P w h' S ks items.length->(∀ b o,b≠S->b≠I->s.heap.get? b=some o->h'.get? b=some o)->R (.ok (.ret .none)) { s with heap:=h',toks:=tk }) ->
   codeAny (model P w) A (.builtin "set.update.loop" ⟨[.ref S,.ref I],[]⟩) R s:=by
 intro j
 induction j with
 | zero =>
  intro i s e it hl hS hR
  rw [Nat.add_zero] at e
  subst e
  refine zA ?_
  refine wpAny_bind (wpAny_pyNext_list_end (A:=A.in1) hh it hl (by simp) fun h' eb=>?_)
  exact wpAny_pure (hR h' s.toks (hS.at fun o z=>eb _ _ n1 z) fun b o _ hI z=>eb b o hI z)
 | succ j ih =>
  intro i s e it hl hS hR
  have hi:i < items.length:=by omega
  have hk:i < ks.length:=by rw [kk.1];exact hi
  obtain ⟨is,sc⟩:=kk.2 i ks[i] items[i] (List.getElem?_eq_getElem hk) (List.getElem?_eq_getElem hi)
  refine zA ?_
  refine wpAny_bind (wpAny_pyNext_list_item (A:=A.in1) (x:=items[i]) it hl (by simp [hi]) fun h1 it1 sb1=>?_)
  have hS1:E1 P w h1 S ks i:=hS.at fun o z=>(sb1.2 S n1).trans z
  show wpAny _ A.in1 (holding [items[i]] (setAdd S items[i]) >>= _) _ _ { s with heap:=h1 }
  refine wpAny_bind (wpAny_holding (show wpAny _ _ (setAdd S items[i]) _ _ _ from ?_))
  unfold setAdd
  refine wpAny_holding (wpAny_bind ((cB P w).pyHash (k:=ks[i]) is ?_))
  refine wpAny_setAddHashed_of (knd:=cB P w) (s:={ s with heap:=h1,toks:=s.toks + 1 }) is sc hS1 (by omega) fun h2 sb2 hS2=>?_
  have new:((ks.take i).any fun x=>decide (x=ks[i]))=false:=by
   rw [List.any_eq_false]
   intro x hx z
   have z:=of_decide_eq_true z
   obtain ⟨m,hm,em⟩:=List.mem_iff_getElem.mp hx
   rw [z] at em
   rw [List.length_take] at hm
   rw [List.getElem_take] at em
   have:=(List.getElem_inj nd).mp em
   omega
  rw [new] at hS2
  have fe:(fun k'=>((ks.take i).any fun x=>decide (x=k')) || decide (k'=ks[i]))=fun k=>(ks.take (i + 1)).any fun x=>decide (x=k):=by
   funext k
   rw [List.take_succ_eq_append_getElem hk,List.any_append,List.any_cons,List.any_nil,Bool.or_false]
   congr 1
   exact decide_eq_decide.mpr eq_comm
  rw [fe] at hS2
  have hS3:E1 P w h2 S ks (i + 1):=hS2
  refine wpAny_pure ⟨plainId_quiet F.plain_set_update_loop _,ih (i + 1) { s with heap:=h2,toks:=s.toks + 1 } (by omega) ?_ ?_ hS3 fun h' tk hS' kp=>?_⟩
  ·obtain ⟨o,z1,z2⟩:=it1
   exact ⟨o,(sb2.2 I n1.symm).trans z1,z2⟩
  ·obtain ⟨o,z1,z2⟩:=hl
   exact ⟨o,(sb2.2 l n3).trans ((sb1.2 l n2).trans z1),z2⟩
  ·exact hR h' tk hS' fun b o bS bI z=>kp b o bS bI ((sb2.2 b bS).trans ((sb1.2 b bI).trans z))
theorem A9 {E:cY}{s:Shared}{l:Addr}{items:cE}{ks:List eZ}{Q:cY}(hh:A.handled=none)(hl:s.heap.IsList l items.toArray)(kk:uF items ks)(nd:ks.Nodup)(hb:items.length + 1 < scanBound)
  (h:∀ (h':Heap) (tk:Nat),E1 P w h' s.heap.objs.size ks items.length->(∀ b o,s.heap.get? b=some o->h'.get? b=some o)->Q (.ref s.heap.objs.size) { s with heap:=h',toks:=tk }) :
  wpAny (model P w) A (call (.type "set") [.ref l]) Q E s:=by
 obtain ⟨c,tl,m0⟩:=F.called_set.mro
 have m1:=F.called_set.made
 have m2:=F.called_set.sub
 refine wpAny_call (codeAny_of_tree (wpAny_pure ⟨Code.quiet_builtin _ (by decide +kernel),codeAny_builtin F.entry_type_call ?_⟩))
 have wt:=weight_type_call_type "set" [.ref l] []
 rw [Around.under_plain wt rfl]
 have m3:=F.called_set.notType
 have m4:=F.called_set.canCreate
 have m5:=F.typeCall_set_1 (.ref l)
 walk_at "sd_on"
 refine codeAny_mono (code_set_new_1 (.ref l) (E:=E) (Q₁:=fun obj s1=>∃ led:Bool,obj = .ref s.heap.objs.size/\s1={ s with heap:=s.heap.push { cls:=.type "set",dict:=none,data:=.set #[] 0 (.fresh 0 0 led) } }) fun led=>⟨led,rfl,rfl⟩) fun r s1 hr=>?_
 cases r with
 | error e=>exact hr
 | ok fl =>
  cases fl with
  | next=>exact hr.elim
  | brk=>exact hr.elim
  | cont=>exact hr.elim
  | ret obj =>
   obtain ⟨led,rfl,rfl⟩:=hr
   have gS:(s.heap.push { cls:=.type "set",dict:=none,data:=.set #[] 0 (.fresh 0 0 led) }).get? s.heap.objs.size=some { cls:=.type "set",dict:=none,data:=.set #[] 0 (.fresh 0 0 led) }:=Heap.get?_push_size _ rfl
   have tS:Shared.TypeIs { s with heap:=s.heap.push { cls:=.type "set",dict:=none,data:=.set #[] 0 (.fresh 0 0 led) } } (.ref s.heap.objs.size) "set":=⟨_,gS,rfl⟩
   have i1:=F.called_set.init.lookup
   have i2:=F.called_set.init.bind (.ref s.heap.objs.size)
   walk_at "sd_on"
   refine codeAny_mono (codeAny_call_builtin (R:=wants (fun r s2=>r = .none/\∃ h' tk,s2={ s with heap:=h',toks:=tk }/\E1 P w h' s.heap.objs.size ks items.length/\∀ b o,s.heap.get? b=some o->h'.get? b=some o) E) F.called_set.init.plain F.entry_set_init (check_set_init_1 tS ?_)) fun r2 s2 hr2=>?_
   ·obtain ⟨⟨c1,d1,t1,sl1⟩,ho,hc1,n1,hd1⟩:=id hl
    simp only at hc1 hd1
    subst hc1 hd1
    have ho':=Heap.get?_push_of_some { cls:=.type "set",dict:=none,data:=.set #[] 0 (.fresh 0 0 led) } ho
    have j1:=F.sub_list_set
    have j2:=F.sub_list_frozenset
    have j3:(Value.type "list" == Value.type "dict")=false:=by decide
    have hl':(s.heap.push { cls:=.type "set",dict:=none,data:=.set #[] 0 (.fresh 0 0 led) }).IsList l items.toArray:=⟨_,ho',rfl,n1,rfl⟩
    unfold Builtin.«set.__init__» Builtin.Frozenset.updateFrom noKeywords;generalize hPI:pyIter=PI
    wp_walk
    subst hPI
    refine wpAny_pyIter_list hl' (wpAny_bind (wpAny_runValue ?_))
    have lt:=Heap.lt_size ho
    have z1:(s.heap.push { cls:=.type "set",dict:=none,data:=.set #[] 0 (.fresh 0 0 led) }).objs.size=s.heap.objs.size + 1:=Heap.size_push _ _
    refine CA (P:=P) (w:=w) (items:=items) (ks:=ks) (l:=l) (by simp [hh]) kk nd hb (by rw [z1];exact Nat.ne_of_lt (Nat.lt_succ_self _)) (by rw [z1];exact Nat.ne_of_lt (Nat.lt_succ_of_lt lt)) (Nat.ne_of_lt lt) items.length 0 _ (Nat.zero_add _) ⟨_,Heap.get?_push_size _ rfl,rfl,rfl⟩ (hl'.push _) ?_ fun h' tk hS' kp=>?_
    ·have g2:=Heap.get?_push_of_some { cls:=.type "list_iterator",data:=.fields #[.ref l,.int 0 0] } gS
     refine ⟨_,#[],0,.fresh 0 0 led,g2,⟨rfl,rfl,rfl⟩,rfl,(fun e he=>absurd he (by simp)),fun k=>?_,(by show 0 < scanBound;omega),(by cases led <;> decide),rfl⟩
     simp
    ·refine wpAny_pure (wpAny_pure ⟨rfl,h',tk,rfl,hS',fun b o e=>kp b o (Nat.ne_of_lt (Heap.lt_size e)) (by rw [z1];exact Nat.ne_of_lt (Nat.lt_succ_of_lt (Heap.lt_size e))) (Heap.get?_push_of_some _ (Heap.get?_push_of_some _ e))⟩)
   ·cases r2 with
    | error e=>exact hr2
    | ok f2 =>
     cases f2 with
     | next=>exact hr2.elim
     | brk=>exact hr2.elim
     | cont=>exact hr2.elim
     | ret r =>
      obtain ⟨rfl,h',tk,rfl,hS',hk'⟩:=hr2
      walk_at "sd_on"
      exact h _ _ hS' hk'
end
noncomputable abbrev vT (P:Program)(w:World)(a:Addr)(n:Nat):HO:=.ext fun h=>∃ ks,E1 P w h a ks n
theorem FG {P:Program}{w:World}{H:Hp}{h:Heap}{a:Addr}{n:Nat}{ks:List eZ}(x:E1 P w h a ks n):bY P w H h a (vT P w a n):=by
 refine ⟨⟨ks,x⟩,?_,fun h1 h2 ⟨ks',y⟩ k=>⟨ks',y.at fun o e=>k o e⟩⟩
 obtain ⟨o,_,_,_,e,_⟩:=x
 exact ⟨o,e⟩
theorem xJ:∀ {ss:aW} {us:cE},aV (ss.map V.str) us->uF us (ss.map Sum.inr):=by
 intro ss us h
 refine ⟨by rw [List.length_map,← h.length,List.length_map],fun i k v hk hv=>?_⟩
 rw [List.getElem?_map] at hk
 cases hs:ss[i]? with
 | none=>rw [hs] at hk;cases hk
 | some x =>
  rw [hs] at hk
  cases hk
  obtain ⟨u,hu,ru⟩:=h.get (i:=i) (x:=.str x) (by rw [List.getElem?_map,hs];rfl)
  rw [hv] at hu
  cases hu
  obtain ⟨t,rfl⟩:=ru
  exact ⟨rH x t,rfl⟩
section
variable {X:Cx}
noncomputable def rSetT (P:Program)(w:World):List V->Hp->VK->Prop:=fun xs H Q=>∃ (l:Addr) (ss:aW),xs=[.ref l]/\H l=some (.lst (ss.map V.str))/\ss.Nodup/\ss.length<=100/\∀ p,H p=none->Q (.ref p) (upd H p (vT P w p ss.length))
theorem rV (hc:X.calm=true):cS X (.type "set") (rSetT X.prog X.w):=by
 intro pins s σ H xs us Q I rv h
 obtain ⟨l,ss,rfl,hl,nd,le,q⟩:=h
 obtain ⟨u,rfl,ru⟩:=aV.one rv
 cases ru
 obtain ⟨its,r,pl,hz⟩:=I.list (fH.of hl)
 have len:its.length=ss.length:=by rw [← r.length,List.length_map]
 refine A9 (P:=X.prog) (w:=X.w) (I.ok.hd hc) pl.isList (xJ r) ((List.pairwise_map.mpr (nd.imp fun h e=>h (Sum.inr.inj e)))) (by rw [len];exact Nat.lt_of_le_of_lt (Nat.succ_le_succ le) (by decide)) fun h' tk hS kp=>?_
 have n0:H s.heap.objs.size=none:=I.hok.fresh (Nat.le_refl _)
 rw [len] at hS
 exact ⟨.ref s.heap.objs.size,_,I.laid (t':=tk) (o:=vT X.prog X.w s.heap.objs.size ss.length) kp (Nat.le_refl _) (FG hS),rfl,q _ n0⟩
noncomputable def rLenS (P:Program)(w:World):List V->Hp->VK->Prop:=fun xs H Q=>∃ (a:Addr) (n:Nat),xs=[.ref a]/\H a=some (vT P w a n)/\Q (.int n) H
theorem rX:cS X (.builtin "len") (rLenS X.prog X.w):=by
 intro pins s σ H xs us Q I rv h
 obtain ⟨a,n,rfl,ha,q⟩:=h
 obtain ⟨u,rfl,ru⟩:=aV.one rv
 cases ru
 obtain ⟨⟨ks,o,es,ep,t,ho,hex,hd,_,_,hb,hf,hn⟩,_⟩:=I.hok a _ ha
 have b1:es.size < 4096:=hb
 refine call_len_set ho hex hd hf (by omega) ?_
 rw [hn]
 exact ⟨.int n,H,I.tok _,⟨_,rfl⟩,q⟩
end
end L2
namespace Lw
open PySem L2
section
variable {P:Program}{w:World}{K:PySem.W.Frag}{mg:eJ}{base:Heap}
theorem AT {c:Nat}(h:97<=c/\c<=122):inTx "abcdefghijklmnopqrstuvwxyz" c=true:=by
 have a:∀ j:Fin 26,inTx "abcdefghijklmnopqrstuvwxyz" (97 + j.1)=true:=by decide +kernel
 have:=a ⟨c - 97,by omega⟩
 rw [show 97 + (c - 97)=c by omega] at this
 exact this
noncomputable def wN:Sp:=fun vs H Q _=>∃ x:Str,vs=[.str x]/\iA x/\∀ H',aJ H H'->Q (.bl true) H'
theorem GH {f:Addr}{fd:FuncData}(F:gN K "is_name" "is_name" fB f fd)(T:Txt mg):cF P w K mg base bP 1 f fd nZ wN:=by
 refine F.ok wW (fun vs H Q E h=>?_) (fun cdv A outer s H vs Q E hr h=>?_)
 ·obtain ⟨x,rfl,_⟩:=h
  rfl
 ·obtain ⟨x,rfl,hx,q⟩:=h
  have hu:=hr.units
  refine ⟨_,(aC (bU (PW.pt (iK (cW (aU K rfl (aK aL rfl T.n_isinstance rfl (aA (pv 0) (aA (bX (v:=V.ty "str") rfl T.n_str rfl rfl) aB))) (fun _=>rfl))) (g9 (cW (j8 mF mF aF (aK bH rfl T.n_len rfl (aA (pv 0) aB)) (cK T.c_LONGEST_NAME rfl)))))) (aH (aR kA)) aX)
   (aH (aR (aK (gW rfl) rfl T.n_all rfl (aA (eM rfl (bG.by (N:=n6) (names:=(aD fB).names) (N':=["sign"]) (src:=[none]) (by decide +kernel) rfl rfl) (tG (pv 0)) (fun _ _ _ _=>(bN (i:=0) (show List.Nodup (["sign"]:aW) by decide +kernel) rfl (Or.inl rfl))) (fun _ _ _ _=>eD) (fun _ _ _ _=>(eN gU (pv 0) (cK T.c_LETTERS rfl) (by with_unfolding_all rfl)))) aB))))),?_⟩
  simp only [n6]
  clear hr F T hu
  have keep:=aI q hx
  clear q hx
  walk_at "rd"
  obtain ⟨q,h1,h2,h3⟩:=keep
  have hz:x.length<=sizeLine:=Nat.le_trans (m:=6) (by rw [Array.length_toList] at h2;exact h2) (by decide)
  have el:x.cps.toList.length=x.length:=by rw [Array.length_toList];rfl
  refine ⟨true,rfl,?_⟩
  rw [if_neg (by decide)]
  refine ⟨.int x.length,by rw [jA hz];rfl,_,rfl,?_⟩
  rw [if_pos (by omega)]
  refine ⟨_,rfl,?_⟩
  rw [if_neg (by omega)]
  refine ⟨_,rfl,x,rfl,?_,?_⟩
  ·rw [Array.all_eq_true_iff_forall_mem]
   intro c hc
   have:=h3 c (by simpa using hc)
   simp only [decide_eq_true_eq]
   omega
  ·refine nW (fun i acc σ H'=>H'=H/\acc=(List.replicate i true).map V.bl/\i<=6/\∃ o:Option V,σ=[o]) ⟨rfl,rfl,by decide,none,rfl⟩ ?_ ?_
   ·rintro i c acc σ H' hc ⟨rfl,rfl,hi,o,rfl⟩
    have hm:c ∈ x.cps.toList:=by
     have:x.cps.toList[i]?=some c:=by rw [Array.getElem?_toList];exact hc
     exact List.mem_of_getElem? this
    have hi':i < x.cps.size:=(Array.getElem?_eq_some_iff.mp hc).1
    refine ⟨_,rfl,_,rfl,_,rfl,?_⟩
    have e:=AT (h3 c hm)
    unfold inTx at e
    dsimp only
    refine ⟨Nat.lt_of_le_of_lt (m:=100) (by simp;omega) (by decide),rfl,?_,by rw [Array.length_toList] at h2;omega,_,rfl⟩
    rw [e,List.replicate_succ',List.map_append]
    rfl
   ·rintro acc σ H' ⟨rfl,rfl,hi,o,rfl⟩ p hp
    refine ⟨p,rfl,List.replicate _ true,upd_same,?_⟩
    have:(List.replicate x.cps.size true).all id=true:=by simp
    rw [this]
    exact q _ (aJ.upd hp)
noncomputable def sQ:Sp:=fun vs H Q _=>∃ i:Int,vs=[.int i]/\Q (.bl true) H
theorem DG {f:Addr}{fd:FuncData}(F:gN K "is_whole" "is_whole" eT f fd)(T:Txt mg):cF P w K mg base bP 1 f fd lL sQ:=by
 refine F.ok uP (fun vs H Q E h=>?_) (fun cdv A outer s H vs Q E hr h=>?_)
 ·obtain ⟨x,rfl,_⟩:=h
  rfl
 ·obtain ⟨i,rfl,q⟩:=h
  refine ⟨_,(aH (aR (tH (aK aL rfl T.n_isinstance rfl (aA (pv 0) (aA (bX (v:=V.ty "int") rfl T.n_int rfl rfl) aB))) (nM (JI (aK aL rfl T.n_isinstance rfl (aA (pv 0) (aA (bX (v:=V.ty "bool") rfl T.n_bool rfl rfl) aB)))))))),?_⟩
  simp only [qI]
  clear hr F T
  walk_at "rd"
noncomputable def kY (H:Hp)(ws:List V):Prop:=∀ v ∈ ws,∃ t x y,v = .ref t/\H t=some (.tup [x,y])
theorem kY.same {H H':Hp}{ws:List V}(h:kY H ws)(s:aJ H H'):kY H' ws:=fun v hv=>by
 obtain ⟨t,x,y,e,h⟩:=h v hv
 exact ⟨t,x,y,e,s _ _ h⟩
noncomputable def sU:Sp:=fun vs H Q _=>∃ (a:Addr) (lo hi:Int) (ws:List V),vs=[.ref a,.int lo,.int hi]/\H a=some (.lst ws)/\kY H ws/\lo<=ws.length/\(ws.length:Int)<=hi/\ws.length<=100/\∀ l H',aJ H H'->H l=none->H' l=some (.lst ws)->Q (.ref l) H'
noncomputable def MH (a:Addr)(lo hi:Int)(H:Hp)(i:Nat)(σ:St)(H2:Hp):Prop:=∃ o:Option V,σ=[some (.ref a),some (.int lo),some (.int hi),o]/\aJ H H2
noncomputable def MI (ws:List V)(H:Hp)(i:Nat)(acc:List V)(σ:St)(H2:Hp):Prop:=∃ o:Option V,σ=[o]/\aJ H H2/\acc=ws.take i
theorem DM {f:Addr}{fd:FuncData}(F:gN K "checked_pairs" "checked_pairs" bZ f fd)(T:Txt mg):cF P w K mg base bP 1 f fd gI sU:=by
 refine F.ok iY (fun vs H Q E h=>?_) (fun cdv A outer s H vs Q E hr h=>?_)
 ·obtain ⟨a,lo,hi,ws,rfl,_⟩:=h
  rfl
 ·obtain ⟨a,lo,hi,ws,rfl,ha,pr,h1,h2,h3,q⟩:=h
  have hu:=hr.units
  refine ⟨_,(aC (bU (PW.pt (iK (cW (aU K rfl (aK aL rfl T.n_isinstance rfl (aA (pv 0) (aA (eB (aA (bX (v:=V.ty "list") rfl T.n_list rfl rfl) (aA (bX (v:=V.ty "tuple") rfl T.n_tuple rfl rfl) aB))) aB))) (fun _=>rfl))) (g9 (cW (j8 mF mF (pv 1) (aK bH rfl T.n_len rfl (aA (pv 0) aB)) (pv 2)))))) (aH gG) aX)
   (aC (fW PassesOwn.never rfl (dM K rfl (pv 0)) (bN (i:=3) iY.nd rfl (Or.inl rfl)) (aH (bU (PW.pt (iK (cW (aU K rfl (aK aL rfl T.n_isinstance rfl (aA (pv 3) (aA (eB (aA (bX (v:=V.ty "list") rfl T.n_list rfl rfl) (aA (bX (v:=V.ty "tuple") rfl T.n_tuple rfl rfl) aB))) aB))) (fun _=>rfl))) (g9 (aS (kD hu) (aK bH rfl T.n_len rfl (aA (pv 3) aB)) aF (nomark _))))) (aH gG) aX)))
   (aH (aR (eM rfl (bG.by (N:=gL) (names:=(aD bZ).names) (N':=["pair"]) (src:=[none]) (by decide +kernel) rfl rfl) (dM K rfl (pv 0)) (fun _ _ _ _=>(bN (i:=0) (show List.Nodup (["pair"]:aW) by decide +kernel) rfl (Or.inl rfl))) (fun _ _ _ _=>eD) (fun _ _ _ _=>(d9 iM rfl T.n_tuple rfl (aA (pv 0) aB)))))))),?_⟩
  simp only [gL]
  clear hr F T hu
  have keep:=aI q (aI ha (aI pr (aI h1 (aI h2 h3))))
  clear q ha pr h1 h2 h3
  walk_at "rd"
  obtain ⟨q,ha,pr,h1,h2,h3⟩:=keep
  refine ⟨by decide,fun p hp=>?_⟩
  have s1:aJ H (upd H p (.tup [.ty "list",.ty "tuple"])):=aJ.upd hp
  have hp1:upd H p (.tup [.ty "list",.ty "tuple"]) p=some (.tup [.ty "list",.ty "tuple"]):=upd_same
  generalize upd H p (.tup [.ty "list",.ty "tuple"])=H1 at s1 hp1 ⊢
  have ha1:=s1 _ _ ha
  refine ⟨true,J3 ha1 hp1,?_⟩
  rw [if_neg (by decide)]
  refine ⟨.int ws.length,by rw [lenV_l ha1];rfl,_,rfl,?_⟩
  rw [if_pos h1]
  refine ⟨_,rfl,?_⟩
  rw [if_neg (by omega)]
  refine ⟨ws,.inl ha1,fun J hJ=>?_⟩
  refine mK hJ (MH a lo hi H1) ⟨none,rfl,aJ.refl _⟩ (by rintro i σ H' _ ⟨_,_,s2⟩;rw [ha1,s2 _ _ ha1]) ?_ ?_
  ·rintro i x σ H2 hx ⟨o,rfl,s2⟩
   obtain ⟨t,y,z,rfl,ht⟩:=pr x (List.mem_of_getElem? hx)
   have ht2:=s2 _ _ (s1 _ _ ht)
   have keep:=aI q (aI ha (aI pr (aI s2 (aI ht2 s1))))
   clear q ha pr s2 ht2 ht ha1 hp1 h1 h2 h3 hJ hx s1 hp
   walk_at "rd"
   obtain ⟨q,ha,pr,s2,ht2,s1⟩:=keep
   refine ⟨by decide,fun p3 hp3=>?_⟩
   have s3:aJ H2 (upd H2 p3 (.tup [.ty "list",.ty "tuple"])):=aJ.upd hp3
   have hp33:upd H2 p3 (.tup [.ty "list",.ty "tuple"]) p3=some (.tup [.ty "list",.ty "tuple"]):=upd_same
   generalize upd H2 p3 (.tup [.ty "list",.ty "tuple"])=H3 at s3 hp33 ⊢
   have ht3:=s3 _ _ ht2
   refine ⟨true,xM ht3 hp33,?_⟩
   rw [if_neg (by decide)]
   refine ⟨.int 2,by rw [lenV_t ht3];rfl,?_⟩
   rw [rNeD_ii]
   refine ⟨_,rfl,?_⟩
   rw [if_neg (by decide)]
   exact ⟨_,rfl,s2.trans s3⟩
  ·rintro σ H2 ⟨o,rfl,s2⟩
   have ha2:=s2 _ _ ha1
   refine ⟨_,rfl,a,ws,rfl,.inl ha2,fun J2 hJ2=>?_⟩
   refine dG hJ2 (MI ws H2) ⟨none,rfl,aJ.refl _,rfl⟩ (by rintro i acc σ H' _ ⟨_,_,s3,_⟩;rw [ha2,s3 _ _ ha2]) ?_ ?_
   ·rintro i x acc σ H3 hx ⟨o',rfl,s3,rfl⟩
    obtain ⟨t,y,z,rfl,ht⟩:=pr x (List.mem_of_getElem? hx)
    have ht3:=s3 _ _ (s2 _ _ (s1 _ _ ht))
    have hi':=(List.getElem?_eq_some_iff.mp hx).1
    refine ⟨_,rfl,t,[y,z],rfl,.inr ht3,fun l H4 hc=>?_⟩
    rcases hc with ⟨hc,rfl,rfl⟩ | ⟨hc,_⟩
    ·exact ⟨Nat.lt_of_le_of_lt (m:=100) (by rw [List.length_take];omega) (by decide),_,rfl,s3,by rw [bO hx]⟩
    ·rw [ht3] at hc;cases hc
   ·rintro acc σ H3 ⟨o',rfl,s3,rfl⟩ l hl
    rw [List.take_length]
    have s4:=(s1.trans s2).trans s3
    exact q l _ (s4.trans (aJ.upd hl)) (s4.free hl) upd_same
noncomputable def iF (H:Hp):aW->List V->Prop
 | [],vs=>vs=[]
 | n :: ns,vs=>∃ t y us,vs = .ref t :: us/\H t=some (.tup [.str n,y])/\iF H ns us
theorem iF.same {H H':Hp}(s:aJ H H'):∀ {ns:aW} {vs:List V},iF H ns vs->iF H' ns vs
 | [],_,h=>h
 | _ :: _,_,⟨t,y,us,e,h,q⟩=>⟨t,y,us,e,s _ _ h,iF.same s q⟩
theorem iF.len {H:Hp}:∀ {ns:aW} {vs:List V},iF H ns vs->vs.length=ns.length
 | [],_,h=>by cases h;rfl
 | _ :: _,_,⟨t,y,us,e,h,q⟩=>by subst e;simp [iF.len q]
theorem iF.get {H:Hp}:∀ {ns:aW} {vs:List V} {i:Nat} {v:V},iF H ns vs->vs[i]?=some v->∃ n t y,ns[i]?=some n/\v = .ref t/\H t=some (.tup [.str n,y])
 | [],_,_,_,h,k=>by cases h;simp at k
 | _ :: _,_,0,_,⟨t,y,us,e,h,q⟩,k=>by subst e;simp at k;exact ⟨_,t,y,rfl,k.symm,h⟩
 | _ :: _,_,i + 1,_,⟨t,y,us,e,h,q⟩,k=>by subst e;simp at k;obtain ⟨r,t,y,h1,h2,h3⟩:=iF.get q k;exact ⟨r,t,y,by simpa using h1,h2,h3⟩
theorem iF.app {H:Hp}:∀ {ns ms:aW} {vs us:List V},iF H ns vs->iF H ms us->iF H (ns ++ ms) (vs ++ us)
 | [],_,_,_,h,k=>by cases h;exact k
 | _ :: _,_,_,_,⟨t,y,us,e,h,q⟩,k=>by subst e;exact ⟨t,y,_,rfl,h,iF.app q k⟩
theorem dJ.n {H:Hp}:∀ {l:cL} {vs:List V},dJ H l vs->iF H (l.map (·.1)) vs
 | [],_,h=>h
 | _ :: _,_,⟨t,us,e,h,q⟩=>⟨t,_,us,e,h,dJ.n q⟩
theorem eY.n {H:Hp}:∀ {l:cQ} {vs:List V},eY H l vs->iF H (l.map (·.1)) vs
 | [],_,h=>h
 | _ :: _,_,⟨t,us,e,h,q⟩=>⟨t,_,us,e,h,eY.n q⟩
noncomputable def pK:Sp:=fun vs H Q _=>∃ (a:Addr) (ns:aW) (ws:List V),vs=[.ref a]/\H a=some (.lst ws)/\iF H ns ws/\(∀ x ∈ ns,iA x)/\ns.Nodup/\ns.length<=50/\∀ H',aJ H H'->Q .non H'
noncomputable def MK (ns:aW)(H:Hp)(i:Nat)(acc:List V)(σ:St)(H2:Hp):Prop:=∃ o o':Option V,σ=[o,o']/\aJ H H2/\acc=(ns.take i).map V.str
noncomputable def MJ (H:Hp)(i:Nat)(acc:List V)(σ:St)(H2:Hp):Prop:=∃ o:Option V,σ=[o]/\aJ H H2/\acc=(List.replicate i true).map V.bl
theorem AM {f:Addr}{fd:FuncData}(F:gN K "check_names" "check_names" cG f fd)(T:Txt mg)(O_is_name:dQ P w K mg base bP 1 "is_name" wN):cF P w K mg base bP 2 f fd iU pK:=by
 refine F.ok j7 (fun vs H Q E h=>?_) (fun cdv A outer s H vs Q E hr h=>?_)
 ·obtain ⟨a,ns,ws,rfl,_⟩:=h
  rfl
 ·obtain ⟨a,ns,ws,rfl,ha,rn,ok,nd,l50,q⟩:=h
  have hu:=hr.units
  refine ⟨_,(aC (kU (i:=1) j7.nd rfl rfl rfl rfl (bG.by (N:=gF) (names:=(aD cG).names) (N':=["name","told"]) (src:=[none,none]) (by decide +kernel) rfl rfl) (dM K rfl (pv 0)) (fun _ _ _ _=>(dD K rfl (i:=0) (j:=1) rfl (show List.Nodup (["name","told"]:aW) by decide +kernel) rfl rfl rfl rfl)) (fun _ _ _ _=>eD) (fun _ _ _ _=>(pv 0)))
   (aC (bU (cW (aU K rfl (aK (gW rfl) rfl T.n_all rfl (aA (eM rfl (bG.by (N:=gF) (names:=(aD cG).names) (N':=["name"]) (src:=[none]) (by decide +kernel) rfl rfl) (dM K rfl (pv 1)) (fun _ _ _ _=>(bN (i:=0) (show List.Nodup (["name"]:aW) by decide +kernel) rfl (Or.inl rfl))) (fun _ _ _ _=>eD) (fun _ _ _ _=>(aO O_is_name (hr.mono (by decide)) pass0 rfl (aA (pv 0) aB)))) aB)) (fun _=>rfl))) (aH gG) aX)
   (aH (bU (aS (jM hu) (aK rX rfl T.n_len rfl (aA (d9 (rV rfl) rfl T.n_set rfl (aA (pv 1) aB)) aB)) (aK bH rfl T.n_len rfl (aA (pv 1) aB)) (nomark _)) (aH gG) aX)))),?_⟩
  simp only [gF]
  clear hr F T hu O_is_name
  have keep:=aI q (aI ha (aI rn (aI ok (aI nd l50))))
  clear q ha rn ok nd l50
  walk_at "rd"
  obtain ⟨q,ha,rn,ok,nd,l50⟩:=keep
  have lw:=rn.len
  refine ⟨ws,.inl ha,fun J hJ=>?_⟩
  refine dG hJ (MK ns H) ⟨none,none,rfl,aJ.refl _,rfl⟩ (by rintro i acc σ H' _ ⟨_,_,_,s2,_⟩;rw [ha,s2 _ _ ha]) ?_ ?_
  ·rintro i x acc σ H2 hx ⟨o,o',rfl,s2,rfl⟩
   obtain ⟨n,t,y,hn,rfl,ht⟩:=rn.get hx
   have hi:=(List.getElem?_eq_some_iff.mp hn).1
   refine ⟨t,_,rfl,iE.of (s2 _ _ ht),rfl,_,_,rfl,_,_,rfl,rfl,_,rfl,Nat.lt_of_le_of_lt (m:=100) (by simp;omega) (by decide),_,_,rfl,s2,?_⟩
   rw [bO hn,List.map_append]
   rfl
  ·rintro acc σ H2 ⟨o,o',rfl,s2,rfl⟩ l hl
   rw [lw,List.take_length]
   have hl2:upd H2 l (.lst (ns.map V.str)) l=some (.lst (ns.map V.str)):=upd_same
   have s3:=s2.trans (aJ.upd (o:=.lst (ns.map V.str)) hl)
   generalize upd H2 l (.lst (ns.map V.str))=H3 at hl2 s3 ⊢
   refine ⟨l,rfl,_,.inl hl2,fun J2 hJ2=>?_⟩
   refine dG hJ2 (MJ H3) ⟨none,rfl,aJ.refl _,rfl⟩ (by rintro i acc σ H' _ ⟨_,_,s4,_⟩;rw [hl2,s4 _ _ hl2]) ?_ ?_
   ·rintro i x acc σ H4 hx ⟨o,rfl,s4,rfl⟩
    rw [List.getElem?_map] at hx
    obtain ⟨n,hn,rfl⟩:=Option.map_eq_some_iff.mp hx
    have hi:=(List.getElem?_eq_some_iff.mp hn).1
    refine ⟨_,rfl,n,rfl,ok n (List.mem_of_getElem? hn),fun H5 s5=>⟨Nat.lt_of_le_of_lt (m:=100) (by simp;omega) (by decide),_,rfl,s4.trans s5,?_⟩⟩
    rw [List.replicate_succ',List.map_append]
    rfl
   ·rintro acc σ H4 ⟨o,rfl,s4,rfl⟩ l2 hl5
    refine ⟨l2,rfl,_,upd_same,?_⟩
    rw [if_neg (by simp)]
    have s5:=s4.trans (aJ.upd (o:=.lst ((List.replicate (ns.map V.str).length true).map V.bl)) hl5)
    generalize upd H4 l2 (.lst ((List.replicate (ns.map V.str).length true).map V.bl))=H5 at s5 ⊢
    refine ⟨l,ns,rfl,s5 _ _ hl2,nd,by omega,fun p hp=>⟨p,ns.length,rfl,upd_same,.int ns.length,?_,.inl (.inl ⟨_,rfl,_,rfl,?_⟩)⟩⟩
    ·have:=(aJ.upd (o:=vT P w p ns.length) hp) _ _ (s5 _ _ hl2)
     show Option.map _ ((lenV (upd H5 p (vT P w p ns.length)) (.ref l)).bind _)=_
     rw [lenV_l this,List.length_map]
     rfl
    ·rw [if_neg (by omega)]
     exact q _ ((s3.trans s5).trans (aJ.upd hp))
noncomputable def sT:Sp:=fun vs H Q _=>∃ (a:Addr) (fx:cL) (fv:List V),vs=[.ref a]/\H a=some (.lst fv)/\dJ H fx fv/\(∀ r ∈ fx,0<=r.2/\r.2<=3)/\(∃ r ∈ fx,r.2=0)/\fx.length<=50/\∀ H',aJ H H'->Q .non H'
noncomputable def L7 (a:Addr)(H:Hp)(i:Nat)(σ:St)(H2:Hp):Prop:=∃ o o':Option V,σ=[some (.ref a),o,o']/\H2=H
noncomputable def L8 (fx:cL)(H:Hp)(i:Nat)(acc:List V)(σ:St)(H2:Hp):Prop:=∃ o o':Option V,σ=[o,o']/\H2=H/\acc=((fx.take i).map fun r=>decide (r.2=0)).map V.bl
theorem DL {f:Addr}{fd:FuncData}(F:gN K "check_parts" "check_parts" cR f fd)(T:Txt mg)(O_is_whole:dQ P w K mg base bP 1 "is_whole" sQ):cF P w K mg base bP 2 f fd iT sT:=by
 refine F.ok j6 (fun vs H Q E h=>?_) (fun cdv A outer s H vs Q E hr h=>?_)
 ·obtain ⟨a,fx,fv,rfl,_⟩:=h
  rfl
 ·obtain ⟨a,fx,fv,rfl,ha,rn,ok,bare,l50,q⟩:=h
  have hu:=hr.units
  refine ⟨_,(aC (fW PassesOwn.never rfl (dM K rfl (pv 0)) (dD K rfl (i:=1) (j:=2) rfl j6.nd rfl rfl rfl rfl) (aH (bU (PW.pt (iK (cW (aU K rfl (aO O_is_whole (hr.mono (by decide)) pass0 rfl (aA (pv 2) aB)) (fun _=>rfl))) (g9 (cW (j8 mF mF aF (pv 2) (cK T.c_MOST_PARTS rfl)))))) (aH gG) aX)))
   (aH (bU (cW (aU K rfl (aK (BF rfl) rfl T.n_any rfl (aA (eM rfl (bG.by (N:=iV) (names:=(aD cR).names) (N':=["name","many"]) (src:=[none,none]) (by decide +kernel) rfl rfl) (dM K rfl (pv 0)) (fun _ _ _ _=>(dD K rfl (i:=0) (j:=1) rfl (show List.Nodup (["name","many"]:aW) by decide +kernel) rfl rfl rfl rfl)) (fun _ _ _ _=>eD) (fun _ _ _ _=>(eN (eI hu) (pv 1) aF (nomark _)))) aB)) (fun _=>rfl))) (aH gG) aX))),?_⟩
  simp only [iV]
  clear hr F T hu O_is_whole
  have keep:=aI q (aI ha (aI rn (aI ok (aI bare l50))))
  clear q ha rn ok bare l50
  walk_at "rd"
  obtain ⟨q,ha,rn,ok,bare,l50⟩:=keep
  have lw:=rn.len
  refine ⟨fv,.inl ha,fun J hJ=>?_⟩
  refine mK hJ (L7 a H) ⟨none,none,rfl,rfl⟩ (by rintro i σ H' _ ⟨_,_,_,rfl⟩;rfl) ?_ ?_
  ·rintro i x σ H2 hx ⟨o,o',rfl,rfl⟩
   obtain ⟨r,t,hn,rfl,ht⟩:=rn.get hx
   obtain ⟨k0,k3⟩:=ok r (List.mem_of_getElem? hn)
   refine ⟨t,_,rfl,iE.of ht,rfl,_,_,rfl,_,_,rfl,rfl,?_⟩
   have keep:=aI q (aI k0 k3)
   clear q ha rn ok bare l50 lw hJ hx hn ht
   walk_at "rd"
   obtain ⟨q,k0,k3⟩:=keep
   refine ⟨r.2,rfl,true,rfl,?_⟩
   rw [if_neg (by decide)]
   exact ⟨_,_,rfl,rfl⟩
  ·rintro σ H2 ⟨o,o',rfl,rfl⟩
   have keep:=aI q (aI ha (aI rn (aI ok (aI bare (aI l50 lw)))))
   clear q ha rn ok bare l50 lw hJ
   walk_at "rd"
   obtain ⟨q,ha,rn,ok,bare,l50,lw⟩:=keep
   refine ⟨fv,.inl ha,fun J2 hJ2=>?_⟩
   refine dG hJ2 (L8 fx H2) ⟨none,none,rfl,rfl,rfl⟩ (by rintro i acc σ H' _ ⟨_,_,_,rfl,_⟩;rfl) ?_ ?_
   ·rintro i x acc σ H3 hx ⟨o,o',rfl,rfl,rfl⟩
    obtain ⟨r,t,hn,rfl,ht⟩:=rn.get hx
    have hi:=(List.getElem?_eq_some_iff.mp hn).1
    refine ⟨t,_,rfl,iE.of ht,rfl,_,_,rfl,_,_,rfl,rfl,_,rfl,?_⟩
    dsimp only [tC]
    rw [rEqD_ii]
    refine ⟨Nat.lt_of_le_of_lt (m:=100) (by simp;omega) (by decide),_,_,rfl,rfl,?_⟩
    rw [bO hn,List.map_append,List.map_append]
    rfl
   ·rintro acc σ H3 ⟨o,o',rfl,rfl,rfl⟩ l2 hl5
    rw [lw,List.take_length]
    refine ⟨l2,rfl,_,upd_same,?_⟩
    have any0:((fx.map fun r=>decide (r.2=0)).any id)=true:=by
     obtain ⟨r,hr,e⟩:=bare
     rw [List.any_eq_true]
     exact ⟨true,List.mem_map.mpr ⟨r,hr,decide_eq_true e⟩,rfl⟩
    rw [any0,if_neg (by decide)]
    exact q _ (aJ.upd hl5)
noncomputable def nots (sm:cQ):aW:=(sm.map (·.2)).filter fun (x:Str)=>decide (x≠("" : Str))
noncomputable def lE:Sp:=fun vs H Q _=>∃ (a b:Addr) (sm:cQ) (sv:List V) (zs:aW),vs=[.ref a,.ref b]/\H a=some (.lst sv)/\eY H sm sv/\H b=some (.lst (zs.map V.str))/\(∀ r ∈ sm,r.2≠("" : Str)->r.2 ∈ zs)/\(nots sm).Nodup/\sm.length<=50/\∀ H',aJ H H'->Q .non H'
noncomputable def MA (a b:Addr)(H:Hp)(i:Nat)(σ:St)(H2:Hp):Prop:=∃ o o' o'':Option V,σ=[some (.ref a),some (.ref b),o,o',o'']/\H2=H
noncomputable def MB (sm:cQ)(H:Hp)(i:Nat)(acc:List V)(σ:St)(H2:Hp):Prop:=∃ o o':Option V,σ=[o,o']/\H2=H/\acc=(nots (sm.take i)).map V.str
theorem AQ (sm:cQ)(r:Str×Str):nots (sm ++ [r])=nots sm ++ (if r.2=("" : Str) then [] else [r.2]):=by
 unfold nots
 rw [List.map_append,List.filter_append]
 congr 1
 by_cases z:r.2=("" : Str) <;> simp [z]
theorem u6 (sm:cQ):(nots sm).length<=sm.length:=by
 unfold nots
 exact Nat.le_trans (List.length_filter_le _ _) (by rw [List.length_map];exact Nat.le_refl _)
theorem u4 {f:Addr}{fd:FuncData}(F:gN K "check_noughts" "check_noughts" cA f fd)(T:Txt mg):cF P w K mg base bP 1 f fd gJ lE:=by
 refine F.ok fU (fun vs H Q E h=>?_) (fun cdv A outer s H vs Q E hr h=>?_)
 ·obtain ⟨a,b,sm,sv,zs,rfl,_⟩:=h
  rfl
 ·obtain ⟨a,b,sm,sv,zs,rfl,ha,rn,hb,ok,nd,l50,q⟩:=h
  have hu:=hr.units
  refine ⟨_,(aC (fW PassesOwn.never rfl (dM K rfl (pv 0)) (dD K rfl (i:=2) (j:=3) rfl fU.nd rfl rfl rfl rfl) (aH (bU (PW.pt (iK (cW (aU K rfl (aK aL rfl T.n_isinstance rfl (aA (pv 3) (aA (bX (v:=V.ty "str") rfl T.n_str rfl rfl) aB))) (fun _=>rfl))) (g9 (PW.pt (tD (aS (kD hu) (pv 3) bA (nomark _)) (oY (aS (q8 hu) (pv 3) (pv 1) (by with_unfolding_all rfl)))))))) (aH gG) aX)))
   (aC (kU (i:=4) fU.nd rfl rfl rfl rfl (bG.by (N:=gM) (names:=(aD cA).names) (N':=["name","nought"]) (src:=[none,none]) (by decide +kernel) rfl rfl) (dM K rfl (pv 0)) (fun _ _ _ _=>(dD K rfl (i:=0) (j:=1) rfl (show List.Nodup (["name","nought"]:aW) by decide +kernel) rfl rfl rfl rfl)) (fun _ _ _ _=>(kT (aS (kD hu) (pv 1) bA (nomark _)))) (fun _ _ _ _=>(pv 1)))
   (aH (bU (aS (jM hu) (aK rX rfl T.n_len rfl (aA (d9 (rV rfl) rfl T.n_set rfl (aA (pv 4) aB)) aB)) (aK bH rfl T.n_len rfl (aA (pv 4) aB)) (nomark _)) (aH gG) aX)))),?_⟩
  simp only [gM]
  clear hr F T hu
  have keep:=aI q (aI ha (aI rn (aI hb (aI ok (aI nd l50)))))
  clear q ha rn hb ok nd l50
  walk_at "rd"
  obtain ⟨q,ha,rn,hb,ok,nd,l50⟩:=keep
  have lw:=rn.len
  refine ⟨sv,.inl ha,fun J hJ=>?_⟩
  refine mK hJ (MA a b H) ⟨none,none,none,rfl,rfl⟩ (by rintro i σ H' _ ⟨_,_,_,_,rfl⟩;rfl) ?_ ?_
  ·rintro i x σ H2 hx ⟨o,o',o'',rfl,rfl⟩
   obtain ⟨r,t,hn,rfl,ht⟩:=rn.get hx
   have okr:=ok r (List.mem_of_getElem? hn)
   refine ⟨t,_,rfl,iE.of ht,rfl,_,_,rfl,_,_,rfl,rfl,?_⟩
   have keep:=aI q (aI okr hb)
   clear q ha rn hb ok nd l50 lw hJ hx hn ht okr
   walk_at "rd"
   obtain ⟨q,okr,hb⟩:=keep
   refine ⟨true,rfl,?_⟩
   rw [if_neg (by decide)]
   refine ⟨!decide (r.2=("" : Str)),by simp,?_⟩
   by_cases z:r.2=("" : Str)
   ·rw [if_neg (by simp [z])]
    exact ⟨_,_,_,rfl,rfl⟩
   ·rw [if_pos (by simp [z])]
    refine ⟨.str r.2,zs.map D.str,rfl,.inl ⟨b,_,rfl,hb,kR zs⟩,by rw [mL];decide,_,rfl,?_⟩
    rw [if_neg]
    ·exact ⟨_,_,_,rfl,rfl⟩
    ·rw [mJ,decide_eq_true (okr z)]
     decide
  ·rintro σ H2 ⟨o,o',o'',rfl,rfl⟩
   have keep:=aI q (aI ha (aI rn (aI nd (aI l50 lw))))
   clear q ha rn ok hb nd l50 lw hJ
   walk_at "rd"
   obtain ⟨q,ha,rn,nd,l50,lw⟩:=keep
   refine ⟨sv,.inl ha,fun J2 hJ2=>?_⟩
   refine dG hJ2 (MB sm H2) ⟨none,none,rfl,rfl,rfl⟩ (by rintro i acc σ H' _ ⟨_,_,_,rfl,_⟩;rfl) ?_ ?_
   ·rintro i x acc σ H3 hx ⟨o,o',rfl,rfl,rfl⟩
    obtain ⟨r,t,hn,rfl,ht⟩:=rn.get hx
    have hi:=(List.getElem?_eq_some_iff.mp hn).1
    have hk:=u6 (sm.take i)
    rw [List.length_take] at hk
    have e1:=AQ (sm.take i) r
    rw [← bO hn] at e1
    refine ⟨t,_,rfl,iE.of ht,rfl,_,_,rfl,_,_,rfl,rfl,_,rfl,?_⟩
    dsimp only [tC]
    rw [rNeD_ss]
    refine ⟨_,rfl,?_⟩
    by_cases z:r.2=("" : Str)
    ·rw [if_neg (by simp [z])]
     rw [if_pos z,List.append_nil] at e1
     exact ⟨_,_,rfl,rfl,by rw [e1]⟩
    ·rw [if_pos (by simp [z])]
     rw [if_neg z] at e1
     exact ⟨_,rfl,Nat.lt_of_le_of_lt (m:=100) (by rw [List.length_map];omega) (by decide),_,_,rfl,rfl,by rw [e1,List.map_append];rfl⟩
   ·rintro acc σ H3 ⟨o,o',rfl,rfl,rfl⟩ l hl
    rw [lw,List.take_length]
    have hl2:upd H3 l (.lst ((nots sm).map V.str)) l=some (.lst ((nots sm).map V.str)):=upd_same
    have s3:aJ H3 (upd H3 l (.lst ((nots sm).map V.str))):=aJ.upd hl
    generalize upd H3 l (.lst ((nots sm).map V.str))=H4 at hl2 s3 ⊢
    have hk:=u6 sm
    refine ⟨l,nots sm,rfl,hl2,nd,by omega,fun p hp=>⟨p,(nots sm).length,rfl,upd_same,.int (nots sm).length,?_,.inl (.inl ⟨_,rfl,_,rfl,?_⟩)⟩⟩
    ·have:=(aJ.upd (o:=vT P w p (nots sm).length) hp) _ _ hl2
     show Option.map _ ((lenV (upd H4 p (vT P w p (nots sm).length)) (.ref l)).bind _)=_
     rw [lenV_l this,List.length_map]
     rfl
    ·rw [if_neg (by omega)]
     exact q _ (s3.trans (aJ.upd hp))
end
section
variable {P:Program}{w:World}{K:PySem.W.Frag}{mg:eJ}{base:Heap}
structure IH (K:PySem.W.Frag)(C:Addr):Prop where
 cls:BO K C
 n1:gK K C "fixed_rows"
 n2:gK K C "sum_rows"
 n3:gK K C "many_by_name"
 n4:gK K C "nought_by_name"
theorem dJ.pairs {H:Hp}{fx:cL}{fv:List V}(h:dJ H fx fv):kY H fv:=fun v hv=>by
 obtain ⟨i,hi⟩:=List.getElem?_of_mem hv
 obtain ⟨r,t,_,e,ht⟩:=h.get hi
 exact ⟨t,_,_,e,ht⟩
theorem eY.pairs {H:Hp}{sm:cQ}{sv:List V}(h:eY H sm sv):kY H sv:=fun v hv=>by
 obtain ⟨i,hi⟩:=List.getElem?_of_mem hv
 obtain ⟨r,t,_,e,ht⟩:=h.get hi
 exact ⟨t,_,_,e,ht⟩
theorem dJ.prs {H:Hp}:∀ {fx:cL} {fv:List V},dJ H fx fv->fv.map (prV H)=(fx.map fun r=>((.inr r.1,V.int r.2):eZ×V)).map (fun kv=>some (kV kv.1,kv.2))
 | [],_,e=>by cases e;rfl
 | r :: l,_,⟨t,us,e,h,q⟩=>by
  subst e
  rw [List.map_cons,dJ.prs q]
  unfold prV
  simp only [h]
  rfl
theorem DX {fx:cL}(nd:(fx.map (·.1)).Nodup):gH [] (fx.map fun r=>((.inr r.1,V.int r.2):eZ×V))=fx.map fun r=>(.inr r.1,V.int r.2):=by
 rw [lH]
 ·rfl
 ·rw [List.nil_append,List.map_map]
  exact List.pairwise_map.mpr ((List.pairwise_map.mp nd).imp fun h e=>h (Sum.inr.inj e))
noncomputable def wP (K:PySem.W.Frag)(C:Addr):Sp:=fun vs H Q _=>∃ (x dx a b:Addr) (fx:cL) (sm:cQ) (fv sv:List V),vs=[.ref x,.ref a,.ref b]/\H x=some (.ins C dx [])/\H a=some (.lst fv)/\H b=some (.lst sv)/\dJ H fx fv/\eY H sm sv/\bC fx sm /\
 ∀ H',dL x H H'->oV K C fx sm H' x->Q .non H'
noncomputable def L3 (fx:cL)(H:Hp)(i:Nat)(acc:List V)(σ:St)(H2:Hp):Prop:=∃ o o':Option V,σ=[o,o']/\H2=H/\acc=(zeros (fx.take i)).map V.str
theorem vX (fx:cL):(zeros fx).length<=fx.length:=by
 unfold zeros
 rw [List.length_map]
 exact List.length_filter_le _ _
theorem GK {f C:Addr}{fd:FuncData}(F:gN K "__init__" "Signs.__init__" bV f fd)(T:Txt mg)(co:IH K C)(O_checked_pairs:dQ P w K mg base bP 1 "checked_pairs" sU)(O_check_names:dQ P w K mg base bP 2 "check_names" pK)(O_check_parts:dQ P w K mg base bP 2 "check_parts" sT)(O_check_noughts:dQ P w K mg base bP 1 "check_noughts" lE):cF P w K mg base bP 3 f fd fZ (wP K C):=by
 refine F.ok fP (fun vs H Q E h=>?_) (fun cdv A outer s H vs Q E hr h=>?_)
 ·obtain ⟨x,dx,a,b,fx,sm,fv,sv,rfl,_⟩:=h
  rfl
 ·obtain ⟨x,dx,a,b,fx,sm,fv,sv,rfl,hx,ha,hb,rf,rs,so,q⟩:=h
  have hu:=hr.units
  refine ⟨_,(aC (aP (i:=3) fP.nd rfl (Or.inl rfl) (aO O_checked_pairs (hr.mono (by decide)) pass0 rfl (aA (pv 1) (aA aF (aA (cK T.c_MOST_FIXED rfl) aB)))))
   (aC (aP (i:=4) fP.nd rfl (Or.inl rfl) (aO O_checked_pairs (hr.mono (by decide)) pass0 rfl (aA (pv 2) (aA aF (aA (cK T.c_MOST_SUMS rfl) aB)))))
   (aC (eL (aO O_check_names (hr.mono (by decide)) pass0 rfl (aA (bB aY (pv 3) (pv 4)) aB)))
   (aC (eL (aO O_check_parts (hr.mono (by decide)) pass0 rfl (aA (pv 3) aB)))
   (aC (eL (aO O_check_noughts (hr.mono (by decide)) pass0 rfl (aA (pv 4) (aA (eM rfl (bG.by (N:=gA) (names:=(aD bV).names) (N':=["name","many"]) (src:=[none,none]) (by decide +kernel) rfl rfl) (dM K rfl (pv 3)) (fun _ _ _ _=>(dD K rfl (i:=0) (j:=1) rfl (show List.Nodup (["name","many"]:aW) by decide +kernel) rfl rfl rfl rfl)) (fun _ _ _ _=>(kT (aS (eI hu) (pv 1) aF (nomark _)))) (fun _ _ _ _=>(pv 0))) aB))))
   (aC (tF (pv 0) (pv 3) rfl)
   (aC (tF (pv 0) (pv 4) rfl)
   (aC (tF (pv 0) (d9 (qF rfl) rfl T.n_dict rfl (aA (pv 3) aB)) rfl)
   (aH (tF (pv 0) (d9 (qF rfl) rfl T.n_dict rfl (aA (pv 4) aB)) rfl)))))))))),?_⟩
  simp only [gA]
  clear hr F T hu O_checked_pairs O_check_names O_check_parts O_check_noughts
  have keep:=aI q (aI hx (aI ha (aI hb (aI rf (aI rs (aI so co))))))
  clear q hx ha hb rf rs so co
  walk_at "rd"
  obtain ⟨q,hx,ha,hb,rf,rs,so,co⟩:=keep
  have lf:=rf.len
  have ls:=rs.len
  have f1:=so.f1
  have f2:=so.f2
  have s2':=so.s2
  have ndf:=(List.nodup_append.mp so.nd).1
  have nds':=(List.nodup_append.mp so.nd).2.1
  refine ⟨a,1,12,fv,rfl,ha,rf.pairs,by omega,by omega,by omega,fun l1 H1 s1 hl1 h1=>?_⟩
  refine ⟨b,0,3,sv,rfl,s1 _ _ hb,rs.pairs.same s1,by omega,by omega,by omega,fun l2 H2 s2 hl2 h2=>?_⟩
  have nxl1:x≠l1:=aG hx hl1
  have nxl2:x≠l2:=aG (s1 _ _ hx) hl2
  refine .inr ⟨.lst (fv ++ sv),mQ (s2 _ _ h1) h2 (Nat.le_trans (m:=100) (by omega) (by decide)),fun l3 hl3=>?_⟩
  have s3:=(s1.trans s2).trans (aJ.upd (o:=.lst (fv ++ sv)) hl3)
  have h13:=(aJ.upd (o:=.lst (fv ++ sv)) hl3) _ _ (s2 _ _ h1)
  have h23:=(aJ.upd (o:=.lst (fv ++ sv)) hl3) _ _ h2
  have h33:upd H2 l3 (.lst (fv ++ sv)) l3=some (.lst (fv ++ sv)):=upd_same
  generalize upd H2 l3 (.lst (fv ++ sv))=H3 at s3 h13 h23 h33 ⊢
  refine ⟨l3,fx.map (·.1) ++ sm.map (·.1),fv ++ sv,rfl,h33,iF.app (iF.same s3 rf.n) (iF.same s3 rs.n),so.nm,so.nd,by simp;omega,fun H4 s4=>?_⟩
  refine ⟨l1,fx,fv,rfl,s4 _ _ h13,rf.same (bE.of (s3.trans s4)),so.parts,so.bare,by omega,fun H5 s5=>?_⟩
  have h15:=s5 _ _ (s4 _ _ h13)
  have h25:=s5 _ _ (s4 _ _ h23)
  have sH5:=(s3.trans s4).trans s5
  have rf5:=rf.same (bE.of sH5)
  have rs5:=rs.same (bE.of sH5)
  refine ⟨l1,rfl,fv,.inl h15,fun J hJ=>?_⟩
  refine dG hJ (L3 fx H5) ⟨none,none,rfl,rfl,rfl⟩ (by rintro i acc σ H' _ ⟨_,_,_,rfl,_⟩;rfl) ?_ ?_
  ·rintro i y acc σ H6 hy ⟨o,o',rfl,rfl,rfl⟩
   obtain ⟨r,t,hn,rfl,ht⟩:=rf5.get hy
   have hi:=(List.getElem?_eq_some_iff.mp hn).1
   have hk:=vX (fx.take i)
   rw [List.length_take] at hk
   have e1:=gX (fx.take i) r
   rw [← bO hn] at e1
   refine ⟨t,_,rfl,iE.of ht,rfl,_,_,rfl,_,_,rfl,rfl,_,rfl,?_⟩
   dsimp only [tC]
   rw [rEqD_ii]
   refine ⟨_,rfl,?_⟩
   by_cases z:r.2=0
   ·rw [if_pos (decide_eq_true z)]
    rw [if_pos z] at e1
    exact ⟨_,rfl,Nat.lt_of_le_of_lt (m:=100) (by rw [List.length_map];omega) (by decide),_,_,rfl,rfl,by rw [e1,List.map_append];rfl⟩
   ·rw [if_neg (by simpa using z)]
    rw [if_neg z,List.append_nil] at e1
    exact ⟨_,_,rfl,rfl,by rw [e1]⟩
  ·rintro acc σ H6 ⟨o,o',rfl,rfl,rfl⟩ l6 hl6
   rw [lf,List.take_length]
   have s6:aJ H6 (upd H6 l6 (.lst ((zeros fx).map V.str))):=aJ.upd hl6
   have h66:upd H6 l6 (.lst ((zeros fx).map V.str)) l6=some (.lst ((zeros fx).map V.str)):=upd_same
   generalize upd H6 l6 (.lst ((zeros fx).map V.str))=H7 at s6 h66 ⊢
   refine ⟨l2,l6,sm,sv,zeros fx,rfl,s6 _ _ h25,rs5.same (bE.of s6),h66,so.nought,so.once,by omega,fun H8 s8=>?_⟩
   have sH8:=(sH5.trans s6).trans s8
   have h18:=s8 _ _ (s6 _ _ h15)
   have h28:=s8 _ _ (s6 _ _ h25)
   have hx8:=sH8 _ _ hx
   have rf8:=rf.same (bE.of sH8)
   have rs8:=rs.same (bE.of sH8)
   refine ⟨_,rfl,_,rfl,x,C,dx,[],rfl,hx8,co.cls,co.n1,by decide,?_⟩
   refine ⟨_,rfl,_,rfl,x,C,dx,_,rfl,upd_same,co.cls,co.n2,?_,?_⟩
   ·have:=fF ("fixed_rows" : Str) (.ref l1) []
    simp only [List.length_nil] at this
    omega
   rw [upd_upd]
   have e9:∀ (fs:List (Str×V)),aJ (del H8 x) (upd H8 x (.ins C dx fs)):=fun fs b o e=>by
    obtain ⟨z1,z2⟩:=gO e
    rw [aE z2]
    exact z1
   have l2f:(putF ("sum_rows" : Str) (.ref l2) (putF ("fixed_rows" : Str) (.ref l1) [])).length<=2:=by
    have:=fF ("sum_rows" : Str) (.ref l2) (putF ("fixed_rows" : Str) (.ref l1) [])
    have:=fF ("fixed_rows" : Str) (.ref l1) []
    simp only [List.length_nil] at this
    omega
   have k1:(putF ("sum_rows" : Str) (.ref l2) (putF ("fixed_rows" : Str) (.ref l1) [])).lookup ("many" : Str)=none:=by rw [bW,if_neg (by decide),bW,if_neg (by decide)];rfl
   have k2:(putF ("sum_rows" : Str) (.ref l2) (putF ("fixed_rows" : Str) (.ref l1) [])).lookup ("nought" : Str)=none:=by rw [bW,if_neg (by decide),bW,if_neg (by decide)];rfl
   generalize putF ("sum_rows" : Str) (.ref l2) (putF ("fixed_rows" : Str) (.ref l1) [])=fs2 at l2f k1 k2 ⊢
   have t9:bE H8 (upd H8 x (.ins C dx fs2)):=fun c xs e=>by rw [aE (fun z=>by rw [z,hx8] at e;cases e)];exact e
   have h9x:upd H8 x (.ins C dx fs2) x=some (.ins C dx fs2):=upd_same
   have b9:dL x H (upd H8 x (.ins C dx fs2)):=fun c o nc e=>by rw [aE nc];exact sH8 _ _ e
   have h19:upd H8 x (.ins C dx fs2) l1=some (.lst fv):=by rw [aE nxl1.symm];exact h18
   have h29:upd H8 x (.ins C dx fs2) l2=some (.lst sv):=by rw [aE nxl2.symm];exact h28
   have rf9:=rf8.same t9
   have rs9:=rs8.same t9
   generalize upd H8 x (.ins C dx fs2)=H9 at t9 h9x b9 h19 h29 rf9 rs9 ⊢
   refine ⟨_,rfl,l1,fv,_,rfl,h19,rf9.prs,fun d3 hd3=>?_⟩
   rw [DX ndf]
   have nx3:x≠d3:=aG h9x hd3
   refine ⟨_,rfl,x,C,dx,fs2,rfl,by rw [aE nx3];exact h9x,co.cls,co.n3,by omega,?_⟩
   have l3f:=fF ("many_by_name" : Str) (.ref d3) fs2
   have k3:(putF ("many_by_name" : Str) (.ref d3) fs2).lookup ("many" : Str)=none:=by rw [bW,if_neg (by decide)];exact k1
   have k4:(putF ("many_by_name" : Str) (.ref d3) fs2).lookup ("nought" : Str)=none:=by rw [bW,if_neg (by decide)];exact k2
   have k5:(putF ("many_by_name" : Str) (.ref d3) fs2).lookup ("many_by_name" : Str)=some (.ref d3):=by rw [bW,if_pos rfl]
   generalize putF ("many_by_name" : Str) (.ref d3) fs2=fs3 at l3f k3 k4 k5 ⊢
   have s10:aJ H9 (upd H9 d3 (.dK (fx.map fun r=>(.inr r.1,.int r.2)))):=aJ.upd hd3
   have h11x:upd (upd H9 d3 (.dK (fx.map fun r=>(.inr r.1,.int r.2)))) x (.ins C dx fs3) x=some (.ins C dx fs3):=upd_same
   have h11d:upd (upd H9 d3 (.dK (fx.map fun r=>(.inr r.1,.int r.2)))) x (.ins C dx fs3) d3=some (.dK (fx.map fun r=>(.inr r.1,.int r.2))):=by rw [aE nx3.symm];exact upd_same
   have b11:dL x H9 (upd (upd H9 d3 (.dK (fx.map fun r=>(.inr r.1,.int r.2)))) x (.ins C dx fs3)):=fun c o nc e=>by rw [aE nc];exact s10 _ _ e
   generalize upd (upd H9 d3 (.dK (fx.map fun r=>(.inr r.1,.int r.2)))) x (.ins C dx fs3)=H11 at h11x h11d b11 ⊢
   have t11:bE H9 H11:=fun c xs e=>b11 c _ (fun z=>by rw [z,h9x] at e;cases e) e
   refine ⟨_,rfl,l2,sv,_,rfl,b11 _ _ nxl2.symm h29,(rs9.same t11).prs,fun d4 hd4=>?_⟩
   rw [DW nds']
   have nx4:x≠d4:=aG h11x hd4
   have n34:d3≠d4:=aG h11d hd4
   refine ⟨_,rfl,x,C,dx,fs3,rfl,by rw [aE nx4];exact h11x,co.cls,co.n4,by omega,?_⟩
   refine q _ (fun c o nc e=>?_) ⟨co.cls,co.n3,co.n4,dx,_,d3,d4,upd_same,by rw [bW,if_neg (by decide)];exact k3,by rw [bW,if_neg (by decide)];exact k4,by rw [bW,if_neg (by decide)];exact k5,by rw [bW,if_pos rfl],by rw [aE nx3.symm,aE n34];exact h11d,by rw [aE nx4.symm];exact upd_same⟩
   rw [aE nc]
   exact (aJ.upd hd4) _ _ (b11 c o nc (b9 c o nc e))
end
end Lw
namespace L2
open PySem PySem.Spec PyProof.Rows
theorem qS:entryFor table "proto.unchain" = some Builtin.«proto.unchain»:=entryFor_of_fast (by kernel_rfl)
section
variable {prog:Program}{w:World}{A:Around}{E:cY}{s:Shared}
theorem unchained {e:Addr}{x:Value}{Q:cY}(al:eS e s.heap)(q:Q .none s):wpAny (model prog w) A (runValue (.builtin "proto.unchain" ⟨[x,.ref e,.ref e,.bool false],[]⟩)) Q E s:=by
 obtain ⟨o,vs,ho,hd,h2⟩:=al
 refine wpAny_runValue (codeAny_builtin qS ?_)
 unfold Builtin.«proto.unchain»
 refine wpAny_bind (wpAny_field ho hd h2 ?_)
 exact wpAny_pure q
theorem AE {α:Type}{e x:Addr}{o:Obj}{vs:uH}{Q:α->Shared->Prop}(hh:A.handled=some (.ref e))(al:eS e s.heap)(ne:e≠x)(hx:s.heap.get? x=some o)(hd:o.data = .fields vs)(h2:2 < vs.size)
  (q:E (.ref x) { s with heap:=s.heap.update x (Obj.mapFields (·.setIfInBounds 2 (.ref e))) }):wpAny (model prog w) A (raiseNew (.ref x):Sem α) Q E s:=by
 unfold raiseNew
 refine wpAny_bind (wpAny_handled (hh ▸ ?_))
 dsimp only
 rw [if_pos (by simp [ne])]
 refine wpAny_bind (wpAny_holding (unchained al ?_))
 have put:wpAny (model prog w) A (setField (.ref x) 2 (.ref e)) (fun _ t=>wpAny (model prog w) A (throw (.ref x):Sem α) Q E t) E s:=wpAny_setField hx hd h2 (wpAny_throw q)
 exact wpAny_bind put
theorem qQ {e it:Addr}{x left step:Int}{Q:Option Value->Shared->Prop}(hh:A.handled=some (.ref e))(al:eS e s.heap)(hit:IsRangeIter s.heap it x left step)(over:left<=0)
  (q:∀ h',Heap.ExtBut it s.heap h'->Q none { s with heap:=h' }):wpAny (model prog w) A (pyNext (.ref it)) Q E s:=by
 have ty:s.TypeIs (.ref it) "range_iterator":=⟨_,hit,rfl⟩
 have f0:∀ (A:Around) (E:cY) (Q:cY),Q (rawInt x) s->wpAny (model prog w) A (field (.ref it) 0) Q E s:=fun _ _ _ h=>wpAny_field hit rfl rfl h
 have f1:∀ (A:Around) (E:cY) (Q:cY),Q (rawInt left) s->wpAny (model prog w) A (field (.ref it) 1) Q E s:=fun _ _ _ h=>wpAny_field hit rfl rfl h
 have f2:∀ (A:Around) (E:cY) (Q:cY),Q (rawInt step) s->wpAny (model prog w) A (field (.ref it) 2) Q E s:=fun _ _ _ h=>wpAny_field hit rfl rfl h
 unfold pyNext
 refine wpAny_bind (wpAny_attempt (wpAny_callSpecial?_slot (name:=Str.ofString "__next__") ty F.slot_range_iterator_next (wpAny_call_entry F.slot_range_iterator_next ty F.entry_range_iterator_next ?_ (F.args_range_iterator_next_1 _))))
 wp_walk using f0,f1,f2
 have new:=Heap.get?_push_size (s.heap.push { cls:=.type "tuple",data:=.seq #[] }) (o:={ cls:=.type "StopIteration",data:=.fields #[.ref s.heap.objs.size,.none,.none,.none,.bool false,.none] }) rfl
 have lt:∀ b o,s.heap.get? b=some o->b < (s.heap.push { cls:=.type "tuple",data:=.seq #[] }).objs.size:=fun b o h=>Heap.lt_size (Heap.get?_push_of_some _ h)
 obtain ⟨oe,_,he,_⟩:=id al
 refine AE (A:=A.in1) hh al.push.push (Nat.ne_of_lt (lt e oe he)) new rfl (show 2 < 6 by decide) ?_
 refine wpAny_bind (wpAny_isInstance (b:=true) ⟨_,Heap.get?_update_self _ new rfl,rfl⟩ isSubtype_stop (wpAny_pure (q _ fun b o _ h=>?_)))
 exact (Heap.get?_update_other _ _ (Nat.ne_of_gt (lt b o h))).trans (Heap.get?_push_of_some _ (Heap.get?_push_of_some _ h))
end
noncomputable def KQ (e:Addr)(lo:Int)(n:Nat):It:=⟨(BR lo n).go,(BR lo n).yld,fun i H=>n<=i/\∃ C,H e=some (.ext (eQ e C))⟩
theorem B7 {Y:Cx}{tg:Expr}{e:Addr}(hh:Y.A.handled=some (.ref e))(it:Addr)(lo:Int)(n:Nat):sC Y tg (KQ e lo n) [it] it (fun i h=>IsRangeIter h it (lo + (i:Nat) * 1) ((n:Int) - (i:Nat)) 1) where
 obj:=(jE (P:=Y.prog) (w:=Y.w) (K:=Y.K) (tg:=tg) it lo n).obj
 keep:=(jE (P:=Y.prog) (w:=Y.w) (K:=Y.K) (tg:=tg) it lo n).keep
 self:=(jE (P:=Y.prog) (w:=Y.w) (K:=Y.K) (tg:=tg) it lo n).self
 item:=fun i pins s σ H E I hf st hg=>by
  obtain ⟨f0,f1,f2,f3,f4,f5⟩:=hf it (by simp)
  have hg:i < n:=hg
  refine wpAny_pyNext_range_item st (by omega) fun h' st' sb=>?_
  have e1:lo + (i:Nat) * 1 + 1=lo + ((i + 1:Nat):Int) * 1:=by omega
  have e2:(n:Int) - (i:Nat) - 1=(n:Int) - ((i + 1:Nat):Int):=by omega
  rw [e1,e2] at st'
  have I1:aN Y pins σ H { s with heap:=h',toks:=s.toks + 1 }:=I.turned (fun b o hb e=>sb.extBut b o hb e) f0 f1 f3 f4 f5
  refine ⟨_,rfl,vI (s:={ s with heap:=h',toks:=s.toks + 1 }) (n:="range_iterator") st' rfl rfl (by decide) ⟨.int (lo + i),H,I1,⟨s.toks,?_⟩,⟨rfl,rfl⟩,st',fun b hb=>(hf b hb).1⟩⟩
  rw [Int.mul_one]
 done:=fun i pins s σ H E I hf st hg=>by
  obtain ⟨f0,f1,f2,f3,f4,f5⟩:=hf it (by simp)
  obtain ⟨hn,C,hC⟩:=hg
  have al:eS e s.heap:=(show bY Y.prog Y.w H s.heap e (.ext (eQ e C)) from I.hok e _ hC).1.1
  exact qQ hh al st (by omega) fun h' eb=>⟨rfl,I.turned (t':=s.toks) (fun b o hb e=>eb b o hb e) f0 f1 f3 f4 f5⟩
noncomputable def IW (e:Addr)(src:List (Option Nat))(ta:TA)(g:TG)(tt:TT)(te:TE):TE:=fun σ H Q=>ta σ H fun vs H1=>∃ j:Int,vs=[.int j]/\-(2 ^ 62)<=j/\j < 2 ^ 62/\kQ (KQ e 0 j.toNat) g tt te Q (stC src σ) H1
theorem w6 {X:Cx}{e:Addr}{scope:Scope}{N':aW}{src:List (Option Nat)}{tg a elt:Expr}{ifs:iW}{p pos rp:Pos}{ta:TA}{g:TG}{tt:TT}{te:TE}(hh:X.A.handled=some (.ref e))(S:bG X scope N' src)(hr:Gl X "range")(hm:X.mg "range" = none)(ha:PA X [a] ta)
  (hg:∀ C s H fp,PG (blk X scope N' C s H fp) tg g) (ht:∀ C s H fp,KJ (blk X scope N' C s H fp) ifs tt) (he:∀ C s H fp,PE (blk X scope N' C s H fp) elt te) (hs:starEach [a] X.env=[(false,eval a X.env)]:=by rfl)
  (hf:∀ x,foldedSetIterable (.Call (.Name "range" p) [a] [] rp) X.env x=pure x:=by intro _;rfl):PE X (.ListComp elt [⟨tg,.Call (.Name "range" p) [a] [] rp,ifs,0⟩] scope pos) (IW e src ta g tt te):=by
 intro pins s σ H Q I h
 rw [eval_ListComp]
 refine wpAny_comprehension_free rfl hf (lA (S.cells I)) S.kind S.names ?_
 refine Call_ (pY I hr hm boot_range (PyProof.Rows.callWith_type1 (thn (ha rp pins s σ H _ I h) fun us s1 ⟨vs,H1,I1,r1,q1⟩=>?_) hs rfl))
 obtain ⟨j,ev,q1,q2,W,w0,turn⟩:=q1
 subst ev
 cases r1 with
 | cons r rr =>
  cases rr
  obtain ⟨t,rfl⟩:=r
  refine call_range_1 ?_
  refine wpAny_pyIter_range (IsRange.new ..) (small_one (by omega) (by omega) q1 q2) ?_
  have I2:aN X pins σ H1 { s1 with heap:=s1.heap.push { cls:=.type "range",data:=.fields #[.int 0 s1.toks,.int j t,.int 1 (s1.toks + 1)] },toks:=s1.toks + 1 + 1 }:=I1.kept fun b o e=>Heap.get?_push_of_some _ e
  have I3:=I2.kept (t':=s1.toks + 1 + 1) fun b o e=>Heap.get?_push_of_some { cls:=.type "range_iterator",data:=.fields #[rawInt 0,rawInt (Builtin.Range.rangeSize 0 j 1),rawInt 1] } e
  have fz:=I2.fpOk (Nat.le_refl _) (I2.hok.fresh (Nat.le_refl _))
  have st:IsRangeIter ((s1.heap.push { cls:=.type "range",data:=.fields #[.int 0 s1.toks,.int j t,.int 1 (s1.toks + 1)] }).push { cls:=.type "range_iterator",data:=.fields #[rawInt 0,rawInt (Builtin.Range.rangeSize 0 j 1),rawInt 1] }) (s1.heap.push { cls:=.type "range",data:=.fields #[.int 0 s1.toks,.int j t,.int 1 (s1.toks + 1)] }).objs.size (0 + ((0:Nat):Int) * 1) (((j.toNat:Nat):Int) - ((0:Nat):Int)) 1:=by
   have e2:((j.toNat:Nat):Int) - ((0:Nat):Int)=Builtin.Range.rangeSize 0 j 1:=by rw [rangeSize_one];split <;> omega
   rw [e2]
   exact Heap.get?_push_size _ rfl
  exact lJ (lay:=p0 elt) (tl:=tlLst te) (obj:=fun _=>.lst) nR nQ (.lst ..) rfl (pF elt tg _ ifs scope pos) (fun _ _ _ _=>tQ) S I3 (fun C=>B7 (Y:=blk X scope N' C _ H1 _) hh _ 0 j.toNat) st (fun b hb=>(List.mem_singleton.mp hb) ▸ fz) (fun C=>hg C _ _ _) (fun C=>ht C _ _ _) (fun C D acc=>pZ (fun _ _ z=>z) (he C _ _ _)) w0 turn fun D C s' H' acc a1 a2 a3 a4 a5 a6 fin=>vK I3 a1 a2 a3 a4 a5 (fin D a6)
theorem A7 {g:TG}{tt:TT}{te:TE}{Q:VK}{σ:St}{H:Hp}{e:Addr}{lo:Int}{n:Nat}(Pv:Nat->List V->St->Hp->Prop)(h0:Pv 0 [] σ H)(hs:∀ i acc σ H,i < n->Pv i acc σ H->CStep g tt te (.int (lo + i)) acc σ H (Pv (i + 1)))
  (hd:∀ acc σ H,Pv n acc σ H->(∃ C,H e=some (.ext (eQ e C)))/\∀ p,H p=none->Q (.ref p) (upd H p (.lst acc))):kQ (KQ e lo n) g tt te Q σ H :=
 kH Pv h0 (fun i acc σ H hi p=>⟨hi,fun x H' y=>by obtain ⟨rfl,rfl⟩:=y;exact hs i acc σ _ hi p⟩) fun acc σ H p=>⟨⟨Nat.le_refl _,(hd acc σ H p).1⟩,(hd acc σ H p).2⟩
end L2
namespace L2
open PySem
variable {X:Cx}
noncomputable def rNeW:R2:=fun x y H Q=>∃ d e,cD H d x/\cD H e y/\depD d<=150/\Q (.bl (!eqD d e)) H
theorem JN (hu:X.A.units + 160 < cLine):iN X (compareOp .NotEq) rNeW:=by
 intro pins s σ H x y v u Q I rx ry h
 obtain ⟨d,e,hd,he,hz,q⟩:=h
 exact yM I.hok d e X.A x y v u hd he rx ry (by omega) X.prog X.w X.xe _ ⟨.bl _,H,I,rfl,q⟩
end L2
namespace L2
open PySem PyProof.Rows
variable {X:Cx}
noncomputable def rNeV:R2:=fun x y H Q=>rNeW x y H Q∨∃ p q k a b d e,x = .ref p/\y = .ref q/\H p=some (.dK [(k,a)])/\H q=some (.dK [(k,b)])/\cD H d a/\cD H e b/\depD d<=100/\Q (.bl (!eqD d e)) H
theorem D2 {k:eZ}{a:V}{vs:List (eZ×Value)}(h:KV [(k,a)] vs):∃ u,vs=[(k,u)]/\aQ a u:=by
 cases h with
 | cons h t =>
  cases t
  obtain ⟨e,r⟩:=h
  rename_i q
  obtain ⟨k',u⟩:=q
  cases e
  exact ⟨u,rfl,r⟩
theorem DE (hu:X.A.units + 160 < cLine):iN X (compareOp .NotEq) rNeV:=by
 intro pins s σ H x y v u Q I rx ry h
 rcases h with h | ⟨p,q,k,a,b,d,e,rfl,rfl,hp,hq,ra,rb,dd,q'⟩
 ·exact JN hu pins s σ H x y v u Q I rx ry h
 ·cases rx
  cases ry
  obtain ⟨_,sp,vs,kv,dp⟩:=EG I.hok hp
  obtain ⟨_,sq,ws,kw,dq⟩:=EG I.hok hq
  obtain ⟨u1,rfl,r1⟩:∃ u1,vs=[(k,u1)]/\aQ a u1:=D2 kv
  obtain ⟨u2,rfl,r2⟩:∃ u2,ws=[(k,u2)]/\aQ b u2:=D2 kw
  refine PySem.W.keq_ne (knd:=cB X.prog X.w) (r:=eqD d e && true) sp sq dp dq (by omega) (fun _=>.hit (y:=u2) ?_ (eqAtD I.hok d e X.A.in1 a b u1 u2 ra rb r1 r2 ?_) .nil) ⟨.bl _,H,I,?_,q'⟩
  ·simp [valueAt]
  ·show X.A.units + 1 + depD d < cLine
   omega
  ·show Value.bool _=Value.bool _
   rw [Bool.and_true]
   rfl
end L2
namespace L2
open PySem PySem.Spec PyProof.Rows
section
variable {X:Cx}
theorem zW {ws:aW}:∀ {us:cE},aV (ws.map V.str) us->∃ l:List (Str×Tok),us=strValues l/\l.map (·.1)=ws:=by
 induction ws with
 | nil=>intro us r;cases r;exact ⟨[],rfl,rfl⟩
 | cons x ws ih =>
  intro us r
  cases r with
  | cons r1 r2 =>
   obtain ⟨t,rfl⟩:=r1
   obtain ⟨l,rfl,e⟩:=ih r2
   exact ⟨(x,t) :: l,rfl,by rw [List.map_cons,e]⟩
noncomputable def rJoin:V->List V->Hp->VK->Prop:=fun x vs H Q=>∃ (sep:Str) (a:Addr) (ws:aW),x = .str sep/\vs=[.ref a]/\H a=some (.lst (ws.map V.str))/\JoinOk sep ws=true/\Q (.str (Txt.join sep ws)) H
theorem GP:LT X "str.join" rJoin:=by
 intro pins s σ H x xs v us Q I rx rv h
 obtain ⟨sep,a,ws,rfl,rfl,hH,ok,q⟩:=h
 obtain ⟨t,rfl⟩:=rx
 obtain ⟨u,rfl,ru⟩:=rv.one
 cases ru
 obtain ⟨its,r,pl,_⟩:=I.list (fH.of hH)
 obtain ⟨l,rfl,e⟩:=zW r
 exact PySem.SC.join pl.isList e ok fun t' k=>⟨.str (Txt.join sep ws),H,I.kept (t':=k) fun b o q=>q,⟨t',rfl⟩,q⟩
noncomputable def ipS:LK:=fun x y H Q=>∃ a b,x = .str a/\y = .str b/\a.length + b.length<=sizeLine/\Q (.str (a ++ b)) H
theorem GV:LY X .Add ipS:=by
 intro pins s σ H x y v u Q I rx ry h
 obtain ⟨a,b,rfl,rfl,hz,q⟩:=h
 obtain ⟨t,rfl⟩:=rx
 obtain ⟨t2,rfl⟩:=ry
 exact PySem.SB.iadd (fun t' k=>⟨.str (a ++ b),H,I.kept (t':=k) fun b o q=>q,⟨t',rfl⟩,q⟩) hz
theorem EB {g:TG}{tb:TS}{D:gR}{σ:St}{H:Hp}{z:Str}(Pv:Nat->St->Hp->Prop)(h0:Pv 0 σ H)
  (hs:∀ i c σ H,z.cps[i]?=some c->Pv i σ H->g (.str ⟨#[c]⟩) σ H fun σ2 H2=>tb { D with nx:=Pv (i + 1),ct:=Pv (i + 1),bk:=D.nx } σ2 H2) (hd:∀ σ H,Pv z.cps.size σ H->D.nx σ H):x9 (LN z) g tb D σ H:=by
 refine ⟨fun i m σ H=>m=z.cps.size - i/\i<=z.cps.size/\Pv i σ H,⟨z.cps.size,by simp,Nat.zero_le _,h0⟩,?_⟩
 rintro i m σ H ⟨rfl,hi,p⟩
 by_cases c:i < z.cps.size
 ·refine .inr ⟨c,Pv (i + 1),fun σ' H' p'=>⟨z.cps.size - (i + 1),by omega,rfl,c,p'⟩,?_⟩
  rintro x H' ⟨rfl,ch,hc,rfl⟩
  exact hs i ch σ H' hc p
 ·obtain rfl:i=z.cps.size:=by omega
  exact .inl ⟨rfl,hd _ _ p⟩
end
noncomputable def cutS (z:Str)(lo hi:Option Int):Str:=⟨((z.cps.toList.drop (HT.sIx z.length 0 lo)).take (HT.sIx z.length z.length hi - HT.sIx z.length 0 lo)).toArray⟩
noncomputable def JC:V->Option Int->Option Int->Hp->VK->Prop:=fun x lo hi H Q=>∃ z,x = .str z/\z.length<=sizeLine/\Q (.str (cutS z lo hi)) H
theorem zN (v:Option Int)(n d:Nat):(match v with | none=>(d:Int) | some i=>max 0 (min (if i < 0 then i + (n:Int) else i) (n:Int)))=((HT.sIx n d v:Nat):Int):=by
 cases v with
 | none=>rfl
 | some i =>
  simp only [HT.sIx]
  by_cases h:i < 0
  ·rw [if_pos h,if_pos h]
   by_cases h2:i + (n:Int) < 0 <;> omega
  ·rw [if_neg h,if_neg h]
   omega
theorem AA (lo hi:Option Int)(n:Nat):Builtin.Str.strSliceIndices lo hi 1 n=(List.range (HT.sIx n n hi - HT.sIx n 0 lo)).map (HT.sIx n 0 lo + ·):=by
 rw [← sliceRange_one,← zN lo n 0,← zN hi n n]
 rfl
theorem eP {X:Cx}:KW X JC:=by
 intro pins s σ H x v vl vu lo hi sl Q I rx hs pl pu h
 obtain ⟨z,rfl,hz,q⟩:=h
 obtain ⟨t,rfl⟩:=rx
 refine ⟨"str",_,F.slot_str_getitem.lookup,typeIs_str _ _ _,?_⟩
 obtain ⟨l,el,ll⟩:∃ l:Option (Int×Tok),vl=partValue l/\l.map (·.1)=lo:=by
  cases pl with
  | none=>exact ⟨none,rfl,rfl⟩
  | int i t=>exact ⟨some (i,t),rfl,rfl⟩
 obtain ⟨u,eu,lu⟩:∃ u:Option (Int×Tok),vu=partValue u/\u.map (·.1)=hi:=by
  cases pu with
  | none=>exact ⟨none,rfl,rfl⟩
  | int i t=>exact ⟨some (i,t),rfl,rfl⟩
 subst el eu
 refine wpAny_getItem_str_slice (l:=l) (u:=u) (st:=none) hs rfl ?_
 have hp:slicePicked z l u none=(List.range (HT.sIx z.length z.length hi - HT.sIx z.length 0 lo)).map (HT.sIx z.length 0 lo + ·):=by
  unfold slicePicked
  rw [ll,lu]
  exact AA lo hi z.length
 have hm:((slicePicked z l u none).filterMap (z.cps[·]?)).toArray=(cutS z lo hi).cps:=by
  rw [hp,pick_run]
  rfl
 have hlen:(cutS z lo hi).cps.size<=z.cps.size:=by
  unfold cutS
  rw [List.size_toArray,List.length_take,List.length_drop,Array.length_toList]
  omega
 unfold sliceMade
 split
 ·next w =>
  rw [Bool.and_eq_true] at w
  have e:=eq_of_beq w.2
  rw [hp,List.length_map,List.length_range] at e
  have whole:cutS z lo hi=z:=by
   have b1:HT.sIx z.length z.length hi<=z.length:=by
    cases hi with
    | none=>exact Nat.le_refl _
    | some i=>simp only [HT.sIx];split <;> omega
   by_cases z0:z.length=0
   ·apply Str.ext'
    apply Array.toList_inj.mp
    have:z.cps.toList=[]:=by
     have:z.cps.toList.length=0:=by rw [Array.length_toList];exact z0
     exact List.length_eq_zero_iff.mp this
    unfold cutS
    rw [List.toList_toArray,this]
    simp
   ·have b2:HT.sIx z.length 0 lo=0:=by omega
    have b3:HT.sIx z.length z.length hi=z.length:=by omega
    apply Str.ext'
    apply Array.toList_inj.mp
    unfold cutS
    rw [List.toList_toArray,b2,b3,List.drop_zero,Nat.sub_zero,List.take_of_length_le (by rw [Array.length_toList];exact Nat.le_refl _)]
  exact ⟨.str z,H,I,⟨t,rfl⟩,by rw [whole] at q;exact q⟩
 ·rw [hm]
  exact ⟨Nat.le_trans hlen hz,.str (cutS z lo hi),H,I.tok _,⟨_,rfl⟩,q⟩
theorem kX {z:Str}{b:Nat}:(cutS z none (some (b:Int))).cps.toList=z.cps.toList.take b:=by
 unfold cutS
 rw [HT.sIx_none,HT.sIx_nat,List.toList_toArray,List.drop_zero,Nat.sub_zero]
 rw [show z.length=z.cps.toList.length by rw [Array.length_toList];rfl]
 rcases Nat.le_total b z.cps.toList.length with h | h
 ·rw [Nat.min_eq_left h]
 ·rw [Nat.min_eq_right h,List.take_length,List.take_of_length_le h]
theorem jD {z:Str}{a:Nat}:(cutS z (some (a:Int)) none).cps.toList=z.cps.toList.drop a:=by
 unfold cutS
 rw [HT.sIx_none,HT.sIx_nat,List.toList_toArray]
 have e:z.length=z.cps.toList.length:=by rw [Array.length_toList];rfl
 rw [e]
 rcases Nat.le_total a z.cps.toList.length with h | h
 ·rw [Nat.min_eq_left h,List.take_of_length_le (by rw [List.length_drop];omega)]
 ·rw [Nat.min_eq_right h,Nat.sub_self,List.take_zero,List.drop_eq_nil_of_le h]
theorem vM {z:Str}{a b:Nat}:(cutS z (some (a:Int)) (some (b:Int))).cps.toList=(z.cps.toList.take b).drop a:=by
 unfold cutS
 rw [HT.sIx_nat,HT.sIx_nat,List.toList_toArray,List.drop_take]
 have e:z.length=z.cps.toList.length:=by rw [Array.length_toList];rfl
 rw [e]
 rcases Nat.le_total a z.cps.toList.length with h | h
 ·rw [Nat.min_eq_left h]
  rcases Nat.le_total b z.cps.toList.length with k | k
  ·rw [Nat.min_eq_left k]
  ·rw [Nat.min_eq_right k,List.take_of_length_le (by rw [List.length_drop];omega),List.take_of_length_le (by rw [List.length_drop];omega)]
 ·rw [Nat.min_eq_right h,List.drop_eq_nil_of_le h,List.drop_eq_nil_of_le (Nat.le_refl _)]
  simp
structure uC (X:Cx)(es:iW)(t:TA):Prop where
 h:PA X es t
section
variable {X:Cx}{e:Expr}{es:iW}{te:TE}{t:TA}{pos:Pos}
theorem yT:uC X [] tNil:=⟨aB⟩
theorem i0 (ha:PE X e te)(hr:uC X es t)(hs:∀ env,starEach (e :: es) env=(false,eval e env) :: starEach es env):uC X (e :: es) (tCons te t):=⟨aA ha hr.h (hs _)⟩
theorem fS {c:Const}{j:Nat}{p:Pos}(ha:PE X (.Constant c j p) te)(hr:uC X es t):uC X (.Constant c j p :: es) (tCons te t):=⟨LO ha hr.h⟩
theorem C9 {x:Str}{p:Pos}(ha:PE X (.Name x p) te)(hr:uC X es t):uC X (.Name x p :: es) (tCons te t):=i0 ha hr fun env=>by rw [starEach];exact fun _ _ z=>nomatch z
theorem yS {a b:Expr}{p:Pos}(ha:PE X (.Subscript a b p) te)(hr:uC X es t):uC X (.Subscript a b p :: es) (tCons te t):=i0 ha hr fun env=>by rw [starEach];exact fun _ _ z=>nomatch z
theorem tI {xs:iW}{p:Pos}(ha:PE X (.List xs p) te)(hr:uC X es t):uC X (.List xs p :: es) (tCons te t):=i0 ha hr fun env=>by rw [starEach];exact fun _ _ z=>nomatch z
theorem yR {xs:iW}{j:Nat}{p:Pos}(ha:PE X (.Tuple xs j p) te)(hr:uC X es t):uC X (.Tuple xs j p :: es) (tCons te t):=i0 ha hr fun env=>by rw [starEach];exact fun _ _ z=>nomatch z
theorem DA {ks:List (Option Expr)}{vs:iW}{p:Pos}(ha:PE X (.Dict ks vs p) te)(hr:uC X es t):uC X (.Dict ks vs p :: es) (tCons te t):=i0 ha hr fun env=>AB
theorem FX {a b:Expr}{o:Operator}{p:Pos}(ha:PE X (.BinOp a o b p) te)(hr:uC X es t):uC X (.BinOp a o b p :: es) (tCons te t):=i0 ha hr fun env=>by rw [starEach];exact fun _ _ z=>nomatch z
end
theorem zZ {es:iW}{p:Pos}{tg:Option Expr}{n:Nat}{env:Env}:swapsWith (.List es p) tg n env=pure false:=rfl
end L2
namespace Lw
open PySem L2
mutual
/-- a term's text -/
noncomputable def wrL:D->List Nat
 | .str x=>x.cps.toList
 | .tup (.str n :: ds)=>n.cps.toList ++ 40 :: wrJ ds
 | .lst (.str n :: ds)=>n.cps.toList ++ 40 :: wrJ ds
 | _=>[]
/-- the parts' texts,what parts them,and the last bracket -/
noncomputable def wrJ:List D->List Nat
 | []=>[41]
 | [d]=>wrL d ++ [41]
 | d :: e :: r=>wrL d ++ 44 :: wrJ (e :: r)
end
noncomputable def wrS (d:D):Str:=⟨(wrL d).toArray⟩
mutual
noncomputable def ms:D->Nat
 | .tup (.str _ :: ds)=>4 + mss ds
 | .lst (.str _ :: ds)=>4 + mss ds
 | _=>1
noncomputable def mss:List D->Nat
 | []=>0
 | d :: ds=>ms d + 1 + mss ds
end
theorem oW:∀ {ds:List D},ds≠[]->(wrJ ds).length=(ds.map fun d=>(wrL d).length + 1).sum
 | [],h=>absurd rfl h
 | [d],_=>by rw [wrJ];simp
 | d :: e :: r,_=>by
  have ih:=oW (ds:=e :: r) (by simp)
  rw [wrJ,List.length_append,List.length_cons,ih,List.map_cons (l:=e :: r),List.sum_cons]
  omega
noncomputable def Pl (x:Str):Prop:=x.cps.toList.length<=9/\∀ c ∈ x.cps.toList,c≠40/\c≠41/\c≠44/\c < 128
theorem pB {x:Str}(h:iA x):Pl x:=⟨by have:=h.2.1;omega,fun c hc=>by have:=h.2.2 c hc;omega⟩
theorem yB {x:Str}(h:cC x):Pl x:=by
 obtain ⟨l,rfl,h1,h2,h3⟩:=h
 refine ⟨by simp;omega,fun c hc=>?_⟩
 simp only [List.mem_cons] at hc
 rcases hc with rfl | hc
 ·decide
 ·have:=h3 c hc
  unfold isWd at this
  omega
section
variable {fx:cL}{sm:cQ}{os:aW}
theorem rM (so:bC fx sm){n:Str}{k:Nat}(h:n8 fx sm n k):Pl n:=by
 refine pB (so.nm n ?_)
 rcases h with ⟨_,h⟩ | ⟨_,h⟩
 ·exact List.mem_append_left _ (List.mem_map.mpr ⟨_,h,rfl⟩)
 ·exact List.mem_append_right _ h
theorem tT (so:bC fx sm)(ho:∀ x ∈ os,cC x){x:Str}(h:cT fx sm os (.str x)):Pl x:=by
 unfold cT at h
 rcases h with h | h
 ·exact yB (ho x h)
 ·exact pB (so.nm x (List.mem_append_left _ ((fT fx).subset h)))
theorem vH {n:Str}{k:Nat}(h:n8 fx sm n k):0 < k:=by
 rcases h with ⟨h,_⟩ | ⟨h,_⟩ <;> omega
mutual
theorem yF (so:bC fx sm)(ho:∀ x ∈ os,cC x):∀ {d:D},cT fx sm os d->(wrL d).length + 1<=12 * nds d/\ms d + 1<=6 * nds d
 | .str x,h=>by
  have:=(tT so ho h).1
  have e:nds (.str x)=1:=by unfold nds;rfl
  have e2:ms (.str x)=1:=by unfold ms;rfl
  have e3:wrL (.str x)=x.cps.toList:=by unfold wrL;rfl
  rw [e,e2,e3]
  omega
 | .tup (.str n :: ds),h=>by
  unfold cT at h
  have h1:=(rM so h.1).1
  have ne:ds≠[]:=fun z=>by have:=vH h.1;rw [z] at this;exact absurd this (by simp)
  obtain ⟨h2,h3⟩:=wD so ho h.2
  rw [← oW ne] at h2
  rw [wrL,ms,nds,List.length_append,List.length_cons]
  omega
 | .lst (.str n :: ds),h=>by
  unfold cT at h
  have h1:=(rM so h.1).1
  have ne:ds≠[]:=fun z=>by have:=vH h.1;rw [z] at this;exact absurd this (by simp)
  obtain ⟨h2,h3⟩:=wD so ho h.2
  rw [← oW ne] at h2
  rw [wrL,ms,nds,List.length_append,List.length_cons]
  omega
 | .non,h | .bl _,h | .int _,h | .tup [],h | .lst [],h | .tup (.non :: _),h | .tup (.bl _ :: _),h | .tup (.int _ :: _),h | .tup (.tup _ :: _),h | .tup (.lst _ :: _),h | .lst (.non :: _),h | .lst (.bl _ :: _),h | .lst (.int _ :: _),h | .lst (.tup _ :: _),h | .lst (.lst _ :: _),h=>by unfold cT at h;exact absurd h id
theorem wD (so:bC fx sm)(ho:∀ x ∈ os,cC x):∀ {ds:List D},IsTms fx sm os ds->(ds.map fun d=>(wrL d).length + 1).sum<=12 * ndss ds/\mss ds<=6 * ndss ds
 | [],_=>by rw [ndss,mss];simp
 | d :: ds,⟨x,y⟩=>by
  obtain ⟨a,b⟩:=yF so ho x
  obtain ⟨a',b'⟩:=wD so ho y
  rw [ndss,mss,List.map_cons,List.sum_cons]
  omega
end
noncomputable def prs1 (c:Nat)(st:List (List D)×D):Option (List (List D)×D) :=
 if c=44∨c=41 then
  match st.1 with
  | []=>none
  | t :: r=>if c=41 then some (r,.tup (t ++ [st.2])) else some ((t ++ [st.2]) :: r,.str ⟨#[]⟩)
 else match st.2 with
  | .str x=>if c=40 then some ([.str x] :: st.1,.str ⟨#[]⟩) else some (st.1,.str ⟨x.cps.push c⟩)
  | _=>none
noncomputable def prs:List Nat->List (List D)×D->Option (List (List D)×D)
 | [],st=>some st
 | c :: r,st=>(prs1 c st).bind (prs r)
theorem jK:∀ (a b:List Nat) (st:List (List D)×D),prs (a ++ b) st=(prs a st).bind (prs b)
 | [],b,st=>rfl
 | c :: a,b,st=>by
  rw [List.cons_append,prs,prs]
  cases prs1 c st with
  | none=>rfl
  | some st'=>exact jK a b st'
theorem uT (st:List (List D)):∀ (l:List Nat) (x:Str),(∀ c ∈ l,c≠40/\c≠41/\c≠44)->prs l (st,.str x)=some (st,.str ⟨x.cps ++ l.toArray⟩)
 | [],x,_=>by rw [prs];simp
 | c :: l,x,h=>by
  obtain ⟨h1,h2,h3⟩:=h c List.mem_cons_self
  rw [prs]
  have e:prs1 c (st,.str x)=some (st,.str ⟨x.cps.push c⟩):=by
   unfold prs1
   rw [if_neg (by omega)]
   exact if_neg h1
  rw [e]
  show prs l (st,.str ⟨x.cps.push c⟩)=_
  rw [uT st l _ fun c hc=>h c (List.mem_cons_of_mem _ hc)]
  congr 3
  simp
theorem yO (st:List (List D))(x:Str)(h:Pl x):prs x.cps.toList (st,.str ⟨#[]⟩)=some (st,.str x):=by
 rw [uT st _ _ fun c hc=>⟨(h.2 c hc).1,(h.2 c hc).2.1,(h.2 c hc).2.2.1⟩]
 simp
end
theorem D4 {sep:Str}{ws:aW}{B:Nat}(h:∀ y ∈ ws,y.length<=B)(hl:ws.length * B + ws.length * sep.length<=16777216):JoinOk sep ws=true:=by
 unfold JoinOk
 rw [StrLaws.joinFits h hl]
 rfl
theorem AW:∀ {ds:List D},ds≠[]->(Txt.join ⟨#[44]⟩ (ds.map wrS)).cps.toList ++ [41]=wrJ ds:=by
 intro ds
 show ds≠[]->(Builtin.Str.glued ⟨#[44]⟩ (ds.map wrS)).cps.toList ++ [41]=_
 rw [StrLaws.glued_eq_join]
 induction ds with
 | nil=>intro h;exact absurd rfl h
 | cons d r ih =>
  intro _
  cases r with
  | nil=>rw [wrJ];simp [Str.join,wrS]
  | cons e r =>
   have h:=ih (by simp)
   rw [wrJ,← h]
   show ((wrS d) ++ ⟨#[44]⟩ ++ Str.join ⟨#[44]⟩ ((e :: r).map wrS)).cps.toList ++ [41]=_
   rw [Str.cps_append,Str.cps_append]
   simp [wrS]
mutual
theorem vZ {fx:cL}{sm:cQ}{os:aW}(so:bC fx sm)(ho:∀ x ∈ os,cC x):∀ {d:D},cT fx sm os d->∀ c ∈ wrL d,c < 128
 | .str x,h=>fun c hc=>by unfold wrL at hc;exact ((tT so ho h).2 c hc).2.2.2
 | .tup (.str n :: ds),h=>fun c hc=>by
  unfold cT at h
  rw [wrL] at hc
  obtain hc | hc:=List.mem_append.mp hc
  ·exact ((rM so h.1).2 c hc).2.2.2
  ·obtain rfl | hc:=List.mem_cons.mp hc
   ·decide
   ·exact sI so ho h.2 c hc
 | .lst (.str n :: ds),h=>fun c hc=>by
  unfold cT at h
  rw [wrL] at hc
  obtain hc | hc:=List.mem_append.mp hc
  ·exact ((rM so h.1).2 c hc).2.2.2
  ·obtain rfl | hc:=List.mem_cons.mp hc
   ·decide
   ·exact sI so ho h.2 c hc
 | .non,h | .bl _,h | .int _,h | .tup [],h | .lst [],h | .tup (.non :: _),h | .tup (.bl _ :: _),h | .tup (.int _ :: _),h | .tup (.tup _ :: _),h | .tup (.lst _ :: _),h | .lst (.non :: _),h | .lst (.bl _ :: _),h | .lst (.int _ :: _),h | .lst (.tup _ :: _),h | .lst (.lst _ :: _),h=>by unfold cT at h;exact absurd h id
theorem sI {fx:cL}{sm:cQ}{os:aW}(so:bC fx sm)(ho:∀ x ∈ os,cC x):∀ {ds:List D},IsTms fx sm os ds->∀ c ∈ wrJ ds,c < 128
 | [],_=>fun c hc=>by rw [wrJ] at hc;rw [List.mem_singleton.mp hc];decide
 | [d],h=>fun c hc=>by
  rw [wrJ] at hc
  obtain hc | hc:=List.mem_append.mp hc
  ·exact vZ so ho h.1 c hc
  ·rw [List.mem_singleton.mp hc];decide
 | d :: e :: r,h=>fun c hc=>by
  rw [wrJ] at hc
  obtain hc | hc:=List.mem_append.mp hc
  ·exact vZ so ho h.1 c hc
  ·obtain rfl | hc:=List.mem_cons.mp hc
   ·decide
   ·exact sI so ho h.2 c hc
end
mutual
noncomputable def TW (fx:cL)(sm:cQ):D->Prop
 | .str x=>cC x∨x ∈ zeros fx
 | .tup (.str n :: ds)=>n8 fx sm n ds.length/\TWs fx sm ds
 | _=>False
noncomputable def TWs (fx:cL)(sm:cQ):List D->Prop
 | []=>True
 | d :: ds=>TW fx sm d/\TWs fx sm ds
end
theorem gB {fx:cL}{sm:cQ}:∀ {ds:List D},TWs fx sm ds ↔ ∀ d ∈ ds,TW fx sm d
 | []=>by simp [TWs]
 | d :: ds=>by rw [TWs,gB (ds:=ds)];simp
noncomputable def wrP (ds:List D):List Nat:=ds.flatMap fun d=>wrL d ++ [44]
theorem uI:∀ (ps:List D) (d:D),wrJ (ps ++ [d])=wrP ps ++ (wrL d ++ [41])
 | [],d=>by rw [List.nil_append,wrJ];rfl
 | [p],d=>by rw [show [p] ++ [d]=[p,d] from rfl,wrJ,wrJ];unfold wrP;simp
 | p :: e :: r,d=>by
  have ih:=uI (e :: r) d
  rw [show (p :: e :: r) ++ [d]=p :: e :: (r ++ [d]) from rfl,wrJ,show e :: (r ++ [d])=(e :: r) ++ [d] from rfl,ih]
  unfold wrP
  simp
noncomputable def wrO:List D->List Nat
 | .str n :: ps=>n.cps.toList ++ 40 :: wrP ps
 | _=>[]
noncomputable def LA (t:List D):Prop:=∃ n ps,t = .str n :: ps
noncomputable def wrSt (st:List (List D)×D):List Nat:=(st.1.reverse.flatMap wrO) ++ wrL st.2
theorem iH (x:Str):wrL (.str x)=x.cps.toList:=by unfold wrL;rfl
theorem FO {c:Nat}{st st':List (List D)×D}(ok:∀ t ∈ st.1,LA t)(h:prs1 c st=some st'):(∀ t ∈ st'.1,LA t)/\wrSt st'=wrSt st ++ [c]:=by
 obtain ⟨stk,lt⟩:=st
 unfold prs1 at h
 dsimp only at h ok
 by_cases sep:c=44∨c=41
 ·rw [if_pos sep] at h
  cases stk with
  | nil=>cases h
  | cons t r =>
   obtain ⟨n,ps,rfl⟩:=ok t List.mem_cons_self
   dsimp only at h
   by_cases c41:c=41
   ·rw [if_pos c41] at h
    cases h
    refine ⟨fun t ht=>ok t (List.mem_cons_of_mem _ ht),?_⟩
    subst c41
    unfold wrSt
    rw [show (D.str n :: ps) ++ [lt] = .str n :: (ps ++ [lt]) from rfl,wrL,uI]
    simp [wrO]
   ·rw [if_neg c41] at h
    cases h
    have c44:c=44:=by omega
    subst c44
    refine ⟨fun t ht=>?_,?_⟩
    ·rcases List.mem_cons.mp ht with rfl | ht
     ·exact ⟨n,ps ++ [lt],rfl⟩
     ·exact ok t (List.mem_cons_of_mem _ ht)
    ·unfold wrSt
     simp [wrO,wrP,iH]
 ·rw [if_neg sep] at h
  cases lt with
  | str x =>
   dsimp only at h
   by_cases c40:c=40
   ·rw [if_pos c40] at h
    cases h
    subst c40
    refine ⟨fun t ht=>?_,?_⟩
    ·rcases List.mem_cons.mp ht with rfl | ht
     ·exact ⟨x,[],rfl⟩
     ·exact ok t ht
    ·unfold wrSt
     simp [wrO,wrP,iH]
   ·rw [if_neg c40] at h
    cases h
    refine ⟨ok,?_⟩
    unfold wrSt
    simp [iH]
  | _=>cases h
theorem CJ:∀ {l:List Nat} {st st':List (List D)×D},(∀ t ∈ st.1,LA t)->prs l st=some st'->(∀ t ∈ st'.1,LA t)/\wrSt st'=wrSt st ++ l
 | [],st,st',ok,h=>by rw [prs] at h;cases h;exact ⟨ok,by simp⟩
 | c :: l,st,st',ok,h=>by
  rw [prs] at h
  cases e:prs1 c st with
  | none=>rw [e] at h;cases h
  | some s1 =>
   rw [e] at h
   obtain ⟨k1,k2⟩:=FO ok e
   obtain ⟨k3,k4⟩:=CJ k1 (show prs l s1=some st' from h)
   exact ⟨k3,by rw [k4,k2];simp⟩
theorem wZ {l:List Nat}{e:D}(h:prs l ([],.str ⟨#[]⟩)=some ([],e)):wrL e=l:=by
 have:=(CJ (by simp) h).2
 unfold wrSt at this
 simpa [iH] using this
noncomputable def isCh (c:Nat):Bool:=decide (97<=c/\c<=122) || decide (48<=c/\c<=57) || decide (c=63)
noncomputable def wd (w:List Nat)(i:Nat):List Nat:=(w.drop i).takeWhile isCh
mutual
inductive hX (w:List Nat):Nat->D->Nat->Prop
 | word {i:Nat}:w[i + (wd w i).length]?≠some 40->hX w i (.str ⟨(wd w i).toArray⟩) (i + (wd w i).length)
 | open_ {i e:Nat} {d:D}:w[i + (wd w i).length]?=some 40->Row w [.str ⟨(wd w i).toArray⟩] (i + (wd w i).length) d e->hX w i d e
inductive Row (w:List Nat):List D->Nat->D->Nat->Prop
 | more {row:List D} {i e j:Nat} {p d:D}:hX w (i + 1) p e->w[e]?=some 44->Row w (row ++ [p]) e d j->Row w row i d j
 | last {row:List D} {i e:Nat} {p:D}:hX w (i + 1) p e->w[e]?=some 41->Row w row i (.tup (row ++ [p])) (e + 1)
 | bad {row:List D} {i e:Nat} {p:D}:hX w (i + 1) p e->w[e]?≠some 44->w[e]?≠some 41->Row w row i (.tup (row ++ [p] ++ [.non])) (e + 1)
end
theorem lR (w:List Nat)(i:Nat):w.drop i=wd w i ++ w.drop (i + (wd w i).length):=by
 have h:w.drop i=wd w i ++ (w.drop i).dropWhile isCh:=(List.takeWhile_append_dropWhile ..).symm
 have e:w.drop (i + (wd w i).length)=(w.drop i).drop (wd w i).length:=by rw [List.drop_drop]
 rw [e]
 conv=>rhs;rhs;arg 2;rw [h]
 rw [List.drop_left]
 exact h
theorem pC {w:List Nat}{i c:Nat}(h:w[i]?=some c):w.drop i=c :: w.drop (i + 1):=by
 have ⟨lt,at_⟩:=List.getElem?_eq_some_iff.mp h
 rw [List.drop_eq_getElem_cons lt,at_]
section
variable {fx:cL}{sm:cQ}{w:List Nat}
theorem IN {ds:List D}(h:TW fx sm (.tup ds)):∀ d ∈ ds,d≠.non:=by
 intro d hd z
 subst z
 cases ds with
 | nil=>cases hd
 | cons a r =>
  cases a with
  | str n =>
   unfold TW at h
   obtain e | hd:=List.mem_cons.mp hd
   ·cases e
   ·have:=gB.mp h.2 _ hd
    unfold TW at this
    exact this
  | _=>unfold TW at h;exact h
theorem HQ {row:List D}{ps:List D}{n:Str}(e:row = .str n :: ps){q:List D}(h:TW fx sm (.tup (row ++ q))):TWs fx sm q:=by
 subst e
 rw [show (D.str n :: ps) ++ q = .str n :: (ps ++ q) from rfl] at h
 unfold TW at h
 exact gB.mpr fun d hd=>gB.mp h.2 d (List.mem_append_right _ hd)
mutual
theorem tJ:∀ {i e:Nat} {d:D},hX w i d e->TW fx sm d->w.drop i=wrL d ++ w.drop e
 | i,_,_,.word _,_=>by rw [iH];simpa using lR w i
 | i,e,d,.open_ (e:=_) h r,t=>by
  obtain ⟨ps,ed,ne,hw⟩:=CD r ⟨_,_,rfl⟩ t
  subst ed
  rw [lR w i,pC h,hw]
  show _=wrL (.tup (.str ⟨(wd w i).toArray⟩ :: ps)) ++ _
  rw [wrL]
  simp
theorem CD:∀ {row:List D} {i e:Nat} {d:D},Row w row i d e->LA row->TW fx sm d->∃ ps,d = .tup (row ++ ps)/\ps≠[]/\w.drop (i + 1)=wrJ ps ++ w.drop e
 | row,i,j,d,.more (p:=p) (e:=e) a c r,⟨n,qs,er⟩,t=>by
  obtain ⟨ps,ed,ne,hw⟩:=CD r ⟨n,qs ++ [p],by rw [er];rfl⟩ t
  subst ed
  have tp:TW fx sm p:=by
   rw [List.append_assoc] at t
   exact gB.mp (HQ er t) p (by simp)
  refine ⟨p :: ps,by rw [List.append_assoc];rfl,by simp,?_⟩
  rw [tJ a tp,pC c,hw]
  cases ps with
  | nil=>exact absurd rfl ne
  | cons q r=>rw [wrJ];simp
 | row,i,_,_,.last (p:=p) (e:=e) a c,⟨n,qs,er⟩,t=>by
  refine ⟨[p],rfl,by simp,?_⟩
  have tp:TW fx sm p:=gB.mp (HQ er t) p (by simp)
  rw [tJ a tp,pC c,wrJ]
  simp
 | row,i,_,_,.bad (p:=p) _ _ _,_,t=>by
  exact absurd rfl (IN t .non (by simp))
end
theorem FY {d:D}{e:Nat}(h:hX w 0 d e)(he:e=w.length)(t:TW fx sm d):wrL d=w:=by
 have:=tJ h t
 rw [he,List.drop_length,List.append_nil,List.drop_zero] at this
 exact this.symm
theorem yY {x:Str}(h:iA x):∀ c ∈ x.cps.toList,isCh c=true:=fun c hc=>by
 have:=h.2.2 c hc
 unfold isCh
 simp [this.1,this.2]
theorem E7 {x:Str}(h:cC x):∀ c ∈ x.cps.toList,isCh c=true:=fun c hc=>by
 obtain ⟨l,rfl,h1,h2,h3⟩:=h
 simp only [List.mem_cons] at hc
 unfold isCh
 rcases hc with rfl | hc
 ·decide
 ·have:=h3 c hc
  unfold isWd at this
  simp only [Bool.or_eq_true,decide_eq_true_eq]
  omega
theorem zB (so:bC fx sm){x:Str}(h:cC x∨x ∈ zeros fx):Pl x/\∀ c ∈ x.cps.toList,isCh c=true:=by
 rcases h with h | h
 ·exact ⟨yB h,E7 h⟩
 ·have n:=so.nm x (List.mem_append_left _ ((fT fx).subset h))
  exact ⟨pB n,yY n⟩
theorem HZ (so:bC fx sm){n:Str}{k:Nat}(h:n8 fx sm n k):Pl n/\∀ c ∈ n.cps.toList,isCh c=true:=by
 have nm:iA n:=by
  refine so.nm n ?_
  rcases h with ⟨_,h⟩ | ⟨_,h⟩
  ·exact List.mem_append_left _ (List.mem_map.mpr ⟨_,h,rfl⟩)
  ·exact List.mem_append_right _ h
 exact ⟨pB nm,yY nm⟩
theorem u7 {n:Str}{ds:List D}(h:n8 fx sm n ds.length):ds≠[]:=fun z=>by have:=vH h;rw [z] at this;exact absurd this (by simp)
mutual
theorem wY (so:bC fx sm)(st:List (List D)):∀ {d:D},TW fx sm d->prs (wrL d) (st,.str ⟨#[]⟩)=some (st,d)
 | .str x,h=>by unfold TW at h;rw [iH,yO st x (zB so h).1]
 | .tup (.str n :: ds),h=>by
  unfold TW at h
  rw [wrL,jK,yO st n (HZ so h.1).1]
  show prs (wrJ ds) ([.str n] :: st,.str ⟨#[]⟩)=_
  rw [yN so st h.2 (u7 h.1) [.str n]]
  rfl
 | .non,h | .bl _,h | .int _,h | .tup [],h | .lst _,h | .tup (.non :: _),h | .tup (.bl _ :: _),h | .tup (.int _ :: _),h | .tup (.tup _ :: _),h | .tup (.lst _ :: _),h=>by unfold TW at h;exact absurd h id
theorem yN (so:bC fx sm)(st:List (List D)):∀ {ds:List D},TWs fx sm ds->ds≠[]->∀ t:List D,prs (wrJ ds) (t :: st,.str ⟨#[]⟩)=some (st,.tup (t ++ ds))
 | [],_,h=>absurd rfl h
 | [d],h,_=>fun t=>by
  rw [wrJ,jK,wY so _ h.1]
  rfl
 | d :: e :: r,h,_=>fun t=>by
  rw [wrJ,jK,wY so _ h.1]
  show prs (wrJ (e :: r)) ((t ++ [d]) :: st,.str ⟨#[]⟩)=_
  rw [yN so st h.2 (by simp)]
  simp
end
theorem HN {i:Nat}{a r:List Nat}(h:w.drop i=a ++ r)(ha:∀ c ∈ a,isCh c=true)(hr:∀ c,r.head?=some c->isCh c=false):wd w i=a:=by
 unfold wd
 rw [h,List.takeWhile_append_of_pos ha]
 cases r with
 | nil=>simp
 | cons c r=>rw [List.takeWhile_cons_of_neg (by rw [hr c rfl];decide),List.append_nil]
theorem zP {i:Nat}{a r:List Nat}(h:w.drop i=a ++ r):w[i + a.length]?=r.head?:=by
 rw [← List.getElem?_drop,h,List.getElem?_append_right (Nat.le_refl _),Nat.sub_self,List.head?_eq_getElem?]
theorem zJ {i:Nat}{a r:List Nat}(h:w.drop i=a ++ r):w.drop (i + a.length)=r:=by rw [← List.drop_drop,h,List.drop_left]
mutual
theorem oZ (so:bC fx sm):∀ {d:D},TW fx sm d->∀ {i:Nat} {r:List Nat},w.drop i=wrL d ++ r->(∀ c,r.head?=some c->isCh c=false/\c≠40)->hX w i d (i + (wrL d).length)
 | .str x,h,i,r,e,hr=>by
  unfold TW at h
  rw [iH] at e ⊢
  have ew:=HN e (zB so h).2 fun c hc=>(hr c hc).1
  have ea:=zP e
  have p:hX w i (.str ⟨(wd w i).toArray⟩) (i + (wd w i).length):=.word (by rw [ew,ea];exact fun z=>(hr 40 z).2 rfl)
  rw [ew] at p
  simpa using p
 | .tup (.str n :: ds),h,i,r,e,hr=>by
  unfold TW at h
  rw [wrL] at e ⊢
  have e1:w.drop i=n.cps.toList ++ (40 :: (wrJ ds ++ r)):=by rw [e];simp
  have ew:=HN e1 (HZ so h.1).2 fun c hc=>by cases hc;decide
  have ea:=zP e1
  have ed:w.drop (i + n.cps.toList.length + 1)=wrJ ds ++ r:=by
   have:=zJ e1
   rw [← List.drop_drop,this];rfl
  have q:=CF so h.2 (u7 h.1) (row:=[.str n]) (i:=i + n.cps.toList.length) ed
  have p:hX w i (.tup (.str n :: ds)) (i + n.cps.toList.length + 1 + (wrJ ds).length):=by
   refine .open_ ?_ ?_
   ·rw [ew];exact ea
   ·rw [ew];simpa using q
  have en:i + (n.cps.toList ++ 40 :: wrJ ds).length=i + n.cps.toList.length + 1 + (wrJ ds).length:=by simp;omega
  rw [en]
  exact p
 | .non,h,_,_,_,_ | .bl _,h,_,_,_,_ | .int _,h,_,_,_,_ | .tup [],h,_,_,_,_ | .lst _,h,_,_,_,_ | .tup (.non :: _),h,_,_,_,_ | .tup (.bl _ :: _),h,_,_,_,_ | .tup (.int _ :: _),h,_,_,_,_ | .tup (.tup _ :: _),h,_,_,_,_ | .tup (.lst _ :: _),h,_,_,_,_=>by unfold TW at h;exact absurd h id
theorem CF (so:bC fx sm):∀ {ds:List D},TWs fx sm ds->ds≠[]->∀ {row:List D} {i:Nat} {r:List Nat},w.drop (i + 1)=wrJ ds ++ r->Row w row i (.tup (row ++ ds)) (i + 1 + (wrJ ds).length)
 | [],_,h,_,_,_,_=>absurd rfl h
 | [d],h,_,row,i,r,e=>by
  rw [wrJ] at e ⊢
  have e1:w.drop (i + 1)=wrL d ++ (41 :: r):=by rw [e];simp
  have p:=oZ so h.1 e1 fun c hc=>by cases hc;decide
  have q:Row w row i _ _:=.last p (zP e1)
  have en:i + 1 + (wrL d ++ [41]).length=i + 1 + (wrL d).length + 1:=by simp;omega
  rw [en]
  exact q
 | d :: f :: l,h,_,row,i,r,e=>by
  rw [wrJ] at e ⊢
  have e1:w.drop (i + 1)=wrL d ++ (44 :: (wrJ (f :: l) ++ r)):=by rw [e];simp
  have p:=oZ so h.1 e1 fun c hc=>by cases hc;decide
  have ed:w.drop (i + 1 + (wrL d).length + 1)=wrJ (f :: l) ++ r:=by
   have:=zJ e1
   rw [← List.drop_drop,this];rfl
  have q:=CF so h.2 (by simp) (row:=row ++ [d]) (i:=i + 1 + (wrL d).length) ed
  have en:i + 1 + (wrL d ++ 44 :: wrJ (f :: l)).length=i + 1 + (wrL d).length + 1 + (wrJ (f :: l)).length:=by simp;omega
  rw [en,show row ++ d :: f :: l=row ++ [d] ++ (f :: l) by simp]
  exact .more p (zP e1) q
end
mutual
theorem dZ:∀ {i e e':Nat} {d d':D},hX w i d e->hX w i d' e'->d=d'/\e=e'
 | _,_,_,_,_,.word _,.word _=>⟨rfl,rfl⟩
 | _,_,_,_,_,.word h,.open_ k _=>absurd k h
 | _,_,_,_,_,.open_ h _,.word k=>absurd h k
 | _,_,_,_,_,.open_ _ r,.open_ _ q=>yJ r q
theorem yJ:∀ {row:List D} {i e e':Nat} {d d':D},Row w row i d e->Row w row i d' e'->d=d'/\e=e'
 | _,_,_,_,_,_,.more a h r,.more b k q=>by obtain ⟨rfl,rfl⟩:=dZ a b;exact yJ r q
 | _,_,_,_,_,_,.more a h _,.last b k=>by obtain ⟨rfl,rfl⟩:=dZ a b;rw [h] at k;cases k
 | _,_,_,_,_,_,.more a h _,.bad b k _=>by obtain ⟨rfl,rfl⟩:=dZ a b;exact absurd h k
 | _,_,_,_,_,_,.last a h,.more b k _=>by obtain ⟨rfl,rfl⟩:=dZ a b;rw [h] at k;cases k
 | _,_,_,_,_,_,.last a _,.last b _=>by obtain ⟨rfl,rfl⟩:=dZ a b;exact ⟨rfl,rfl⟩
 | _,_,_,_,_,_,.last a h,.bad b _ k=>by obtain ⟨rfl,rfl⟩:=dZ a b;exact absurd h k
 | _,_,_,_,_,_,.bad a h _,.more b k _=>by obtain ⟨rfl,rfl⟩:=dZ a b;exact absurd k h
 | _,_,_,_,_,_,.bad a _ h,.last b k=>by obtain ⟨rfl,rfl⟩:=dZ a b;exact absurd k h
 | _,_,_,_,_,_,.bad a _ _,.bad b _ _=>by obtain ⟨rfl,rfl⟩:=dZ a b;exact ⟨rfl,rfl⟩
end
theorem BH (so:bC fx sm){d:D}{e:Nat}(h:hX w 0 d e):(e=w.length/\TW fx sm d->prs w ([],.str ⟨#[]⟩)=some ([],d))/\∀ d',prs w ([],.str ⟨#[]⟩)=some ([],d')->TW fx sm d'->e=w.length/\d=d':=by
 refine ⟨fun ⟨he,t⟩=>?_,fun d' hp t=>?_⟩
 ·have:=wY so [] t
  rw [FY h he t] at this
  exact this
 ·have ew:=wZ hp
  have p:=oZ (w:=w) so t (i:=0) (r:=[]) (by rw [List.drop_zero,ew,List.append_nil]) (fun c hc=>by cases hc)
  rw [ew,Nat.zero_add] at p
  obtain ⟨e1,e2⟩:=dZ h p
  exact ⟨e2,e1⟩
end
section
variable {P:Program}{w:World}{K:PySem.W.Frag}{mg:eJ}{base:Heap}
theorem BT {c:Nat}(h:c < 128):inTx "abcdefghijklmnopqrstuvwxyz0123456789" c=decide ((97<=c/\c<=122)∨(48<=c/\c<=57)):=by
 have:∀ c:Fin 128,inTx "abcdefghijklmnopqrstuvwxyz0123456789" c.1=decide ((97<=c.1/\c.1<=122)∨(48<=c.1/\c.1<=57)):=by decide +kernel
 exact this ⟨c,h⟩
noncomputable def mY (x:Str):Prop:=x.cps.all (· < 128)=true/\x.cps.size<=20000
theorem mY.low {x:Str}(h:mY x){c:Nat}(hc:c ∈ x.cps.toList):c < 128:=by
 have:=h.1
 rw [← Array.all_toList] at this
 exact of_decide_eq_true (List.all_eq_true.mp this c hc)
theorem mY.fits {x:Str}(h:mY x):x.length<=sizeLine:=Nat.le_trans h.2 (by decide)
theorem pE {x:Str}(h:cC x):2<=x.length/\x.length<=9:=by
 obtain ⟨l,rfl,h1,h2,_⟩:=h
 show 2<=(63 :: l).toArray.size/\(63 :: l).toArray.size<=9
 rw [List.size_toArray,List.length_cons]
 omega
theorem uK {x:Str}{c:Nat}{r:List Nat}(e:x.cps.toList=c :: r)(h2:2<=x.length)(h9:x.length<=9):cC x ↔ c=63/\∀ a ∈ r,isWd a:=by
 have el:x.length=r.length + 1:=by show x.cps.size=_;rw [← Array.length_toList,e,List.length_cons]
 constructor
 ·rintro ⟨l,rfl,_,_,h3⟩
  rw [List.toList_toArray] at e
  cases e
  exact ⟨rfl,h3⟩
 ·rintro ⟨rfl,h⟩
  exact ⟨r,Str.ext' (Array.toList_inj.mp (by rw [e,List.toList_toArray])),by omega,by omega,h⟩
noncomputable def sP:Sp:=fun vs H Q _=>∃ x:Str,vs=[.str x]/\mY x/\∀ H',aJ H H'->(cC x->Q (.bl true) H')/\(¬ cC x->Q (.bl false) H')
theorem DF {f:Addr}{fd:FuncData}(F:gN K "is_wish" "is_wish" fA f fd)(T:Txt mg):cF P w K mg base bP 1 f fd nX sP:=by
 refine F.ok wU (fun vs H Q E h=>?_) (fun cdv A outer s H vs Q E hr h=>?_)
 ·obtain ⟨x,rfl,_⟩:=h
  rfl
 ·obtain ⟨x,rfl,hx,q⟩:=h
  have hu:=hr.units
  refine ⟨_,(aC (bU (PW.pt (iK (cW (aU K rfl (aK aL rfl T.n_isinstance rfl (aA (pv 0) (aA (bX (v:=V.ty "str") rfl T.n_str rfl rfl) aB))) (fun _=>rfl))) (g9 (cW (j8 mF mF aF (aK bH rfl T.n_len rfl (aA (pv 0) aB)) (cK T.c_LONGEST_WISH rfl)))))) (aH (aR kA)) aX)
   (aH (aR (tH (eN (eI hu) (bM dF (pv 0) aF (fun _ _=>rfl)) bA (nomark _)) (nM (aK (gW rfl) rfl T.n_all rfl (aA (eM rfl (bG.by (N:=n5) (names:=(aD fA).names) (N':=["sign"]) (src:=[none]) (by decide +kernel) rfl rfl) (tG (bT IZ (pv 0) (bK aF) cX)) (fun _ _ _ _=>(bN (i:=0) (show List.Nodup (["sign"]:aW) by decide +kernel) rfl (Or.inl rfl))) (fun _ _ _ _=>eD) (fun _ _ _ _=>(eN gU (pv 0) (cK T.c_WISH_SIGNS rfl) (by with_unfolding_all rfl)))) aB))))))),?_⟩
  simp only [n5]
  clear hr F T hu
  have keep:=aI q hx
  clear q hx
  walk_at "rd"
  obtain ⟨q,hx⟩:=keep
  have hz:=hx.fits
  refine ⟨true,rfl,?_⟩
  rw [if_neg (by decide)]
  refine ⟨.int x.length,by rw [jA hz];rfl,_,rfl,?_⟩
  by_cases h2:(2:Int)<=x.length
  ·rw [if_pos h2]
   refine ⟨_,rfl,?_⟩
   by_cases h9:(x.length:Int)<=9
   ·rw [if_neg (by omega)]
    cases hc:x.cps.toList with
    | nil =>
     have:x.length=0:=by show x.cps.size=0;rw [← Array.length_toList,hc];rfl
     omega
    | cons c r =>
     have iff:=uK hc (by omega) (by omega)
     refine ⟨.str ⟨#[c]⟩,by rw [zF hz,hc,atI_zero];rfl,?_⟩
     rw [rEqD_ss]
     refine ⟨_,rfl,?_⟩
     by_cases c63:c=63
     ·subst c63
      have e63:decide ((⟨#[63]⟩:Str)=Str.ofString "?")=true:=by decide +kernel
      rw [if_pos e63]
      have et:tl1 x=⟨r.toArray⟩:=by unfold tl1;rw [hc];rfl
      have hr:r.length<=8:=by
       have:x.length=r.length + 1:=by show x.cps.size=_;rw [← Array.length_toList,hc,List.length_cons]
       omega
      have low:∀ a ∈ r,a < 128:=fun a ha=>hx.low (by rw [hc];exact List.mem_cons_of_mem _ ha)
      refine ⟨_,rfl,1,rfl,x,rfl,rfl,rfl,by omega,hz,tl1 x,rfl,?_,?_⟩
      ·rw [et]
       simp only [List.all_toArray,List.all_eq_true,decide_eq_true_eq]
       exact low
      ·rw [et]
       refine nW (fun i acc σ H'=>H'=H/\acc=(r.take i).map (fun a=>V.bl (inTx "abcdefghijklmnopqrstuvwxyz0123456789" a))/\∃ o:Option V,σ=[o]) ⟨rfl,rfl,none,rfl⟩ ?_ ?_
       ·rintro i a acc σ H' ha ⟨rfl,rfl,o,rfl⟩
        have ha':r[i]?=some a:=by simpa using ha
        refine ⟨_,rfl,_,rfl,_,rfl,?_⟩
        dsimp only
        refine ⟨Nat.lt_of_le_of_lt (m:=100) (by simp;omega) (by decide),rfl,?_,_,rfl⟩
        rw [bO ha',List.map_append]
        rfl
       ·rintro acc σ H' ⟨rfl,rfl,o,rfl⟩ p hp
        have es:(Str.mk r.toArray).cps.size=r.length:=by show r.toArray.size=_;rw [List.size_toArray]
        rw [es,List.take_length]
        refine ⟨p,rfl,r.map (inTx "abcdefghijklmnopqrstuvwxyz0123456789"),by rw [upd_same,List.map_map];rfl,?_⟩
        by_cases all:∀ a ∈ r,isWd a
        ·have:(r.map (inTx "abcdefghijklmnopqrstuvwxyz0123456789")).all id=true:=by
          rw [List.all_map,List.all_eq_true]
          exact fun a ha=>K2 (all a ha)
         rw [this]
         exact (q _ (aJ.upd hp)).1 (iff.mpr ⟨rfl,all⟩)
        ·have:(r.map (inTx "abcdefghijklmnopqrstuvwxyz0123456789")).all id=false:=by
          rw [Bool.eq_false_iff]
          intro z
          rw [List.all_map,List.all_eq_true] at z
          refine all fun a ha=>?_
          have h1:=z a ha
          have h2:inTx "abcdefghijklmnopqrstuvwxyz0123456789" a=true:=h1
          rw [BT (low a ha)] at h2
          unfold isWd
          exact of_decide_eq_true h2
         rw [this]
         exact (q _ (aJ.upd hp)).2 fun z=>all (iff.mp z).2
     ·rw [if_neg]
      ·exact (q _ (aJ.refl _)).2 fun z=>c63 (iff.mp z).1
      ·intro z
       have:=of_decide_eq_true z
       have e:(⟨#[c]⟩:Str).cps=(Str.ofString "?").cps:=by rw [this]
       have e2:(Str.ofString "?").cps = #[63]:=by decide +kernel
       rw [e2] at e
       exact c63 (by simpa using e)
   ·rw [if_pos (by omega)]
    exact (q _ (aJ.refl _)).2 fun z=>h9 (by have:=(pE z).2;omega)
  ·rw [if_neg h2]
   exact (q _ (aJ.refl _)).2 fun z=>h2 (by have:=(pE z).1;omega)
end
section
variable {P:Program}{w:World}{K:PySem.W.Frag}{mg:eJ}{base:Heap}
mutual
noncomputable def Ud:D->Prop
 | .str x=>mY x
 | .tup (.str n :: ds)=>(mY n/\ds≠[])/\Uds ds
 | _=>False
noncomputable def Uds:List D->Prop
 | []=>True
 | d :: ds=>Ud d/\Uds ds
end
theorem yE:∀ {ds:List D},Uds ds ↔ ∀ d ∈ ds,Ud d
 | []=>by simp [Uds]
 | d :: ds=>by rw [Uds,yE (ds:=ds)];simp
theorem B1 {d:D}(h:Ud d):(∃ x:Str,d = .str x/\mY x)∨∃ n ds,d = .tup (.str n :: ds)/\(mY n/\ds≠[])/\Uds ds:=by
 unfold Ud at h
 split at h
 ·exact .inl ⟨_,rfl,h⟩
 ·exact .inr ⟨_,_,rfl,h⟩
 ·exact absurd h id
noncomputable def KZ (fx:cL)(sm:cQ):D->Prop
 | .str x=>cC x∨x ∈ zeros fx
 | .tup (.str n :: ds)=>n8 fx sm n ds.length
 | _=>False
theorem iX {fx:cL}{sm:cQ}(so:bC fx sm){x:Str}:x ∈ zeros fx ↔ mulO fx x=some 0:=by
 constructor
 ·intro h
  unfold zeros at h
  obtain ⟨r,h1,rfl⟩:=List.mem_map.mp h
  obtain ⟨h2,h3⟩:=List.mem_filter.mp h1
  have e:r.2=0:=by simpa using h3
  exact mI so (by rw [← e];exact h2)
 ·intro h
  unfold mulO at h
  cases e:fx.find? (fun r=>decide (r.1=x)) with
  | none=>rw [e] at h;cases h
  | some r =>
   rw [e] at h
   have e2:r.2=0:=by simpa using h
   have e1:=List.find?_some e
   unfold zeros
   exact List.mem_map.mpr ⟨r,List.mem_filter.mpr ⟨List.mem_of_find?_eq_some e,by simpa using e2⟩,of_decide_eq_true e1⟩
theorem yZ {fx:cL}{x:Str}{k:Int}(h:mulO fx x=some k):(x,k) ∈ fx:=by
 unfold mulO at h
 cases e:fx.find? (fun r=>decide (r.1=x)) with
 | none=>rw [e] at h;cases h
 | some r =>
  rw [e] at h
  have e2:r.2=k:=by simpa using h
  have e0:=List.find?_some e
  have e1:r.1=x:=of_decide_eq_true e0
  have:=List.mem_of_find?_eq_some e
  rw [← e1,← e2]
  exact this
noncomputable def pM (K:PySem.W.Frag)(C:Addr):Sp:=fun vs H Q _=>∃ (g:Addr) (fx:cL) (sm:cQ) (d:D) (v:V),vs=[.ref g,v]/\oV K C fx sm H g/\bC fx sm/\cD H d v/\(Ud d∨d = .non)/\∀ H',aJ H H'->(KZ fx sm d->Q (.bl true) H')/\(¬ KZ fx sm d->Q (.bl false) H')
theorem AO {f C:Addr}{fd:FuncData}(F:gN K "is_built" "is_built" eU f fd)(T:Txt mg)(O_is_wish:dQ P w K mg base bP 1 "is_wish" sP)(M_many:ET P w K mg base bP 1 C "many" (wO K C))(M_nought:ET P w K mg base bP 1 C "nought" (pJ K C)):cF P w K mg base bP 2 f fd lM (pM K C):=by
 refine F.ok uQ (fun vs H Q E h=>?_) (fun cdv A outer s H vs Q E hr h=>?_)
 ·obtain ⟨g,fx,sm,d,v,rfl,_⟩:=h
  rfl
 ·obtain ⟨g,fx,sm,d,v,rfl,sg,so,rep,ud,q⟩:=h
  have hu:=hr.units
  refine ⟨_,(aC (bU (aU K rfl (aK aL rfl T.n_isinstance rfl (aA (pv 1) (aA (bX (v:=V.ty "str") rfl T.n_str rfl rfl) aB))) (fun _=>rfl)) (aH (aR (HW (aO O_is_wish (hr.mono (by decide)) pass0 rfl (aA (pv 1) aB)) (nM (eN (eI hu) (w5 M_many (hr.mono (by decide)) pass0 (pv 0) (aA (pv 1) aB)) aF (nomark _)))))) aX)
   (aC (bU (PW.pt (iK (cW (aU K rfl (aK aL rfl T.n_isinstance rfl (aA (pv 1) (aA (eB (aA (bX (v:=V.ty "list") rfl T.n_list rfl rfl) (aA (bX (v:=V.ty "tuple") rfl T.n_tuple rfl rfl) aB))) aB))) (fun _=>rfl))) (g9 (aS (jM hu) (aK bH rfl T.n_len rfl (aA (pv 1) aB)) aF (nomark _))))) (aH (aR kA)) aX)
   (aC (bU (aS FZ (w5 M_nought (hr.mono (by decide)) pass0 (pv 0) (aA (bM dF (pv 1) aF (fun _ _=>rfl)) aB)) jL (nomark _)) (aH (aR (eN HX (aK bH rfl T.n_len rfl (aA (pv 1) aB)) aF (nomark _)))) aX)
   (aH (aR (eN (eI hu) (w5 M_many (hr.mono (by decide)) pass0 (pv 0) (aA (bM dF (pv 1) aF (fun _ _=>rfl)) aB)) (bB lG (aK bH rfl T.n_len rfl (aA (pv 1) aB)) aF) (nomark _))))))),?_⟩
  simp only [qJ]
  clear hr F T hu O_is_wish M_many M_nought
  have keep:=aI q (aI sg (aI so (aI rep ud)))
  clear q sg so rep ud
  walk_at "rd"
  obtain ⟨q,sg,so,rep,ud⟩:=keep
  obtain ⟨dx,fs,_,_,h1,h2,h3,_⟩:=sg.ex
  rcases ud with ud | rfl
  ·rcases B1 ud with ⟨x,rfl,hx⟩ | ⟨n,ds,rfl,⟨hn,ne⟩,uds⟩
   ·cases (show v = .str x from rep)
    refine ⟨true,rfl,?_⟩
    rw [if_pos rfl]
    refine ⟨x,rfl,hx,fun H' s'=>⟨fun hw=>⟨true,rfl,?_⟩,fun hw=>⟨false,rfl,?_⟩⟩⟩
    ·rw [if_pos rfl]
     exact (q _ s').1 (.inl hw)
    ·rw [if_neg (by decide)]
     refine ⟨_,rfl,g,dx,fs,rfl,s' _ _ h1,h2,_,rfl,g,x,fx,sm,rfl,sg.same s',?_⟩
     show rEqD (mulV fx x) _ _ _
     unfold mulV
     cases hm:mulO fx x with
     | none =>
      refine ⟨.non,.int 0,rfl,rfl,by decide,?_⟩
      exact (q _ s').2 fun z=>z.elim hw fun z=>by rw [(iX so).mp z] at hm;cases hm
     | some k =>
      show rEqD (.int k) _ _ _
      rw [rEqD_ii]
      by_cases k0:k=0
      ·rw [decide_eq_true k0]
       exact (q _ s').1 (.inr ((iX so).mpr (by rw [hm,k0])))
      ·rw [decide_eq_false k0]
       exact (q _ s').2 fun z=>z.elim hw fun z=>k0 (by rw [(iX so).mp z] at hm;cases hm;rfl)
   ·obtain ⟨va,_,rfl,ha,_,vs',rfl,e1,res⟩:=rep
    cases e1
    have hlen:=Reps.len res
    have pos:1<=ds.length:=by cases ds with | nil=>exact absurd rfl ne | cons a b=>simp
    refine ⟨false,p6 ha,?_⟩
    rw [if_neg (by decide)]
    refine ⟨by decide,fun p hp=>?_⟩
    have s1:aJ H (upd H p (.tup [.ty "list",.ty "tuple"])):=aJ.upd hp
    have hp1:upd H p (.tup [.ty "list",.ty "tuple"]) p=some (.tup [.ty "list",.ty "tuple"]):=upd_same
    generalize upd H p (.tup [.ty "list",.ty "tuple"])=H1 at s1 hp1 ⊢
    have ha1:=s1 _ _ ha
    have ix0:ixV H1 (.ref va) (.int 0)=some (.str n):=by rw [ixV_t ha1,atI_zero]
    have ln:lenV H1 (.ref va)=some (vs'.length + 1):=by rw [lenV_t ha1];rfl
    refine ⟨true,xM ha1 hp1,?_⟩
    rw [if_neg (by decide)]
    refine ⟨_,by rw [ln];rfl,_,rfl,?_⟩
    rw [if_neg (by omega)]
    refine ⟨_,rfl,g,dx,fs,rfl,s1 _ _ h1,h3,_,rfl,.str n,ix0,g,n,fx,sm,rfl,sg.same s1,?_⟩
    by_cases hin:n ∈ sm.map (·.1)
    ·obtain ⟨z,hz⟩:=E5 hin
     have e0:nulV sm n = .str z:=by unfold nulV;rw [hz];rfl
     have nfx:∀ k,(n,k) ∉ fx:=fun k hk=>(List.nodup_append.mp so.nd).2.2 n (List.mem_map_of_mem (f:=(·.1)) hk) n hin rfl
     rw [e0]
     refine ⟨true,rfl,?_⟩
     rw [if_pos rfl]
     refine ⟨_,by rw [ln];rfl,_,rfl,?_⟩
     by_cases two:2<=ds.length
     ·rw [decide_eq_true (p:=_) (by omega)]
      exact (q _ s1).1 (.inr ⟨two,hin⟩)
     ·rw [decide_eq_false (p:=_) (by omega)]
      exact (q _ s1).2 fun z=>by
       rcases z with ⟨_,z⟩ | ⟨z,_⟩
       ·exact nfx _ z
       ·exact two z
    ·have e0:nulV sm n = .non:=by unfold nulV;rw [E6 hin];rfl
     rw [e0]
     refine ⟨false,rfl,?_⟩
     rw [if_neg (by decide)]
     refine ⟨_,rfl,g,dx,fs,rfl,s1 _ _ h1,h2,_,rfl,.str n,ix0,g,n,fx,sm,rfl,sg.same s1,?_⟩
     refine ⟨_,by rw [ln];rfl,_,rfl,?_⟩
     unfold mulV
     cases hm:mulO fx n with
     | none =>
      refine ⟨.non,.int _,rfl,rfl,Nat.zero_le _,?_⟩
      exact (q _ s1).2 fun z=>by
       rcases z with ⟨_,z⟩ | ⟨_,z⟩
       ·rw [mI so z] at hm;cases hm
       ·exact hin z
     | some k =>
      show rEqD (.int k) _ _ _
      rw [rEqD_ii]
      by_cases kk:k=(ds.length:Int)
      ·rw [decide_eq_true (by omega)]
       exact (q _ s1).1 (.inl ⟨by omega,by rw [← kk];exact yZ hm⟩)
      ·rw [decide_eq_false (by omega)]
       exact (q _ s1).2 fun z=>by
        rcases z with ⟨_,z⟩ | ⟨_,z⟩
        ·rw [mI so z] at hm;cases hm;exact kk rfl
        ·exact hin z
  ·cases (show v = .non from rep)
   refine ⟨false,rfl,?_⟩
   rw [if_neg (by decide)]
   refine ⟨by decide,fun p hp=>⟨false,?_,?_⟩⟩
   ·unfold isV tyN clsV
    simp only [upd_same]
    rfl
   ·rw [if_pos rfl]
    exact (q _ (aJ.upd hp)).2 id
end
section
variable {P:Program}{w:World}{K:PySem.W.Frag}{mg:eJ}{base:Heap}
theorem IQ {fx:cL}{sm:cQ}{d:D}(h:TW fx sm d):KZ fx sm d:=by
 unfold TW at h
 unfold KZ
 split at h
 ·exact h
 ·exact h.1
 ·exact absurd h id
theorem IO {fx:cL}{sm:cQ}{x:Str}(h:KZ fx sm (.str x)):TW fx sm (.str x):=by unfold TW;exact h
theorem B5 {fx:cL}{sm:cQ}{n:Str}{ds:List D}(h:KZ fx sm (.tup (.str n :: ds))):TW fx sm (.tup (.str n :: ds)) ↔ ∀ d ∈ ds,TW fx sm d:=by
 constructor
 ·intro z
  unfold TW at z
  exact gB.mp z.2
 ·intro z
  unfold TW
  exact ⟨h,gB.mpr z⟩
noncomputable def MM (g t:Addr)(v:V)(fx:cL)(sm:cQ)(d:D)(H:Hp)(n:Nat)(σ:St)(H2:Hp):Prop:=∃ (ps:List (D×Nat)) (vs:List V) (o3 o4:Option V),σ=[some (.ref g),some v,some (.ref t),o3,o4]/\H2 t=some (.lst vs)/\aJ H (del H2 t) /\
 Reps (del H2 t) (ps.map tp) vs/\(∀ r ∈ ps,(Ud r.1∨r.1 = .non)/\r.2 + depD r.1<=900)/\(TW fx sm d ↔ ∀ r ∈ ps,TW fx sm r.1)/\ndss (ps.map (·.1))=n/\n<=20000
noncomputable def pL (K:PySem.W.Frag)(C CT:Addr):Sp:=fun vs H Q E=>∃ (g:Addr) (fx:cL) (sm:cQ) (d:D) (v:V),vs=[.ref g,v]/\oV K C fx sm H g/\bC fx sm/\cD H d v/\(Ud d∨d = .non)/\depD d<=900/\nds d<=20000/\∀ H',aJ H H'->(TW fx sm d->Q .non H')/\(¬ TW fx sm d->E (.ref CT) none H')
theorem AN {f C CT:Addr}{fd:FuncData}(F:gN K "check_term" "check_term" c0 f fd)(T:Txt mg)(hm_NoTerm:mg "NoTerm" = some (.ref CT))(hx_NoTerm:oN K CT)(O_is_built:dQ P w K mg base bP 2 "is_built" (pM K C)):cF P w K mg base (yA P w) 3 f fd jQ (pL K C CT):=by
 refine F.okE gC (fun vs H Q E h=>?_) (fun cdv A outer s H vs Q E hr h=>?_)
 ·obtain ⟨g,fx,sm,d,v,rfl,_⟩:=h
  rfl
 ·obtain ⟨g,fx,sm,d,v,rfl,sg,so,rep,ud,d900,n20,q⟩:=h
  have hu:=hr.units
  refine ⟨_,(aC (aP (i:=2) gC.nd rfl (Or.inl rfl) (cJ (aA (eB (aA (pv 1) (aA aF aB))) aB)))
   (aH (lZ PassesOwn.leaving (aU K rfl (pv 2) (fun _=>rfl)) (aC (nK (CY PySem.F.plainAttrs_list PySem.F.slot_list_pop PySem.F.type_list_pop DV (pv 2)) (CQ rfl (mB (bN (i:=3) gC.nd rfl (Or.inl rfl)) (mB (bN (i:=4) gC.nd rfl (Or.inr rfl)) yP))))
   (aC (bU (PW.pt (iK (aS uZ (pv 4) (cK T.c_DEEPEST rfl) (nomark _)) (g9 (cW (aU K rfl (aO O_is_built (hr.mono (by decide)) pass0 rfl (aA (pv 0) (aA (pv 3) aB))) (fun _=>rfl)))))) (aH (pQ rfl nA rfl hm_NoTerm hx_NoTerm (aA bA aB))) aX)
   (aH (bU (cW (aU K rfl (aK aL rfl T.n_isinstance rfl (aA (pv 3) (aA (bX (v:=V.ty "str") rfl T.n_str rfl rfl) aB))) (fun _=>rfl))) (aH (eL (j9 PySem.F.plainAttrs_list PySem.F.slot_list_extend PySem.F.type_list_extend GQ (pv 2) (aA (eM rfl (bG.by (N:=jX) (names:=(aD c0).names) (N':=["part","depth"]) (src:=[none,some 4]) (by decide +kernel) rfl rfl) (dM K rfl (AI FE (pv 3) cX (bK aF) (bK (HV BZ aF)))) (fun _ _ _ _=>(bN (i:=0) (show List.Nodup (["part","depth"]:aW) by decide +kernel) rfl (Or.inl rfl))) (fun _ _ _ _=>eD) (fun _ _ _ _=>(eB (aA (pv 0) (aA (bB aY (pv 1) aF) aB))))) aB)))) aX))))))),?_⟩
  simp only [jX]
  clear hr F T hu O_is_built hm_NoTerm hx_NoTerm
  have keep:=aI q (aI sg (aI so (aI rep (aI ud (aI d900 n20)))))
  clear q sg so rep ud d900 n20
  walk_at "rd"
  obtain ⟨q,sg,so,rep,ud,d900,n20⟩:=keep
  refine ⟨by decide,fun p hp=>⟨by decide,fun t ht=>?_⟩⟩
  have s1:aJ H (upd H p (.tup [v,.int 0])):=aJ.upd hp
  have hp1:upd H p (.tup [v,.int 0]) p=some (.tup [v,.int 0]):=upd_same
  generalize upd H p (.tup [v,.int 0])=H1 at s1 hp1 ht ⊢
  have ht0:H t=none:=s1.free ht
  have e1:del (upd H1 t (.lst [.ref p])) t=del H1 t:=mP
  have sd:aJ H (del H1 t):=J8 ht0 s1
  refine IJ (MM g t v fx sm d H) (nds d) ⟨[(d,0)],[.ref p],none,none,rfl,upd_same,by rw [e1];exact sd,?_,?_,by simp,by simp [ndss],n20⟩ ?_
  ·rw [e1]
   exact ⟨.ref p,[],rfl,⟨p,_,rfl,jB hp1 (aG hp1 ht),v,_,rfl,cD.same sd rep,.int 0,[],rfl,rfl,rfl⟩,rfl⟩
  ·intro r hr
   rw [List.mem_singleton.mp hr]
   exact ⟨ud,by simpa using d900⟩
  ·rintro n σ H2 ⟨ps,vs,o3,o4,rfl,h2,sH,reps,ok,iff,rfl,nle⟩ R hT hF
   rcases List.eq_nil_or_concat ps with rfl | ⟨ps',r,rfl⟩
   ·have:vs=[]:=reps
    subst this
    exact ⟨_,rfl,false,.inl ⟨[],fH.of h2,rfl⟩,hF H2 ((q _ (tZ sH)).1 (iff.mpr (by simp)))⟩
   ·rw [List.concat_eq_append] at reps ok nle hT iff
    rw [List.map_append,List.map_cons,List.map_nil] at reps nle hT
    obtain ⟨us,u,rfl,reps',ru⟩:=oC reps
    obtain ⟨a,_,rfl,ha,x,_,rfl,rx,_,_,rfl,e2,e3⟩:=ru
    cases e2
    cases (show _=[] from e3)
    obtain ⟨udr,dr⟩:=ok r (by simp)
    have keep:=aI q (aI sg (aI so (aI iff (aI sH (aI reps' (aI ok (aI nle (aI h2 (aI ha (aI rx (aI udr dr)))))))))))
    refine ⟨_,rfl,true,.inl ⟨_,fH.of h2,by simp⟩,hT H2 ?_⟩
    clear q sg so iff sH reps ok nle hT hF rep ud d900 n20 s1 hp1 ht ht0 e1 sd h2 reps' ha rx udr dr e3
    walk_at "rd"
    obtain ⟨q,sg,so,iff,sH,reps,ok,nle,h2,ha,rx,udr,dr⟩:=keep
    have hat:H2 a=some (.tup [x,.int r.2])/\a≠t:=gO ha
    refine ⟨tyL h2,.ref a,by simp,a,rfl,[x,.int r.2],iE.of (by rw [aE hat.2];exact hat.1),rfl,x,_,rfl,_,_,rfl,rfl,r.2,rfl,?_⟩
    rw [if_neg (by omega),List.dropLast_concat]
    have e3:del (upd H2 t (.lst us)) t=del H2 t:=mP
    have h3:upd H2 t (.lst us) t=some (.lst us):=upd_same
    rw [← e3] at sH reps rx
    generalize upd H2 t (.lst us)=H3 at e3 h3 sH reps rx ⊢
    have nl:us.length<=20000:=by
     have:=Reps.len reps
     rw [List.length_map] at this
     have h1:=kE (ps'.map (·.1))
     rw [List.length_map] at h1
     rw [fQ] at nle
     omega
    refine ⟨g,fx,sm,r.1,x,rfl,sg.same (tZ sH),so,cD.same (EJ _ _) rx,udr,fun H4 s4=>⟨fun blt=>⟨true,rfl,?_⟩,fun nblt=>⟨false,rfl,?_⟩⟩⟩
    rotate_left
    ·rw [if_pos rfl]
     exact ⟨by decide,(q _ ((tZ sH).trans s4)).2 fun z=>nblt (IQ (iff.mp z r (by simp)))⟩
    rw [if_neg (by decide)]
    have h4:=s4 _ _ h3
    have sd4:=jC (t:=t) s4
    have sH4:=sH.trans sd4
    have reps4:=Reps.same sd4 reps
    have rx4:=cD.same sd4 rx
    have rest:∀ r' ∈ ps',(Ud r'.1∨r'.1 = .non)/\r'.2 + depD r'.1<=900:=fun r' hr'=>ok r' (List.mem_append_left _ hr')
    rw [fQ] at nle ⊢
    have udr':Ud r.1:=udr.elim id fun z=>by rw [z] at blt;exact absurd blt id
    rcases B1 udr' with ⟨y,ey,hy⟩ | ⟨n,ds,ed,hh,uds⟩
    ·rw [ey] at rx4 blt
     cases (show x = .str y from rx4)
     refine ⟨true,rfl,?_⟩
     rw [if_neg (by decide)]
     refine ⟨_,by rw [ndss,ndss];have:=yW r.1;omega,ps',us,_,_,rfl,h4,sH4,reps4,rest,iff.trans ⟨fun z r' hr'=>z r' (List.mem_append_left _ hr'),fun z r' hr'=>?_⟩,rfl,by omega⟩
     rcases List.mem_append.mp hr' with h | h
     ·exact z r' h
     ·rw [List.mem_singleton.mp h,ey];exact IO blt
    ·obtain ⟨va,vs',rfl,hbb,hseq,res⟩:∃ va vs',x = .ref va/\isV H4 (.ref va) (.ty "str")=some false/\j4 H4 va (.str n :: vs')/\Reps (del H4 t) ds vs':=by
      rw [ed] at rx4
      obtain ⟨a,vs,rfl,ha,_,vs',rfl,e1,r⟩:=rx4
      cases e1
      exact ⟨a,vs',rfl,p6 (gO ha).1,.inr (gO ha).1,r⟩
     have hnd:nds r.1=1 + ndss ds:=by rw [ed,nds]
     have hdp:depD r.1=depDs ds + 1:=by rw [ed,depD,depDs,show depD (.str n)=0 from rfl];omega
     refine ⟨false,hbb,?_⟩
     rw [if_pos rfl]
     refine ⟨tyL h4,_,rfl,0,rfl,1,rfl,-1,rfl,rfl,rfl,rfl,va,_,rfl,hseq,by simp,fun b o hb ho=>?_⟩
     rw [AD] at ho
     refine ⟨b,rfl,vs'.reverse,by rcases ho with ⟨rfl,_⟩ | ⟨rfl,_⟩;exact .inl upd_same;exact .inr upd_same,fun J hJ=>?_⟩
     have s5:aJ H4 (upd H4 b o):=aJ.upd hb
     have hb5:upd H4 b o b=some o:=upd_same
     have nbt:b≠t:=(aG h4 hb).symm
     generalize upd H4 b o=H5 at s5 hb5 hJ ⊢
     refine dG hJ (ML t ds r.2 H5) ⟨none,rfl,aJ.refl _,rfl⟩ ?_ ?_ ?_
     ·rintro i acc σ H' _ ⟨_,_,s6,_⟩
      rw [hb5,s6 _ _ hb5]
     ·rintro i y acc σ H6 hy ⟨o0,rfl,s6,racc⟩
      obtain ⟨e,he,re⟩:=Reps.get (Reps.rev res) hy
      have la:=Reps.len racc
      have h1:=kE ds
      refine ⟨_,rfl,_,rfl,.inl ⟨_,rfl,(by decide:2<=sizeLine),fun p1 hp1=>⟨Nat.lt_of_le_of_lt (m:=20000) ?_ (by decide),_,rfl,s6.trans (aJ.upd hp1),?_⟩⟩⟩
      ·rw [List.length_map,List.length_take,List.length_reverse] at la
       rw [ndss,ndss] at nle
       omega
      ·have np:p1≠t:=(aG (s6 _ _ (s5 _ _ h4)) hp1).symm
       have sm5:aJ (del H4 t) (del (upd H6 p1 (.tup [y,.int (r.2 + 1)])) t):=jC ((s5.trans s6).trans (aJ.upd hp1))
       rw [bO he,List.map_append]
       have rp:cD (del (upd H6 p1 (.tup [y,.int (r.2 + 1)])) t) (tp (e,r.2 + 1)) (.ref p1):=⟨p1,_,rfl,jB upd_same np,y,_,rfl,cD.same sm5 re,_,[],rfl,rfl,rfl⟩
       exact Reps.snoc rp (Reps.same (zL hp1) racc)
     ·rintro acc σ H6 ⟨o0,rfl,s6,racc⟩ l hl
      have la:=Reps.len racc
      have lr':=Reps.len res
      have h1:=kE ds
      have h6:upd H6 l (.lst acc) t=some (.lst us):=by
       rw [aE (aG (s6 _ _ (s5 _ _ h4)) hl)]
       exact s6 _ _ (s5 _ _ h4)
      rw [List.length_reverse,lr',← List.length_reverse (as:=ds),List.take_length] at racc
      rw [List.length_map,List.length_take,List.length_reverse] at la
      rw [ndss,ndss] at nle
      have s7:aJ H4 (upd H6 l (.lst acc)):=(s5.trans s6).trans (aJ.upd hl)
      have e7:del (upd (upd H6 l (.lst acc)) t (.lst (us ++ acc))) t=del (upd H6 l (.lst acc)) t:=mP
      refine ⟨t,l,us,acc,rfl,rfl,h6,.inl upd_same,Nat.le_trans (m:=40000) (by omega) (by decide),ndss (ps'.map (·.1)) + ndss ds,by rw [ndss,ndss];omega,ps' ++ ds.reverse.map (fun d=>(d,r.2 + 1)),us ++ acc,_,_,rfl,upd_same,?_,?_,?_,?_,?_,by omega⟩
      ·rw [e7];exact sH4.trans (jC s7)
      ·rw [e7,List.map_append,List.map_map]
       exact Reps.append (Reps.same (jC s7) reps4) (Reps.same (zL hl) racc)
      ·intro r' hr'
       rcases List.mem_append.mp hr' with h | h
       ·exact rest r' h
       ·obtain ⟨e,he,rfl⟩:=List.mem_map.mp h
        have he:=List.mem_reverse.mp he
        obtain ⟨i,hi⟩:=List.getElem?_of_mem he
        have h3:=mO hi
        exact ⟨.inl (yE.mp uds e he),by show r.2 + 1 + depD e<=900;omega⟩
      ·rw [ed] at blt
       refine iff.trans ⟨fun z r' hr'=>?_,fun z r' hr'=>?_⟩
       ·rcases List.mem_append.mp hr' with h | h
        ·exact z r' (List.mem_append_left _ h)
        ·obtain ⟨e,he,rfl⟩:=List.mem_map.mp h
         have tr:=z r (by simp)
         rw [ed] at tr
         exact (B5 blt).mp tr e (List.mem_reverse.mp he)
       ·rcases List.mem_append.mp hr' with h | h
        ·exact z r' (List.mem_append_left _ h)
        ·rw [List.mem_singleton.mp h,ed]
         exact (B5 blt).mpr fun e he=>z (e,r.2 + 1) (List.mem_append_right _ (List.mem_map.mpr ⟨e,List.mem_reverse.mpr he,rfl⟩))
      ·rw [List.map_append,List.map_map,fQ]
       congr 1
       rw [show ((fun x:D×Nat=>x.1) ∘ fun d=>(d,r.2 + 1))=id from rfl,List.map_id,u9]
end
section
variable {P:Program}{w:World}{K:PySem.W.Frag}{mg:eJ}{base:Heap}
theorem s40:PySem.Str.ofString "(" = ⟨#[40]⟩:=by decide +kernel
theorem s41:PySem.Str.ofString ")" = ⟨#[41]⟩:=by decide +kernel
theorem s44:PySem.Str.ofString "," = ⟨#[44]⟩:=by decide +kernel
theorem s00:PySem.Str.ofString "" = ⟨#[]⟩:=by decide +kernel
mutual
noncomputable def BI:D->Prop
 | .str _=>True
 | .tup ds=>Tpls ds
 | _=>False
noncomputable def Tpls:List D->Prop
 | []=>True
 | d :: ds=>BI d/\Tpls ds
end
mutual
theorem pP {H H':Hp}(ts:bE H H'):∀ {d:D} {v:V},BI d->cD H d v->cD H' d v
 | .str x,v,_,h=>h
 | .tup ds,v,t,⟨a,vs,e,h,r⟩=>by
  unfold BI at t
  exact ⟨a,vs,e,ts _ _ h,iZ ts t r⟩
 | .non,_,t,_ | .bl _,_,t,_ | .int _,_,t,_ | .lst _,_,t,_=>by unfold BI at t;exact absurd t id
theorem iZ {H H':Hp}(ts:bE H H'):∀ {ds:List D} {vs:List V},Tpls ds->Reps H ds vs->Reps H' ds vs
 | [],_,_,h=>h
 | d :: ds,_,⟨a,b⟩,⟨v,r,e,h,k⟩=>⟨v,r,e,pP ts a h,iZ ts b k⟩
end
theorem m7 {d:D}(h:BI d):∀ {ds:List D},Tpls ds->Tpls (ds ++ [d])
 | [],_=>⟨h,trivial⟩
 | _ :: _,⟨a,b⟩=>⟨a,m7 h b⟩
noncomputable def BK (H:Hp):List (List D)->List Addr->Prop
 | [],[]=>True
 | t :: r,a :: as=>(Tpls t/\∃ vs,H a=some (.lst vs)/\Reps H t vs)/\BK H r as
 | _,_=>False
theorem BK.keep {H H':Hp}(ts:bE H H'):∀ {st:List (List D)} {rs:List Addr},(∀ a ∈ rs,H' a=H a)->BK H st rs->BK H' st rs
 | [],[],_,_=>trivial
 | t :: r,a :: as,k,⟨⟨h1,vs,h2,h3⟩,h4⟩=>⟨⟨h1,vs,by rw [k a List.mem_cons_self];exact h2,iZ ts h1 h3⟩,BK.keep ts (fun b hb=>k b (List.mem_cons_of_mem _ hb)) h4⟩
 | [],_ :: _,_,h=>absurd h id
 | _ :: _,[],_,h=>absurd h id
theorem BK.mem {H:Hp}{a:Addr}:∀ {st:List (List D)} {rs:List Addr},BK H st rs->a ∈ rs->∃ vs,H a=some (.lst vs)
 | [],[],_,h=>absurd h (List.not_mem_nil)
 | t :: r,b :: as,⟨⟨_,vs,e,_⟩,k⟩,h=>by
  obtain rfl | h:=List.mem_cons.mp h
  ·exact ⟨vs,e⟩
  ·exact BK.mem k h
 | [],_ :: _,h,_=>absurd h id
 | _ :: _,[],h,_=>absurd h id
theorem J7 {c:Nat}(h:c < 128):inTx (PySem.Str.ofString ",)") c=decide (c=44∨c=41):=by
 have:∀ c:Fin 128,inTx (PySem.Str.ofString ",)") c.1=decide (c.1=44∨c.1=41):=by decide +kernel
 exact this ⟨c,h⟩
theorem atI_last {α:Type}(xs:List α)(x:α):atI (xs ++ [x]) (-1)=some x:=by
 unfold atI ixN
 rw [if_neg (by decide),if_pos (by simp only [List.length_append,List.length_singleton];omega)]
 simp only [List.length_append,List.length_singleton,Option.bind_some]
 have:(-1 + ((xs.length + 1:Nat):Int)).toNat=xs.length:=by omega
 rw [this]
 simp
noncomputable def unbR (z:Str):D:=match prs z.cps.toList ([],.str ⟨#[]⟩) with
 | some ([],e)=>e
 | _=>.non
theorem CK {l:List Nat}{i c:Nat}{s0 st st':List (List D)×D}(hc:l[i]?=some c)(pi:prs (l.take i) s0=some st)(h:prs1 c st=some st'):prs (l.take (i + 1)) s0=some st':=by
 rw [List.take_add_one,hc,show (some c).toList=[c] from rfl,jK,pi]
 show (prs1 c st).bind (prs [])=_
 rw [h]
 rfl
theorem CM {l:List Nat}{i c:Nat}{s0 st:List (List D)×D}(hc:l[i]?=some c)(pi:prs (l.take i) s0=some st)(h:prs1 c st=none):prs l s0=none:=by
 have e2:l=l.take (i + 1) ++ l.drop (i + 1):=(List.take_append_drop _ _).symm
 rw [e2,jK,List.take_add_one,hc,show (some c).toList=[c] from rfl,jK,pi]
 show ((prs1 c st).bind (prs [])).bind _=_
 rw [h]
 rfl
theorem BY {z:Str}{i c:Nat}{st:List (List D)×D}(hc:z.cps[i]?=some c)(pi:prs (z.cps.toList.take i) ([],.str ⟨#[]⟩)=some st)(h:prs1 c st=none):unbR z = .non:=by
 unfold unbR
 rw [CM (by rw [Array.getElem?_toList];exact hc) pi h]
mutual
noncomputable def qL (l:List Nat):D->Prop
 | .str x=>x.cps.toList.Sublist l
 | .tup (.str n :: ds)=>(n.cps.toList.Sublist l/\ds≠[])/\UdLs l ds
 | _=>False
noncomputable def UdLs (l:List Nat):List D->Prop
 | []=>True
 | d :: ds=>qL l d/\UdLs l ds
end
mutual
theorem qL.mono {l l':List Nat}(s:l.Sublist l'):∀ {d:D},qL l d->qL l' d
 | .str x,h=>by unfold qL at h ⊢;exact h.trans s
 | .tup (.str n :: ds),h=>by unfold qL at h ⊢;exact ⟨⟨h.1.1.trans s,h.1.2⟩,UdLs.mono s h.2⟩
 | .non,h | .bl _,h | .int _,h | .tup [],h | .lst _,h | .tup (.non :: _),h | .tup (.bl _ :: _),h | .tup (.int _ :: _),h | .tup (.tup _ :: _),h | .tup (.lst _ :: _),h=>by unfold qL at h;exact absurd h id
theorem UdLs.mono {l l':List Nat}(s:l.Sublist l'):∀ {ds:List D},UdLs l ds->UdLs l' ds
 | [],_=>trivial
 | _ :: _,⟨a,b⟩=>⟨qL.mono s a,UdLs.mono s b⟩
end
theorem UdLs.snoc {l:List Nat}{d:D}(h:qL l d):∀ {ds:List D},UdLs l ds->UdLs l (ds ++ [d])
 | [],_=>⟨h,trivial⟩
 | _ :: _,⟨a,b⟩=>⟨a,UdLs.snoc h b⟩
mutual
theorem B2 {z:Str}(hz:mY z):∀ {d:D},qL z.cps.toList d->Ud d
 | .str x,h=>by unfold qL at h;unfold Ud;exact sN hz h
 | .tup (.str n :: ds),h=>by unfold qL at h;unfold Ud;exact ⟨⟨sN hz h.1.1,h.1.2⟩,uL hz h.2⟩
 | .non,h | .bl _,h | .int _,h | .tup [],h | .lst _,h | .tup (.non :: _),h | .tup (.bl _ :: _),h | .tup (.int _ :: _),h | .tup (.tup _ :: _),h | .tup (.lst _ :: _),h=>by unfold qL at h;exact absurd h id
theorem uL {z:Str}(hz:mY z):∀ {ds:List D},UdLs z.cps.toList ds->Uds ds
 | [],_=>trivial
 | _ :: _,⟨a,b⟩=>⟨B2 hz a,uL hz b⟩
theorem sN {z x:Str}(hz:mY z)(h:x.cps.toList.Sublist z.cps.toList):mY x:=by
 refine ⟨?_,?_⟩
 ·rw [← Array.all_toList,List.all_eq_true]
  exact fun c hc=>decide_eq_true (hz.low (h.subset hc))
 ·have:=h.length_le
  rw [Array.length_toList,Array.length_toList] at this
  exact Nat.le_trans this hz.2
end
noncomputable def IC (l:List Nat)(st:List (List D)×D):Prop:=(∀ t ∈ st.1,∃ n ps,t = .str n :: ps/\n.cps.toList.Sublist l/\UdLs l ps)/\qL l st.2
theorem IC.step {l:List Nat}{c:Nat}{st st':List (List D)×D}(ok:IC l st)(h:prs1 c st=some st'):IC (l ++ [c]) st':=by
 obtain ⟨stk,lt⟩:=st
 have sl:l.Sublist (l ++ [c]):=List.sublist_append_left _ _
 have emp:qL (l ++ [c]) (.str ⟨#[]⟩):=by unfold qL;exact List.nil_sublist _
 have up:∀ t ∈ stk,∃ n ps,t = .str n :: ps/\n.cps.toList.Sublist (l ++ [c])/\UdLs (l ++ [c]) ps:=fun t ht=>by
  obtain ⟨n,ps,e,h1,h2⟩:=ok.1 t ht
  exact ⟨n,ps,e,h1.trans sl,h2.mono sl⟩
 have lt':qL (l ++ [c]) lt:=ok.2.mono sl
 unfold prs1 at h
 dsimp only at h
 by_cases sep:c=44∨c=41
 ·rw [if_pos sep] at h
  cases stk with
  | nil=>cases h
  | cons t r =>
   obtain ⟨n,ps,rfl,h1,h2⟩:=up t List.mem_cons_self
   dsimp only at h
   by_cases c41:c=41
   ·rw [if_pos c41] at h
    cases h
    refine ⟨fun t ht=>up t (List.mem_cons_of_mem _ ht),?_⟩
    show qL _ (.tup (.str n :: (ps ++ [lt])))
    unfold qL
    exact ⟨⟨h1,by simp⟩,h2.snoc lt'⟩
   ·rw [if_neg c41] at h
    cases h
    refine ⟨fun t ht=>?_,emp⟩
    rcases List.mem_cons.mp ht with rfl | ht
    ·exact ⟨n,ps ++ [lt],rfl,h1,h2.snoc lt'⟩
    ·exact up t (List.mem_cons_of_mem _ ht)
 ·rw [if_neg sep] at h
  cases lt with
  | str x =>
   have hx:x.cps.toList.Sublist l:=by have:=ok.2;unfold qL at this;exact this
   dsimp only at h
   by_cases c40:c=40
   ·rw [if_pos c40] at h
    cases h
    refine ⟨fun t ht=>?_,emp⟩
    rcases List.mem_cons.mp ht with rfl | ht
    ·exact ⟨x,[],rfl,hx.trans sl,trivial⟩
    ·exact up t ht
   ·rw [if_neg c40] at h
    cases h
    refine ⟨up,?_⟩
    unfold qL
    rw [Array.toList_push]
    exact hx.append (List.Sublist.refl _)
  | _=>cases h
theorem IC.run:∀ {l a:List Nat} {st st':List (List D)×D},IC a st->prs l st=some st'->IC (a ++ l) st'
 | [],a,st,st',ok,h=>by rw [prs] at h;cases h;simpa using ok
 | c :: l,a,st,st',ok,h=>by
  rw [prs] at h
  cases e:prs1 c st with
  | none=>rw [e] at h;cases h
  | some s1 =>
   rw [e] at h
   have:=IC.run (ok.step e) (show prs l s1=some st' from h)
   simpa using this
theorem BX {z:Str}(hz:mY z):Ud (unbR z)∨unbR z = .non:=by
 unfold unbR
 split
 ·next e h =>
  have s0:IC [] ([],.str ⟨#[]⟩):=⟨by simp,by unfold qL;exact List.nil_sublist _⟩
  have:=(s0.run h).2
  rw [List.nil_append] at this
  exact .inl (B2 hz this)
 ·exact .inr rfl
mutual
theorem HP:∀ {d:D},Ud d->nds d<=(wrL d).length + 1/\depD d<=(wrL d).length
 | .str x,_=>⟨by unfold nds;omega,Nat.zero_le _⟩
 | .tup (.str n :: ds),h=>by
  unfold Ud at h
  obtain ⟨a,b⟩:=B0 h.2
  have hl:=oW h.1.2
  rw [wrL,nds,depD,depDs,show depD (.str n)=0 from rfl,List.length_append,List.length_cons]
  omega
 | .non,h | .bl _,h | .int _,h | .tup [],h | .lst _,h | .tup (.non :: _),h | .tup (.bl _ :: _),h | .tup (.int _ :: _),h | .tup (.tup _ :: _),h | .tup (.lst _ :: _),h=>by unfold Ud at h;exact absurd h id
theorem B0:∀ {ds:List D},Uds ds->ndss ds<=(ds.map fun d=>(wrL d).length + 1).sum/\depDs ds<=(ds.map fun d=>(wrL d).length + 1).sum
 | [],_=>by rw [ndss,depDs];simp
 | d :: ds,⟨x,y⟩=>by
  obtain ⟨a,b⟩:=HP x
  obtain ⟨a',b'⟩:=B0 y
  rw [ndss,depDs,List.map_cons,List.sum_cons]
  omega
end
theorem IL {z:Str}(hz:mY z):nds (unbR z)<=z.cps.size + 1/\depD (unbR z)<=z.cps.size:=by
 rcases BX hz with h | h
 ·have e:wrL (unbR z)=z.cps.toList:=by
   unfold unbR at h ⊢
   split at h
   ·next e he=>exact wZ he
   ·unfold Ud at h;exact absurd h id
  have:=HP h
  rw [e,Array.length_toList] at this
  exact this
 ·rw [h]
  exact ⟨by unfold nds;omega,Nat.zero_le _⟩
noncomputable def wL:Sp:=fun vs H Q _=>∃ z:Str,vs=[.str z]/\mY z/\∀ (v':V) (H':Hp),aJ H H'->cD H' (unbR z) v'->Q v' H'
noncomputable def L5 (z:Str)(ol:Addr)(H:Hp)(i:Nat)(σ:St)(H2:Hp):Prop:=∃ (stk:List (List D)) (lat:D) (rs:List Addr) (v:V) (o:Option V),σ=[some (.str z),some (.ref ol),some v,o]/\prs (z.cps.toList.take i) ([],.str ⟨#[]⟩)=some (stk,lat)/\aJ H H2/\H2 ol=some (.lst (rs.reverse.map V.ref)) /\
 BK H2 stk rs/\rs.Nodup/\ol ∉ rs/\(∀ r ∈ rs,H r=none)/\BI lat/\cD H2 lat v/\rs.length<=i/\(∀ t ∈ stk,t.length<=i + 1)/\∀ x:Str,lat = .str x->x.cps.size<=i
theorem GC {f:Addr}{fd:FuncData}(F:gN K "unbracketed" "unbracketed" dI f fd)(T:Txt mg):cF P w K mg base bP 1 f fd iS wL:=by
 refine F.ok cU (fun vs H Q E h=>?_) (fun cdv A outer s H vs Q E hr h=>?_)
 ·obtain ⟨z,rfl,_⟩:=h
  rfl
 ·obtain ⟨z,rfl,⟨asc,z20⟩,q⟩:=h
  have hu:=hr.units
  refine ⟨_,(aC (aP (i:=1) cU.nd rfl (Or.inl rfl) (cJ aB))
   (aC (aP (i:=2) cU.nd rfl (Or.inl rfl) bA)
   (aC (fW PassesOwn.never rfl (tG (pv 0)) (bN (i:=3) cU.nd rfl (Or.inl rfl)) (aH (bU (aS gU (pv 3) bA (by with_unfolding_all rfl)) (aC (bU (cW (aU K rfl (pv 1) (fun _=>rfl))) (aH (aR jL)) aX)
   (aC (eL (j9 PySem.F.plainAttrs_list PySem.F.slot_list_append PySem.F.type_list_append fE (bM dF (pv 1) (HV BZ aF) (fun _ _=>rfl)) (aA (pv 2) aB)))
   (aH (aP (i:=2) cU.nd rfl (Or.inl rfl) (mC (aS (eI hu) (pv 3) bA (nomark _)) (d9 iM rfl T.n_tuple rfl (aA (CY PySem.F.plainAttrs_list PySem.F.slot_list_pop PySem.F.type_list_pop DV (pv 1)) aB)) bA))))) (aH (bU (cW (aU K rfl (aK aL rfl T.n_isinstance rfl (aA (pv 2) (aA (bX (v:=V.ty "str") rfl T.n_str rfl rfl) aB))) (fun _=>rfl))) (aH (aR jL)) (aH (bU (aS (eI hu) (pv 3) bA (nomark _)) (aC (eL (j9 PySem.F.plainAttrs_list PySem.F.slot_list_append PySem.F.type_list_append fE (pv 1) (aA (cJ (aA (pv 2) aB)) aB)))
   (aH (aP (i:=2) cU.nd rfl (Or.inl rfl) bA))) (aH (JF (i:=2) cU.nd rfl (Or.inl rfl) (pv 3) GV)))))))))
   (aH (aR (mC (aU K rfl (pv 1) (fun _=>rfl)) jL (pv 2))))))),?_⟩
  simp only [lB]
  clear hr F T hu
  have keep:=aI q (aI asc z20)
  clear q asc z20
  walk_at "rd"
  obtain ⟨q,asc,z20⟩:=keep
  refine ⟨by decide,fun ol hol=>?_⟩
  simp only [iTxt,tVar]
  refine ⟨_,rfl,z,rfl,asc,?_⟩
  refine EB (L5 z ol H) ⟨[],.str ⟨#[]⟩,[],_,none,rfl,rfl,aJ.upd hol,upd_same,trivial,List.nodup_nil,by simp,by simp,by unfold BI;trivial,s00 ▸ rfl,by simp,by simp,by intro x hx;cases hx;simp⟩ ?_ ?_
  ·rintro i c σ H2 hc ⟨stk,lat,rs,v,o,rfl,pi,sH,eo,sk,nd,no,fr,tl,rl,l1,l2,l3⟩
   have keep:=aI pi (aI sH (aI eo (aI sk (aI nd (aI no (aI fr (aI tl (aI rl (aI l1 (aI l2 (aI l3 hc)))))))))))
   clear pi sH eo sk nd no fr tl rl l1 l2 l3 hc
   have keep2:=aI q (aI asc z20)
   clear q asc z20
   simp only [tAug]
   walk_at "rd"
   obtain ⟨q,asc,z20⟩:=keep2
   obtain ⟨pi,sH,eo,sk,nd,no,fr,tl,rl,l1,l2,l3,hc⟩:=keep
   have cc:c < 128:=by
    have h:=Array.all_eq_true.mp asc
    obtain ⟨hi,e1⟩:=Array.getElem?_eq_some_iff.mp hc
    have:=h i hi
    rw [e1] at this
    exact of_decide_eq_true this
   have hi:i < z.cps.size:=(Array.getElem?_eq_some_iff.mp hc).1
   have nxt:∀ {st'},prs1 c (stk,lat)=some st'->prs (z.cps.toList.take (i + 1)) ([],.str ⟨#[]⟩)=some st':=fun h=>CK (by rw [Array.getElem?_toList];exact hc) pi h
   have bad:prs1 c (stk,lat)=none->∀ H',aJ H H'->Q .non H':=fun h H' s'=>q .non H' s' (by rw [BY hc pi h];rfl)
   have hin:=J7 cc
   unfold inTx at hin
   rw [Bool.not_eq_eq_eq_not] at hin
   refine ⟨decide (c=44∨c=41),hin,?_⟩
   by_cases sep:c=44∨c=41
   ·rw [decide_eq_true sep,if_pos rfl]
    unfold prs1 at nxt bad
    rw [if_pos sep] at nxt bad
    cases stk with
    | nil =>
     cases rs with
     | cons a as=>exact absurd sk id
     | nil =>
      refine ⟨false,.inl ⟨_,fH.of eo,rfl⟩,?_⟩
      rw [if_pos rfl]
      exact bad rfl _ sH
    | cons t r =>
     cases rs with
     | nil=>exact absurd sk id
     | cons a as =>
      obtain ⟨⟨ht,vs,ha,hv⟩,sr⟩:=sk
      have er:(a :: as).reverse.map V.ref=as.reverse.map V.ref ++ [.ref a]:=by simp
      rw [er] at eo ⊢
      have noa:ol≠a:=fun z=>no (z ▸ List.mem_cons_self)
      have lt1:=l2 t List.mem_cons_self
      have lv:=Reps.len hv
      refine ⟨true,.inl ⟨_,fH.of eo,by simp⟩,?_⟩
      rw [if_neg (by decide)]
      refine ⟨_,atI_last _ _,tyL ha,a,rfl,vs,ha,Nat.lt_of_le_of_lt (m:=20005) (by omega) (by decide),?_⟩
      have g1:upd H2 a (.lst (vs ++ [v])) ol=some (.lst (as.reverse.map V.ref ++ [.ref a])):=by rw [aE noa];exact eo
      have ts1:bE H2 (upd H2 a (.lst (vs ++ [v]))):=bE.lst ha
      have fra:=fr a List.mem_cons_self
      have s1:aJ H (upd H2 a (.lst (vs ++ [v]))):=fun b ob hb=>by rw [aE (aG hb fra)];exact sH _ _ hb
      have na:a ∉ as:=(List.nodup_cons.mp nd).1
      have ea:upd H2 a (.lst (vs ++ [v])) a=some (.lst (vs ++ [v])):=upd_same
      have hv1:=iZ ts1 ht hv
      have rl1:=pP ts1 tl rl
      have sr1:BK (upd H2 a (.lst (vs ++ [v]))) r as:=BK.keep ts1 (fun b hb=>aE (fun z=>na (z ▸ hb))) sr
      generalize upd H2 a (.lst (vs ++ [v]))=H3 at g1 s1 ea hv1 rl1 sr1 ⊢
      by_cases c41:c=41
      ·subst c41
       have pi':=nxt (st':=(r,D.tup (t ++ [lat]))) rfl
       rw [if_pos s41.symm]
       refine ⟨tyL g1,_,g1,.ref a,by simp,a,rfl,vs ++ [v],.inl (by rw [aE noa.symm];exact ea),fun l1' H' hH=>?_⟩
       rw [List.dropLast_concat] at hH
       have ts2:bE H3 (upd H3 ol (.lst (as.reverse.map V.ref))):=bE.lst g1
       rcases hH with ⟨h,_⟩ | ⟨_,hfr,rfl⟩
       ·rw [aE noa.symm,ea] at h;cases h
       ·have nl:ol≠l1':=aG upd_same hfr
        have ts3:bE (upd H3 ol (.lst (as.reverse.map V.ref))) (upd (upd H3 ol (.lst (as.reverse.map V.ref))) l1' (.tup (vs ++ [v]))):=bE.of (aJ.upd hfr)
        have ts4:=ts2.trans ts3
        refine ⟨r,.tup (t ++ [lat]),as,_,_,rfl,pi',fun b ob hb=>?_,?_,BK.keep ts4 (fun b hb=>?_) sr1,(List.nodup_cons.mp nd).2,fun hm=>no (List.mem_cons_of_mem _ hm),fun b hb=>fr b (List.mem_cons_of_mem _ hb),by unfold BI;exact m7 tl ht,⟨l1',vs ++ [v],rfl,upd_same,Reps.snoc (pP ts4 tl rl1) (iZ ts4 ht hv1)⟩,by simp only [List.length_cons] at l1;omega,fun t' ht'=>by have:=l2 t' (List.mem_cons_of_mem _ ht');omega,fun x hx=>by cases hx⟩
        ·have h3:=s1 _ _ hb
         rw [aE (fun z=>by rw [← z,aE (aG hb hol),h3] at hfr;cases hfr),aE (aG hb hol)]
         exact h3
        ·rw [aE nl,upd_same]
        ·have nb:b≠ol:=fun z=>no (z ▸ List.mem_cons_of_mem _ hb)
         obtain ⟨ys,hy⟩:=sr1.mem hb
         rw [aE (fun z=>by rw [← z,aE nb,hy] at hfr;cases hfr),aE nb]
      ·have c44:c=44:=by omega
       subst c44
       have pi':=nxt (st':=((t ++ [lat]) :: r,D.str ⟨#[]⟩)) rfl
       rw [if_neg (by rw [s41];intro h;cases h)]
       refine ⟨(t ++ [lat]) :: r,.str ⟨#[]⟩,a :: as,_,_,rfl,pi',s1,by rw [er];exact g1,⟨⟨m7 tl ht,vs ++ [v],ea,Reps.snoc rl1 hv1⟩,sr1⟩,nd,no,fr,by unfold BI;trivial,s00 ▸ rfl,by omega,fun t' ht'=>?_,fun x hx=>by cases hx;simp⟩
       rcases List.mem_cons.mp ht' with rfl | ht'
       ·simp only [List.length_append,List.length_singleton];omega
       ·have:=l2 t' (List.mem_cons_of_mem _ ht');omega
   ·rw [decide_eq_false sep,if_neg (by decide)]
    unfold prs1 at nxt bad
    rw [if_neg sep] at nxt bad
    cases lat with
    | str x =>
     cases (show v = .str x from rl)
     have lx:=l3 x rfl
     refine ⟨true,rfl,?_⟩
     rw [if_neg (by decide)]
     by_cases c40:c=40
     ·subst c40
      rw [if_pos s40.symm]
      have pi':=nxt (st':=([D.str x] :: stk,D.str ⟨#[]⟩)) rfl
      refine ⟨tyL eo,by decide,fun p hp=>⟨_,by rw [aE (aG eo hp)];exact eo,Nat.lt_of_le_of_lt (m:=20005) (by rw [List.length_map,List.length_reverse];omega) (by decide),?_⟩⟩
      have npo:ol≠p:=aG eo hp
      have hH:H p=none:=sH.free hp
      have ts2:bE H2 (upd H2 p (.lst [.str x])):=bE.of (aJ.upd hp)
      have g1:upd H2 p (.lst [.str x]) ol=some (.lst (rs.reverse.map V.ref)):=by rw [aE npo];exact eo
      have ts3:=ts2.trans (bE.lst (o:=.lst (rs.reverse.map V.ref ++ [.ref p])) g1)
      refine ⟨[.str x] :: stk,.str ⟨#[]⟩,p :: rs,_,_,rfl,pi',fun b ob hb=>?_,?_,⟨⟨⟨by unfold BI;trivial,trivial⟩,[.str x],?_,⟨_,_,rfl,rfl,rfl⟩⟩,BK.keep ts3 (fun b hb=>?_) sk⟩,?_,?_,?_,by unfold BI;trivial,s00 ▸ rfl,by simp only [List.length_cons];omega,fun t' ht'=>?_,fun y hy=>by cases hy;simp⟩
      ·rw [aE (aG hb hol),aE (aG hb hH)];exact sH _ _ hb
      ·rw [upd_same,List.reverse_cons,List.map_append];rfl
      ·rw [aE npo.symm];exact upd_same
      ·obtain ⟨ys,hy⟩:=sk.mem hb
       rw [aE (show b≠ol from fun z=>no (z ▸ hb)),aE (aG hy hp)]
      ·refine List.nodup_cons.mpr ⟨fun hm=>?_,nd⟩
       obtain ⟨ys,hy⟩:=sk.mem hm
       rw [hp] at hy;cases hy
      ·intro hm
       obtain h | h:=List.mem_cons.mp hm
       ·exact npo h
       ·exact no h
      ·intro b hb
       obtain rfl | h:=List.mem_cons.mp hb
       ·exact hH
       ·exact fr b h
      ·rcases List.mem_cons.mp ht' with rfl | ht'
       ·simp
       ·have:=l2 t' ht';omega
     ·rw [if_neg (fun h=>c40 (by rw [s40] at h;injection h with h;injection h with h;injection h))]
      have pi':=nxt (st':=(stk,D.str ⟨x.cps.push c⟩)) (if_neg c40)
      refine ⟨.str x,rfl,_,rfl,x,⟨#[c]⟩,rfl,rfl,Nat.le_trans (m:=20005) (by show x.cps.size + 1<=_;omega) (by decide),?_⟩
      refine ⟨stk,.str ⟨x.cps.push c⟩,rs,_,_,rfl,pi',sH,eo,sk,nd,no,fr,by unfold BI;trivial,?_,by omega,fun t' ht'=>by have:=l2 t' ht';omega,fun y hy=>by cases hy;simp;omega⟩
      show V.str (x ++ ⟨#[c]⟩)=V.str _
      exact congrArg V.str (Str.ext' (by rw [Str.cps_append];rfl))
    | tup ds =>
     obtain ⟨ta,tvs,rfl,th,_⟩:=rl
     refine ⟨false,p6 th,?_⟩
     rw [if_pos rfl]
     exact bad rfl _ sH
    | _=>unfold BI at tl;exact absurd tl id
  ·rintro σ H2 ⟨stk,lat,rs,v,o,rfl,pi,sH,eo,sk,nd,no,fr,tl,rl,l1,l2,l3⟩
   rw [List.take_of_length_le (by rw [Array.length_toList];exact Nat.le_refl _)] at pi
   cases stk with
   | cons t r =>
    cases rs with
    | nil=>exact absurd sk id
    | cons a as =>
     refine ⟨_,rfl,true,.inl ⟨_,fH.of eo,by simp⟩,?_⟩
     show if true=true then _ else _
     rw [if_pos rfl]
     exact q .non H2 sH (by unfold unbR;rw [pi];rfl)
   | nil =>
    cases rs with
    | cons a as=>exact absurd sk id
    | nil =>
     refine ⟨_,rfl,false,.inl ⟨_,fH.of eo,rfl⟩,?_⟩
     show if false=true then _ else _
     rw [if_neg (by decide)]
     exact ⟨_,rfl,q v H2 sH (by unfold unbR;rw [pi];exact rl)⟩
end
section
variable {P:Program}{w:World}{K:PySem.W.Frag}{mg:eJ}{base:Heap}
noncomputable def nI (K:PySem.W.Frag)(C:Addr):Sp:=fun vs H Q _=>∃ (g:Addr) (fx:cL) (sm:cQ) (d:D) (v:V),vs=[.ref g,v]/\oV K C fx sm H g/\bC fx sm/\cD H d v/\(Ud d∨d = .non)/\depD d<=900/\nds d<=20000/\∀ H',aJ H H'->(TW fx sm d->Q (.bl true) H')/\(¬ TW fx sm d->Q (.bl false) H')
theorem xA {f C CT:Addr}{fd:FuncData}(F:gN K "is_term" "is_term" fV f fd)(T:Txt mg)(hm_NoTerm:mg "NoTerm" = some (.ref CT))(hx_NoTerm:oN K CT)(O_check_term:dQ P w K mg base (yA P w) 3 "check_term" (pL K C CT)):cF P w K mg base bP 4 f fd nY (nI K C):=by
 refine F.ok wV (fun vs H Q E h=>?_) (fun cdv A outer s H vs Q E hr h=>?_)
 ·obtain ⟨g,fx,sm,d,v,rfl,_⟩:=h
  rfl
 ·obtain ⟨g,fx,sm,d,v,rfl,sg,so,rep,ud,d900,n20,q⟩:=h
  have hu:=hr.units
  let EX:XK:=fun cls _ H'=>cls = .ref CT/\Q (.bl false) H'
  have hEX:∀ cls d H',EX cls d H'->cls = .ref CT:=fun cls d H' z=>z.1
  refine ⟨_,(aC (JE EX ⟨rfl,rfl⟩ rfl hm_NoTerm hx_NoTerm hEX (fun pn Ew hP=>(aH (eL (aO O_check_term (hr.mono (by decide)) hP rfl (aA (pv 0) (aA (pv 1) aB)))))) (fun e=>(aH (aR kA))))
   (aH (aR kA))),?_⟩
  refine ⟨?_,fun cls d σ' H' z=>z.2⟩
  refine ⟨_,rfl,_,rfl,g,fx,sm,d,v,rfl,sg,so,rep,ud,d900,n20,fun H' s'=>⟨fun t=>(q H' s').1 t,fun t=>⟨rfl,(q H' s').2 t⟩⟩⟩
noncomputable def BL (H:Hp)(v:V):Prop:=∀ H',aJ H H'->isV H' v (.ty "str")=some false
noncomputable def sS (K:PySem.W.Frag)(C CX:Addr):Sp:=fun vs H Q E=>∃ (g:Addr) (fx:cL) (sm:cQ) (v:V),vs=[.ref g,v]/\oV K C fx sm H g/\bC fx sm /\
 ((BL H v/\∀ H',aJ H H'->E (.ref CX) none H')∨∃ z:Str,v = .str z/\mY z/\z.cps.size<=800/\(TW fx sm (unbR z)->∀ (v':V) (H':Hp),aJ H H'->cD H' (unbR z) v'->Q v' H')/\(¬ TW fx sm (unbR z)->∀ H',aJ H H'->E (.ref CX) none H'))
theorem DK {f C CX:Addr}{fd:FuncData}(F:gN K "read" "read" lF f fd)(T:Txt mg)(hm_NoText:mg "NoText" = some (.ref CX))(hx_NoText:oN K CX)(O_unbracketed:dQ P w K mg base bP 1 "unbracketed" wL)(O_is_term:dQ P w K mg base bP 4 "is_term" (nI K C)):cF P w K mg base (yA P w) 5 f fd xW (sS K C CX):=by
 refine F.okE yH (fun vs H Q E h=>?_) (fun cdv A outer s H vs Q E hr h=>?_)
 ·obtain ⟨g,fx,sm,v,rfl,_⟩:=h
  rfl
 ·obtain ⟨g,fx,sm,v,rfl,sg,so,q⟩:=h
  have hu:=hr.units
  refine ⟨_,(aC (bU (cW (aU K rfl (aK aL rfl T.n_isinstance rfl (aA (pv 1) (aA (bX (v:=V.ty "str") rfl T.n_str rfl rfl) aB))) (fun _=>rfl))) (aH (pQ rfl nA rfl hm_NoText hx_NoText (aA bA aB))) aX)
   (aC (aP (i:=2) yH.nd rfl (Or.inl rfl) (aO O_unbracketed (hr.mono (by decide)) pass0 rfl (aA (pv 1) aB)))
   (aC (bU (cW (aU K rfl (aO O_is_term (hr.mono (by decide)) pass0 rfl (aA (pv 0) (aA (pv 2) aB))) (fun _=>rfl))) (aH (pQ rfl nA rfl hm_NoText hx_NoText (aA bA aB))) aX)
   (aH (aR (pv 2)))))),?_⟩
  simp only [EV]
  clear hr F T hu O_unbracketed O_is_term hm_NoText hx_NoText
  have keep:=aI q (aI sg so)
  clear q sg so
  walk_at "rd"
  obtain ⟨q,sg,so⟩:=keep
  rcases q with ⟨no,q⟩ | ⟨z,rfl,hz,z8,q1,q2⟩
  ·refine ⟨false,no H (aJ.refl _),?_⟩
   rw [if_pos rfl]
   exact ⟨by decide,q H (aJ.refl _)⟩
  ·refine ⟨true,rfl,?_⟩
   rw [if_neg (by decide)]
   obtain ⟨n1,n2⟩:=IL hz
   refine ⟨z,rfl,hz,fun v' H1 s1 r1=>?_⟩
   refine ⟨g,fx,sm,unbR z,v',rfl,sg.same s1,so,r1,BX hz,by omega,by omega,fun H2 s2=>⟨fun t=>⟨true,rfl,?_⟩,fun t=>⟨false,rfl,?_⟩⟩⟩
   ·rw [if_neg (by decide)]
    exact q1 t v' H2 (s1.trans s2) (cD.same s2 r1)
   ·rw [if_pos rfl]
    exact ⟨by decide,q2 t H2 (s1.trans s2)⟩
end
section
variable {P:Program}{w:World}{K:PySem.W.Frag}{mg:eJ}{base:Heap}
theorem rK {fx:cL}{sm:cQ}{os:aW}:∀ {ds:List D},IsTms fx sm os ds->∀ d ∈ ds,cT fx sm os d
 | [],_,_,h=>nomatch h
 | _ :: _,⟨a,b⟩,d,h=>(List.mem_cons.mp h).elim (fun z=>z ▸ a) (rK b d)
noncomputable def gT (n:Nat):Sp:=fun vs H Q _=>∃ (fx:cL) (sm:cQ) (os:aW) (d:D) (v:V),vs=[v]/\cD H d v/\LJ fx sm os d/\depD d<=n/\∀ H',aJ H H'->Q (.str (wrS d)) H'
noncomputable def L4 (ds:List D)(H:Hp)(i:Nat)(acc:List V)(σ:St)(H1:Hp):Prop:=∃ o0:Option V,σ=[o0]/\aJ H H1/\acc=(ds.take i).map fun d=>V.str (wrS d)
theorem tP:∀ {ds:List D} {i:Nat} {d:D},ds[i]?=some d->nds d<=ndss ds
 | [],_,_,h=>by simp at h
 | e :: ds,0,d,h=>by
  simp at h
  subst h
  rw [ndss]
  omega
 | e :: ds,i + 1,d,h=>by
  have:=tP (ds:=ds) (i:=i) (d:=d) (by simpa using h)
  rw [ndss]
  omega
theorem uM {fx:cL}{sm:cQ}{os:aW}{d e:D}{n:Str}{ds:List D}(t:LJ fx sm os d)(hd:d = .tup (.str n :: ds)∨d = .lst (.str n :: ds))(he:e ∈ ds):LJ fx sm os e/\depD e < depD d:=by
 obtain ⟨i,hi⟩:=List.getElem?_of_mem he
 have h1:=mO hi
 have h2:=y7 hi
 have h3:=tP hi
 have hdp:depD d=depDs ds + 1:=by
  rcases hd with rfl | rfl
  ·rw [depD,depDs,show depD (.str n)=0 from rfl];omega
  ·rw [depD,depDs,show depD (.str n)=0 from rfl];omega
 have hlv:lvs d=lvss ds:=by rcases hd with rfl | rfl <;> rw [lvs]
 have hnd:nds d=1 + ndss ds:=by rcases hd with rfl | rfl <;> rw [nds]
 have tm:IsTms fx sm os ds:=by
  have:=t.tm
  rcases hd with rfl | rfl <;> (unfold cT at this;exact this.2)
 have a1:=t.lv
 have a2:=t.nd
 have a3:=t.dp
 exact ⟨⟨t.so,t.ho,rK tm e he,by omega,by omega,by omega⟩,by omega⟩
theorem w9 {f:Addr}{fd:FuncData}(n:Nat)(F:gN K "_law_written" "_law_written" bR f fd)(T:Txt mg)(O__law_written:dQ P w K mg base bP (n + 1) "_law_written" (fun vs H Q E=>∃ m,m < n/\gT m vs H Q E)):cF P w K mg base bP (n + 2) f fd dN (gT n):=by
 refine F.ok oP (fun vs H Q E h=>?_) (fun cdv A outer s H vs Q E hr h=>?_)
 ·obtain ⟨fx,sm,os,d,v,rfl,_⟩:=h
  rfl
 ·obtain ⟨fx,sm,os,d,v,rfl,rep,tr,dn,q⟩:=h
  have hu:=hr.units
  refine ⟨_,(aC (bU (aU K rfl (aK aL rfl T.n_isinstance rfl (aA (pv 0) (aA (bX (v:=V.ty "str") rfl T.n_str rfl rfl) aB))) (fun _=>rfl)) (aH (aR (pv 0))) aX)
   (aH (aR (bB aY (bB aY (bB aY (bM dF (pv 0) aF (fun _ _=>rfl)) bA) (j9 PySem.F.plainAttrs_str PySem.F.slot_str_join PySem.F.type_str_join GP bA (aA (eM rfl (bG.by (N:=iB) (names:=(aD bR).names) (N':=["_law_part_here"]) (src:=[none]) (by decide +kernel) rfl rfl) (dM K rfl (bT sZ (pv 0) (bK aF) cX)) (fun _ _ _ _=>(bN (i:=0) (show List.Nodup (["_law_part_here"]:aW) by decide +kernel) rfl (Or.inl rfl))) (fun _ _ _ _=>eD) (fun _ _ _ _=>(aO O__law_written (hr.mono (by omega)) pass0 rfl (aA (pv 0) aB)))) aB))) bA)))),?_⟩
  simp only [iB]
  clear hr F T hu O__law_written
  have keep:=aI q (aI rep (aI tr dn))
  clear q rep tr dn
  walk_at "rd"
  obtain ⟨q,rep,tr,dn⟩:=keep
  rcases IS tr.tm with ⟨x,rfl,hx⟩ | ⟨nm,ds,hd,hdo,tms⟩
  ·cases (show v = .str x from rep)
   refine ⟨true,rfl,?_⟩
   rw [if_pos rfl]
   exact q _ (aJ.refl _)
  ·obtain ⟨va,vs',rfl,hbb,hseq,res⟩:∃ va vs',v = .ref va/\isV H (.ref va) (.ty "str")=some false/\j4 H va (.str nm :: vs')/\Reps H ds vs':=by
    rcases hd with rfl | rfl
    ·obtain ⟨a,vs,rfl,ha,_,vs',rfl,e1,r⟩:=rep
     cases e1
     exact ⟨a,vs',rfl,p6 ha,.inr ha,r⟩
    ·obtain ⟨a,vs,rfl,ha,_,vs',rfl,e1,r⟩:=rep
     cases e1
     exact ⟨a,vs',rfl,J1 ha,.inl ha,r⟩
   have ix0:ixV H (.ref va) (.int 0)=some (.str nm):=by
    rcases hseq with e | e
    ·rw [ixV_l e,atI_zero]
    ·rw [ixV_t e,atI_zero]
   refine ⟨false,hbb,?_⟩
   rw [if_neg (by decide)]
   obtain ⟨z1,_⟩:=yF tr.so tr.ho tr.tm
   have nd:=tr.nd
   have ew:wrL d=nm.cps.toList ++ 40 :: wrJ ds:=by rcases hd with rfl | rfl <;> rw [wrL]
   have ne:ds≠[]:=fun z=>by have:=vH hdo;rw [z] at this;exact absurd this (by simp)
   have jp:=AW ne
   have lw:(wrL d).length=nm.cps.toList.length + 1 + ((Txt.join ⟨#[44]⟩ (ds.map wrS)).cps.toList.length + 1):=by rw [ew,← jp];simp;omega
   have hle:∀ y ∈ ds.map wrS,y.length<=12000:=fun y hy=>by
    obtain ⟨e,he,rfl⟩:=List.mem_map.mp hy
    have t:=(uM tr hd he).1
    have h1:=(yF t.so t.ho t.tm).1
    have h2:=t.nd
    show (wrL e).toArray.size<=_
    rw [List.size_toArray]
    omega
   have lds:ds.length<=60:=by
    have h1:=oX tms
    have h2:lvs d=lvss ds:=by rcases hd with rfl | rfl <;> rw [lvs]
    have h3:=tr.lv
    omega
   have ab:∀ {a b:Str} {x y:Nat},a.cps.toList.length=x->b.cps.toList.length=y->x + y<=100000->a.length + b.length<=sizeLine:=fun h1 h2 h3=>Nat.le_trans (m:=100000) (by rw [Array.length_toList] at h1 h2;unfold PySem.Str.length;omega) (by decide)
   refine ⟨.str nm,ix0,.inl ⟨.str (nm ++ PySem.Str.ofString "("),if_pos (ab rfl rfl (by show _ + 1<=_;omega)),rfl,va,rfl,_,hseq,fun _ h=>?_,fun p1 o1 hp1 ho1=>?_⟩⟩
   ·have:=h.1
    simp [HT.sIx] at this
   ·rw [zM] at ho1
    have s0:aJ H (upd H p1 o1):=aJ.upd hp1
    have g1:upd H p1 o1 p1=some o1:=upd_same
    have h1:j4 (upd H p1 o1) p1 vs':=by rcases ho1 with ⟨rfl,_⟩ | ⟨rfl,_⟩;exact .inl upd_same;exact .inr upd_same
    generalize upd H p1 o1=H0 at s0 g1 h1 ⊢
    refine ⟨vs',h1,fun J hJ=>?_⟩
    refine dG hJ (L4 ds H0) ⟨none,rfl,aJ.refl _,rfl⟩ ?_ ?_ ?_
    ·rintro i acc σ H' _ ⟨_,_,s1,_⟩
     rw [g1,s1 _ _ g1]
    ·rintro i x acc σ H1 hx ⟨o0,rfl,s1,rfl⟩
     obtain ⟨e,he,re⟩:=Reps.get res hx
     obtain ⟨t,hdp⟩:=uM tr hd (List.mem_of_getElem? he)
     refine ⟨_,rfl,⟨depD e,by omega,fx,sm,os,e,x,rfl,cD.same (s0.trans s1) re,t,Nat.le_refl _,fun H2 s2=>⟨Nat.lt_of_le_of_lt (m:=100) (by rw [List.length_map,List.length_take];omega) (by decide),_,rfl,s1.trans s2,?_⟩⟩⟩
     rw [bO he,List.map_append]
     rfl
    ·rintro acc σ H1 ⟨o0,rfl,s1,rfl⟩ l hl
     have e0:=Reps.len res
     rw [e0,List.take_length]
     refine ⟨PySem.Str.ofString ",",l,ds.map wrS,rfl,rfl,by rw [upd_same,List.map_map];rfl,?_,?_⟩
     ·refine D4 (B:=12000) hle ?_
      rw [s44,List.length_map]
      show ds.length * 12000 + ds.length * 1<=_
      omega
     ·rw [s44,s40,s41]
      refine .inl ⟨.str (nm ++ ⟨#[40]⟩ ++ Txt.join ⟨#[44]⟩ (ds.map wrS)),if_pos (ab (x:=nm.cps.toList.length + 1) (by rw [Str.cps_append];simp) rfl (by omega)),?_⟩
      refine .inl ⟨.str (nm ++ ⟨#[40]⟩ ++ Txt.join ⟨#[44]⟩ (ds.map wrS) ++ ⟨#[41]⟩),if_pos (ab (x:=nm.cps.toList.length + 1 + (Txt.join ⟨#[44]⟩ (ds.map wrS)).cps.toList.length) (y:=1) (by rw [Str.cps_append,Str.cps_append];simp only [Array.toList_append,List.length_append];rfl) rfl (by omega)),?_⟩
      have ee:(nm ++ ⟨#[40]⟩ ++ Txt.join ⟨#[44]⟩ (ds.map wrS) ++ ⟨#[41]⟩:Str)=wrS d:=by
       apply Str.ext'
       apply Array.toList_inj.mp
       show _=(wrL d).toArray.toList
       rw [Str.cps_append,Str.cps_append,Str.cps_append,List.toList_toArray,ew,← jp]
       simp
      rw [ee]
      exact q _ ((s0.trans s1).trans (aJ.upd hl))
theorem xP {f:Addr}{fd:FuncData}(F:gN K "_law_written" "_law_written" bR f fd)(T:Txt mg)(hm:mg "_law_written" = some (.ref f))(hk:PySem.W.keepIn K (.ref f)=true)(hb:fK K fd dN []):∀ n,cF P w K mg base bP (n + 2) f fd dN (gT n):=by
 intro n
 induction n using Nat.strongRecOn with
 | ind n ih =>
  exact w9 n F T ⟨f,fd,_,⟨fun vs H Q E ⟨m,h1,h⟩=>(ih m h1).len vs H Q E h,fun A outer s H args us vs Q E hr he hb hv ⟨m,h1,h⟩=>((ih m h1).mono (by omega)).run A outer s H args us vs Q E hr he hb hv h⟩,hm,hk,hb⟩
theorem uX {f:Addr}{fd:FuncData}(F:gN K "_law_written" "_law_written" bR f fd)(T:Txt mg)(hm:mg "_law_written" = some (.ref f))(hk:PySem.W.keepIn K (.ref f)=true)(hb:fK K fd dN [])(n:Nat):dQ P w K mg base bP (n + 2) "_law_written" (gT n):=⟨f,fd,_,xP F T hm hk hb n,hm,hk,hb⟩
end
section
variable {P:Program}{w:World}{K:PySem.W.Frag}{mg:eJ}{base:Heap}
noncomputable def lV:Sp:=fun vs H Q _=>∃ x:Str,vs=[.str x]/\mY x/\∀ H',aJ H H'->(cC x->Q (.bl true) H')/\(¬ cC x->Q (.bl false) H')
theorem DO {f:Addr}{fd:FuncData}(F:gN K "_law_is_wish" "_law_is_wish" cH f fd)(T:Txt mg):cF P w K mg base bP 1 f fd hZ lV:=by
 refine F.ok oQ (fun vs H Q E h=>?_) (fun cdv A outer s H vs Q E hr h=>?_)
 ·obtain ⟨x,rfl,_⟩:=h
  rfl
 ·obtain ⟨x,rfl,hx,q⟩:=h
  have hu:=hr.units
  refine ⟨_,(aC (bU (PW.pt (iK (cW (aU K rfl (aK aL rfl T.n_isinstance rfl (aA (pv 0) (aA (bX (v:=V.ty "str") rfl T.n_str rfl rfl) aB))) (fun _=>rfl))) (iK (aS (kD hu) (bT eP (pv 0) cX (bK aF)) bA (nomark _)) (g9 (aS (q8 hu) (aK bH rfl T.n_len rfl (aA (pv 0) aB)) (eB (aA aF (aA aF (aA aF (aA aF (aA aF (aA aF (aA aF (aA aF aB))))))))) (by with_unfolding_all rfl)))))) (aH (aR kA)) aX)
   (aH (aR (aK (gW rfl) rfl T.n_all rfl (aA (eM rfl (bG.by (N:=iC) (names:=(aD cH).names) (N':=["_law_sign"]) (src:=[none]) (by decide +kernel) rfl rfl) (tG (bT eP (pv 0) (bK aF) cX)) (fun _ _ _ _=>(bN (i:=0) (show List.Nodup (["_law_sign"]:aW) by decide +kernel) rfl (Or.inl rfl))) (fun _ _ _ _=>eD) (fun _ _ _ _=>(eN gU (pv 0) bA (by with_unfolding_all rfl)))) aB))))),?_⟩
  simp only [iC]
  clear hr F T hu
  have keep:=aI q hx
  clear q hx
  walk_at "rd"
  obtain ⟨q,hx⟩:=keep
  have hz:=hx.fits
  have small:x.length=x.cps.toList.length:=by rw [Array.length_toList];rfl
  refine ⟨true,rfl,?_⟩
  rw [if_neg (by decide)]
  refine ⟨x,rfl,hz,?_⟩
  dsimp only
  rw [rNeD_ss]
  refine ⟨_,rfl,?_⟩
  have first:((cutS x none (some 1))=Str.ofString "?") ↔ ∃ r,x.cps.toList=63 :: r:=by
   have e2:(Str.ofString "?").cps.toList=[63]:=by decide +kernel
   have e1:(cutS x none (some 1)).cps.toList=x.cps.toList.take 1:=kX (b:=1)
   constructor
   ·intro z
    rw [z,e2] at e1
    cases hc:x.cps.toList with
    | nil=>rw [hc] at e1;cases e1
    | cons c r=>rw [hc] at e1;cases e1;exact ⟨r,rfl⟩
   ·rintro ⟨r,hr⟩
    exact Str.ext' (Array.toList_inj.mp (by rw [e1,e2,hr];rfl))
  by_cases c63:∃ r,x.cps.toList=63 :: r
  ·obtain ⟨r,hr⟩:=c63
   rw [if_neg (by rw [decide_eq_true (first.mpr ⟨r,hr⟩)];decide)]
   refine ⟨.int x.length,by rw [jA hz];rfl,by decide,fun p hp=>?_⟩
   have sp:aJ H (upd H p (.tup [.int 2,.int 3,.int 4,.int 5,.int 6,.int 7,.int 8,.int 9])):=aJ.upd hp
   have hpp:upd H p (.tup [.int 2,.int 3,.int 4,.int 5,.int 6,.int 7,.int 8,.int 9]) p=some (.tup [.int 2,.int 3,.int 4,.int 5,.int 6,.int 7,.int 8,.int 9]):=upd_same
   generalize upd H p (.tup [.int 2,.int 3,.int 4,.int 5,.int 6,.int 7,.int 8,.int 9])=H1 at sp hpp ⊢
   refine ⟨.int x.length,[.int 2,.int 3,.int 4,.int 5,.int 6,.int 7,.int 8,.int 9],rfl,.inr ⟨p,_,rfl,hpp,⟨_,_,rfl,rfl,_,_,rfl,rfl,_,_,rfl,rfl,_,_,rfl,rfl,_,_,rfl,rfl,_,_,rfl,rfl,_,_,rfl,rfl,_,_,rfl,rfl,rfl⟩⟩,by decide,_,rfl,?_⟩
   have hin:inD (.int x.length) [.int 2,.int 3,.int 4,.int 5,.int 6,.int 7,.int 8,.int 9]=decide (2<=x.length/\x.length<=9):=by
    apply Bool.eq_iff_iff.mpr
    simp only [decide_eq_true_eq,inD,List.any_cons,List.any_nil,eqD,Bool.or_eq_true,Bool.or_false,beq_iff_eq]
    omega
   rw [hin]
   by_cases h29:2<=x.length/\x.length<=9
   ·rw [decide_eq_true h29]
    rw [if_neg (by decide)]
    have iff:=uK hr h29.1 h29.2
    have et:cutS x (some 1) none=⟨r.toArray⟩:=Str.ext' (Array.toList_inj.mp (by rw [show (cutS x (some 1) none).cps.toList=x.cps.toList.drop 1 from jD (a:=1),hr,List.toList_toArray];rfl))
    have hl:r.length<=8:=by rw [small,hr,List.length_cons] at h29;omega
    have low:∀ a ∈ r,a < 128:=fun a ha=>hx.low (by rw [hr];exact List.mem_cons_of_mem _ ha)
    refine ⟨_,rfl,1,rfl,x,rfl,hz,cutS x (some 1) none,rfl,?_,?_⟩
    ·rw [et]
     simp only [List.all_toArray,List.all_eq_true,decide_eq_true_eq]
     exact low
    ·rw [et]
     refine nW (fun i acc σ H'=>H'=H1/\acc=(r.take i).map (fun a=>V.bl (inTx "abcdefghijklmnopqrstuvwxyz0123456789" a))/\∃ o:Option V,σ=[o]) ⟨rfl,rfl,none,rfl⟩ ?_ ?_
     ·rintro i a acc σ H' ha ⟨rfl,rfl,o,rfl⟩
      have ha':r[i]?=some a:=by simpa using ha
      refine ⟨_,rfl,_,rfl,_,rfl,?_⟩
      dsimp only
      refine ⟨Nat.lt_of_le_of_lt (m:=100) (by simp;omega) (by decide),rfl,?_,_,rfl⟩
      rw [bO ha',List.map_append]
      rfl
     ·rintro acc σ H' ⟨rfl,rfl,o,rfl⟩ p2 hp2
      have es:(Str.mk r.toArray).cps.size=r.length:=by show r.toArray.size=_;rw [List.size_toArray]
      rw [es,List.take_length]
      refine ⟨p2,rfl,r.map (inTx "abcdefghijklmnopqrstuvwxyz0123456789"),by rw [upd_same,List.map_map];rfl,?_⟩
      have all:(r.map (inTx "abcdefghijklmnopqrstuvwxyz0123456789")).all id=true ↔ ∀ a ∈ r,isWd a:=by
       rw [List.all_map,List.all_eq_true]
       refine forall_congr' fun a=>forall_congr' fun ha=>?_
       show inTx "abcdefghijklmnopqrstuvwxyz0123456789" a=true ↔ _
       rw [BT (low a ha),decide_eq_true_eq]
       unfold isWd
       exact Iff.rfl
      by_cases w1:cC x
      ·rw [all.mpr (iff.mp w1).2]
       exact (q _ (sp.trans (aJ.upd hp2))).1 w1
      ·rw [Bool.eq_false_iff.mpr fun z=>w1 (iff.mpr ⟨rfl,all.mp z⟩)]
       exact (q _ (sp.trans (aJ.upd hp2))).2 w1
   ·rw [decide_eq_false h29]
    rw [if_pos (by rfl)]
    exact (q _ sp).2 fun z=>h29 (pE z)
  ·rw [if_pos (by rw [decide_eq_false fun z=>c63 (first.mp z)];rfl)]
   refine (q _ (aJ.refl _)).2 fun z=>c63 ?_
   obtain ⟨l,rfl,_⟩:=z
   exact ⟨l,List.toList_toArray⟩
end
section
variable {P:Program}{w:World}{K:PySem.W.Frag}{mg:eJ}{base:Heap}
mutual
/-- what is read part by part: texts,nothing,rows of a text and more -/
noncomputable def Pd:D->Prop
 | .str x=>mY x
 | .non=>True
 | .tup (.str n :: ds)=>mY n/\Pds ds
 | _=>False
noncomputable def Pds:List D->Prop
 | []=>True
 | d :: ds=>Pd d/\Pds ds
end
theorem yQ:∀ {ds:List D},Pds ds ↔ ∀ d ∈ ds,Pd d
 | []=>by simp [Pds]
 | d :: ds=>by rw [Pds,yQ (ds:=ds)];simp
theorem JJ {d:D}(h:Pd d):(∃ x:Str,d = .str x/\mY x)∨d = .non∨∃ n ds,d = .tup (.str n :: ds)/\mY n/\Pds ds:=by
 unfold Pd at h
 split at h
 ·exact .inl ⟨_,rfl,h⟩
 ·exact .inr (.inl rfl)
 ·exact .inr (.inr ⟨_,_,rfl,h⟩)
 ·exact absurd h id
noncomputable def sF (t:Addr)(fx:cL)(sm:cQ)(H:Hp):Prop:=∃ (a b:Addr) (fv sv:List V),H t=some (.tup [.ref a,.ref b])/\H a=some (.lst fv)/\H b=some (.lst sv)/\dJ H fx fv/\eY H sm sv
theorem sF.same {t:Addr}{fx:cL}{sm:cQ}{H H':Hp}(h:sF t fx sm H)(s:aJ H H'):sF t fx sm H':=by
 obtain ⟨a,b,fv,sv,h1,h2,h3,h4,h5⟩:=h
 exact ⟨a,b,fv,sv,s _ _ h1,s _ _ h2,s _ _ h3,h4.same (bE.of s),h5.same (bE.of s)⟩
open Classical in
noncomputable def tb (fx:cL)(sm:cQ)(d:D):Bool:=decide (TW fx sm d)
theorem pH {fx:cL}{sm:cQ}{d:D}:tb fx sm d=true ↔ TW fx sm d:=by unfold tb;exact @decide_eq_true_iff _ (Classical.propDecidable _)
theorem tW {x:Str}{k:Int}:∀ {fx:cL},inD (.tup [.str x,.int k]) (fx.map fun r=>D.tup [.str r.1,.int r.2])=true ↔ (x,k) ∈ fx
 | []=>by simp [inD]
 | r :: l=>by
  have ih:=tW (x:=x) (k:=k) (fx:=l)
  unfold inD at ih ⊢
  rw [List.map_cons,List.any_cons,Bool.or_eq_true,ih,List.mem_cons]
  refine or_congr ?_ Iff.rfl
  simp only [eqD,eqDs,Bool.and_eq_true,beq_iff_eq,and_true]
  constructor
  ·rintro ⟨h1,h2⟩
   exact Prod.ext h1.symm h2.symm
  ·intro h
   rw [← h]
   exact ⟨rfl,rfl⟩
noncomputable def jG (n:Nat):Sp:=fun vs H Q _=>∃ (t:Addr) (fx:cL) (sm:cQ) (d:D) (v:V),vs=[.ref t,v]/\sF t fx sm H/\bC fx sm/\cD H d v/\Pd d/\depD d<=n/\nds d<=20000/\∀ H',aJ H H'->Q (.bl (tb fx sm d)) H'
theorem DP {f:Addr}{fd:FuncData}(n:Nat)(F:gN K "_law_is_term" "_law_is_term" bF f fd)(T:Txt mg)(O__law_is_wish:dQ P w K mg base bP 1 "_law_is_wish" lV)(O__law_is_term:dQ P w K mg base bP (n + 1) "_law_is_term" (fun vs H Q E=>∃ m,m < n/\jG m vs H Q E)):cF P w K mg base bP (n + 2) f fd dP (jG n):=by
 refine F.ok oR (fun vs H Q E h=>?_) (fun cdv A outer s H vs Q E hr h=>?_)
 ·obtain ⟨t,fx,sm,d,v,rfl,_⟩:=h
  rfl
 ·obtain ⟨t,fx,sm,d,v,rfl,told,so,rep,pd,dn,n20,q⟩:=h
  have hu:=hr.units
  refine ⟨_,(aC (bU (aU K rfl (aK aL rfl T.n_isinstance rfl (aA (pv 1) (aA (bX (v:=V.ty "str") rfl T.n_str rfl rfl) aB))) (fun _=>rfl)) (aH (aR (HW (aO O__law_is_wish (hr.mono (by omega)) pass0 rfl (aA (pv 1) aB)) (nM (eN (tM hu) (eB (aA (pv 1) (aA aF aB))) (bM dF (pv 0) aF (fun _ _=>rfl)) (by with_unfolding_all rfl)))))) aX)
   (aC (bU (PW.pt (iK (cW (aU K rfl (aK aL rfl T.n_isinstance rfl (aA (pv 1) (aA (eB (aA (bX (v:=V.ty "list") rfl T.n_list rfl rfl) (aA (bX (v:=V.ty "tuple") rfl T.n_tuple rfl rfl) aB))) aB))) (fun _=>rfl))) (iK (aS (jM hu) (aK bH rfl T.n_len rfl (aA (pv 1) aB)) aF (nomark _)) (g9 (cW (aU K rfl (aK aL rfl T.n_isinstance rfl (aA (bM dF (pv 1) aF (fun _ _=>rfl)) (aA (bX (v:=V.ty "str") rfl T.n_str rfl rfl) aB))) (fun _=>rfl))))))) (aH (aR kA)) aX)
   (aC (bU (aS (tM hu) (bM dF (pv 1) aF (fun _ _=>rfl)) (eM rfl (bG.by (N:=eK) (names:=(aD bF).names) (N':=["_law_name","_law_nought"]) (src:=[none,none]) (by decide +kernel) rfl rfl) (dM K rfl (bM dF (pv 0) aF (fun _ _=>rfl))) (fun _ _ _ _=>(dD K rfl (i:=0) (j:=1) rfl (show List.Nodup (["_law_name","_law_nought"]:aW) by decide +kernel) rfl rfl rfl rfl)) (fun _ _ _ _=>eD) (fun _ _ _ _=>(pv 0))) (by with_unfolding_all rfl)) (aH (aR (tH (eN uZ (aK bH rfl T.n_len rfl (aA (pv 1) aB)) aF (nomark _)) (nM (aK (gW rfl) rfl T.n_all rfl (aA (eM rfl (bG.by (N:=eK) (names:=(aD bF).names) (N':=["_law_part_here","_law_told_here"]) (src:=[none,some 0]) (by decide +kernel) rfl rfl) (dM K rfl (bT sZ (pv 1) (bK aF) cX)) (fun _ _ _ _=>(bN (i:=0) (show List.Nodup (["_law_part_here","_law_told_here"]:aW) by decide +kernel) rfl (Or.inl rfl))) (fun _ _ _ _=>eD) (fun _ _ _ _=>(aO O__law_is_term (hr.mono (by omega)) pass0 rfl (aA (pv 1) (aA (pv 0) aB))))) aB)))))) aX)
   (aH (aR (tH (eN (tM hu) (eB (aA (bM dF (pv 1) aF (fun _ _=>rfl)) (aA (bB lG (aK bH rfl T.n_len rfl (aA (pv 1) aB)) aF) aB))) (bM dF (pv 0) aF (fun _ _=>rfl)) (by with_unfolding_all rfl)) (nM (aK (gW rfl) rfl T.n_all rfl (aA (eM rfl (bG.by (N:=eK) (names:=(aD bF).names) (N':=["_law_part_here","_law_told_here"]) (src:=[none,some 0]) (by decide +kernel) rfl rfl) (dM K rfl (bT sZ (pv 1) (bK aF) cX)) (fun _ _ _ _=>(bN (i:=0) (show List.Nodup (["_law_part_here","_law_told_here"]:aW) by decide +kernel) rfl (Or.inl rfl))) (fun _ _ _ _=>eD) (fun _ _ _ _=>(aO O__law_is_term (hr.mono (by omega)) pass0 rfl (aA (pv 1) (aA (pv 0) aB))))) aB))))))))),?_⟩
  simp only [eK]
  clear hr F T hu O__law_is_wish O__law_is_term
  have keep:=aI q (aI told (aI so (aI rep (aI pd (aI dn n20)))))
  clear q told so rep pd dn n20
  walk_at "rd"
  obtain ⟨q,told,so,rep,pd,dn,n20⟩:=keep
  obtain ⟨ta,tb',fv,sv,t1,t2,t3,t4,t5⟩:=id told
  have says:∀ {b:Bool} {H':Hp},aJ H H'->(b=true ↔ TW fx sm d)->Q (.bl b) H':=fun {b H'} s' h=>by
   have e:b=tb fx sm d:=Bool.eq_iff_iff.mpr (h.trans pH.symm)
   rw [e]
   exact q H' s'
  rcases JJ pd with ⟨x,rfl,hx⟩ | rfl | ⟨nm,ds,rfl,hn,pds⟩
  ·cases (show v = .str x from rep)
   refine ⟨true,rfl,?_⟩
   rw [if_pos rfl]
   refine ⟨x,rfl,hx,fun H1 s1=>⟨fun hw=>⟨true,rfl,?_⟩,fun hw=>⟨false,rfl,?_⟩⟩⟩
   ·rw [if_pos rfl]
    exact says s1 ⟨fun _=>by unfold TW;exact .inl hw,fun _=>rfl⟩
   ·rw [if_neg (by decide)]
    refine ⟨by decide,fun p hp=>?_⟩
    have s2:aJ H (upd H1 p (.tup [.str x,.int 0])):=s1.trans (aJ.upd hp)
    have hpp:upd H1 p (.tup [.str x,.int 0]) p=some (.tup [.str x,.int 0]):=upd_same
    generalize upd H1 p (.tup [.str x,.int 0])=H2 at s2 hpp ⊢
    refine ⟨.ref ta,by rw [ixV_t (s2 _ _ t1)];rfl,?_⟩
    refine ⟨.tup [.str x,.int 0],fx.map fun r=>D.tup [.str r.1,.int r.2],⟨p,_,rfl,hpp,_,_,rfl,rfl,_,_,rfl,rfl,rfl⟩,.inl ⟨ta,fv,rfl,s2 _ _ t2,kS (t4.same (bE.of s2))⟩,by have:=mM fx;omega,?_⟩
    refine says s2 ?_
    show inD _ _=true ↔ _
    rw [tW]
    unfold TW
    have zi:(x,(0:Int)) ∈ fx ↔ x ∈ zeros fx:=⟨fun z=>(iX so).mpr (mI so z),fun z=>yZ ((iX so).mp z)⟩
    rw [zi]
    exact ⟨.inr,fun z=>z.resolve_left hw⟩
  ·cases (show v = .non from rep)
   refine ⟨false,rfl,?_⟩
   rw [if_neg (by decide)]
   refine ⟨by decide,fun p hp=>⟨false,?_,?_⟩⟩
   ·unfold isV tyN clsV
    simp only [upd_same]
    rfl
   ·rw [if_pos rfl]
    exact says (aJ.upd hp) ⟨(fun z=>nomatch z),fun z=>by unfold TW at z;exact absurd z id⟩
  ·obtain ⟨va,_,rfl,ha,_,vs',rfl,e1,res⟩:=rep
   cases e1
   have hlen:=Reps.len res
   refine ⟨false,p6 ha,?_⟩
   rw [if_neg (by decide)]
   refine ⟨by decide,fun p hp=>?_⟩
   have s1:aJ H (upd H p (.tup [.ty "list",.ty "tuple"])):=aJ.upd hp
   have hp1:upd H p (.tup [.ty "list",.ty "tuple"]) p=some (.tup [.ty "list",.ty "tuple"]):=upd_same
   generalize upd H p (.tup [.ty "list",.ty "tuple"])=H1 at s1 hp1 ⊢
   have ix0:∀ {H'},aJ H H'->ixV H' (.ref va) (.int 0)=some (.str nm):=fun s'=>by rw [ixV_t (s' _ _ ha),atI_zero]
   have ln:∀ {H'},aJ H H'->lenV H' (.ref va)=some (vs'.length + 1):=fun s'=>by rw [lenV_t (s' _ _ ha)];rfl
   refine ⟨true,xM (s1 _ _ ha) hp1,?_⟩
   rw [if_neg (by decide)]
   refine ⟨_,by rw [ln s1];rfl,_,rfl,?_⟩
   have twd:TW fx sm (.tup (.str nm :: ds)) ↔ n8 fx sm nm ds.length/\∀ d ∈ ds,TW fx sm d:=by
    constructor
    ·intro z
     unfold TW at z
     exact ⟨z.1,gB.mp z.2⟩
    ·intro z
     unfold TW
     exact ⟨z.1,gB.mpr z.2⟩
   have nod:nds (.tup (.str nm :: ds))=1 + ndss ds:=by rw [nds]
   have dep:depD (.tup (.str nm :: ds))=depDs ds + 1:=by rw [depD,depDs,show depD (.str nm)=0 from rfl];omega
   have parts:∀ H2,aJ H H2->n8 fx sm nm ds.length->∀ (p:Addr) (o:HO),H2 p=none->(o = .lst (cutV (.str nm :: vs') (some 1) none)/\H2 va=some (.lst (.str nm :: vs'))∨o = .tup (cutV (.str nm :: vs') (some 1) none)/\H2 va=some (.tup (.str nm :: vs'))) ->
     ∃ x,j4 (upd H2 p o) p x/\∀ J,EZ K p x J (upd H2 p o)->kQ J (gName 0) tYes (tCall (fun vs H Q E=>∃ m,m < n/\jG m vs H Q E) [] E0 (tCons (tVar 1) (tCons (tVar 0) tNil))) (fun x H1=>∃ p,x=V.ref p/\∃ x,H1 p=some (HO.lst (List.map V.bl x))/\Q (V.bl (x.all id)) H1) [none,some (V.ref t)] (upd H2 p o):=by
    intro H2 s2 hh p2 o2 hp2 ho
    rw [zM] at ho
    have s3:aJ H (upd H2 p2 o2):=s2.trans (aJ.upd hp2)
    have h3:upd H2 p2 o2 p2=some o2:=upd_same
    refine ⟨vs',by rcases ho with ⟨rfl,_⟩ | ⟨rfl,_⟩;exact .inl upd_same;exact .inr upd_same,fun J hJ=>?_⟩
    generalize upd H2 p2 o2=H3 at s3 h3 hJ ⊢
    refine dG hJ (fun i acc σ H'=>aJ H3 H'/\acc=(ds.take i).map (fun d=>V.bl (tb fx sm d))/\∃ o0:Option V,σ=[o0,some (.ref t)]) ⟨aJ.refl _,rfl,none,rfl⟩ ?_ ?_ ?_
    ·rintro i acc σ H' _ ⟨s4,_⟩
     rw [h3,s4 _ _ h3]
    ·rintro i y acc σ H4 hy ⟨s4,rfl,o0,rfl⟩
     obtain ⟨e,he,re⟩:=Reps.get res hy
     have h1:=mO he
     have h2:=tP he
     have h5:=kE ds
     have hi:i < ds.length:=(List.getElem?_eq_some_iff.mp he).1
     refine ⟨_,rfl,_,rfl,depD e,by omega,t,fx,sm,e,y,rfl,told.same (s3.trans s4),so,cD.same (s3.trans s4) re,yQ.mp pds e (List.mem_of_getElem? he),Nat.le_refl _,by omega,fun H5 s5=>?_⟩
     refine ⟨Nat.lt_of_le_of_lt (m:=20000) (by rw [List.length_map,List.length_take];omega) (by decide),s4.trans s5,?_,_,rfl⟩
     rw [bO he,List.map_append]
     rfl
    ·rintro acc σ H4 ⟨s4,rfl,o0,rfl⟩ l hl
     rw [hlen,List.take_length]
     refine ⟨l,rfl,ds.map (tb fx sm),by rw [upd_same,List.map_map];rfl,?_⟩
     refine says ((s3.trans s4).trans (aJ.upd hl)) ?_
     rw [List.all_map,List.all_eq_true,twd]
     exact ⟨fun z=>⟨hh,fun d hd=>pH.mp (z d hd)⟩,fun z d hd=>pH.mpr (z.2 d hd)⟩
   by_cases ne:ds.length=0
   ·rw [if_pos (by omega)]
    exact says s1 ⟨(fun z=>nomatch z),fun z=>absurd (vH (twd.mp z).1) (by omega)⟩
   ·rw [if_neg (by omega)]
    refine ⟨.str nm,ix0 s1,true,rfl,?_⟩
    rw [if_neg (by decide)]
    refine ⟨.str nm,ix0 s1,.ref tb',by rw [ixV_t (s1 _ _ t1)];rfl,tb',rfl,sv,.inl (s1 _ _ t3),fun J hJ=>?_⟩
    refine dG hJ (fun i acc σ H'=>H'=H1/\acc=(sm.take i).map (fun r=>V.str r.1)/\∃ o1 o2:Option V,σ=[o1,o2]) ⟨rfl,rfl,none,none,rfl⟩ (fun i acc σ H' _ h=>by rw [h.1]) ?_ ?_
    ·rintro i y acc σ H' hy ⟨rfl,rfl,o1,o2,rfl⟩
     obtain ⟨r,tt,hr,rfl,ht⟩:=(t5.same (bE.of s1)).get hy
     refine ⟨tt,_,rfl,iE.of ht,rfl,_,_,rfl,_,_,rfl,rfl,_,rfl,?_⟩
     refine ⟨Nat.lt_of_le_of_lt (m:=100) (by rw [List.length_map,List.length_take];have:=so.s2;omega) (by decide),rfl,?_,_,_,rfl⟩
     rw [bO hr,List.map_append]
     rfl
    ·rintro acc σ H' ⟨rfl,rfl,o1,o2,rfl⟩ l hl
     have lsv:=t5.len
     rw [lsv,List.take_length]
     have s2:aJ H (upd H' l (.lst (sm.map fun r=>V.str r.1))):=s1.trans (aJ.upd hl)
     have hl2:upd H' l (.lst (sm.map fun r=>V.str r.1)) l=some (.lst ((sm.map (·.1)).map V.str)):=by rw [upd_same,List.map_map];rfl
     generalize upd H' l (.lst (sm.map fun r=>V.str r.1))=H2 at s2 hl2 ⊢
     refine .inl ⟨.str nm,(sm.map (·.1)).map D.str,rfl,.inl ⟨l,_,rfl,hl2,kR _⟩,by rw [mL];decide,_,rfl,?_⟩
     rw [show (if false=true then !inD (.str nm) ((sm.map (·.1)).map D.str) else inD (.str nm) ((sm.map (·.1)).map D.str))=inD (.str nm) ((sm.map (·.1)).map D.str) from rfl,mJ]
     have sq:j4 H2 va (.str nm :: vs'):=.inr (s2 _ _ ha)
     by_cases hin:nm ∈ sm.map (·.1)
     ·rw [decide_eq_true hin,if_pos rfl]
      have nfx:∀ k,(nm,k) ∉ fx:=fun k hk=>(List.nodup_append.mp so.nd).2.2 nm (List.mem_map_of_mem (f:=(·.1)) hk) nm hin rfl
      refine ⟨_,by rw [ln s2];rfl,_,rfl,?_⟩
      by_cases two:2<=ds.length
      ·rw [if_pos (by omega)]
       exact ⟨va,rfl,_,sq,fun _ h=>by have:=h.1;simp [HT.sIx] at this,fun p o hp ho=>parts H2 s2 (.inr ⟨two,hin⟩) p o hp ho⟩
      ·rw [if_neg (by omega)]
       refine says s2 ⟨(fun z=>nomatch z),fun z=>?_⟩
       rcases (twd.mp z).1 with ⟨_,z⟩ | ⟨z,_⟩
       ·exact absurd z (nfx _)
       ·exact absurd z two
     ·rw [decide_eq_false hin,if_neg (by decide)]
      refine ⟨.str nm,ix0 s2,_,by rw [ln s2];rfl,_,rfl,by decide,fun p3 hp3=>?_⟩
      have e3:((vs'.length + 1:Nat):Int) - 1=(ds.length:Int):=by omega
      rw [e3]
      have s3:aJ H (upd H2 p3 (.tup [.str nm,.int ds.length])):=s2.trans (aJ.upd hp3)
      have hp3':upd H2 p3 (.tup [.str nm,.int ds.length]) p3=some (.tup [.str nm,.int ds.length]):=upd_same
      generalize upd H2 p3 (.tup [.str nm,.int ds.length])=H3 at s3 hp3' ⊢
      refine ⟨.ref ta,by rw [ixV_t (s3 _ _ t1)];rfl,?_⟩
      refine ⟨.tup [.str nm,.int ds.length],fx.map fun r=>D.tup [.str r.1,.int r.2],⟨p3,_,rfl,hp3',_,_,rfl,rfl,_,_,rfl,rfl,rfl⟩,.inl ⟨ta,fv,rfl,s3 _ _ t2,kS (t4.same (bE.of s3))⟩,by have:=mM fx;omega,_,rfl,?_⟩
      have ii:=tW (x:=nm) (k:=ds.length) (fx:=fx)
      by_cases hfx:(nm,(ds.length:Int)) ∈ fx
      ·rw [show (if false=true then !inD (.tup [.str nm,.int ds.length]) (fx.map fun r=>D.tup [.str r.1,.int r.2]) else inD (.tup [.str nm,.int ds.length]) (fx.map fun r=>D.tup [.str r.1,.int r.2]))=true from ii.mpr hfx,if_pos rfl]
       exact ⟨va,rfl,_,.inr (s3 _ _ ha),fun _ h=>by have:=h.1;simp [HT.sIx] at this,fun p o hp ho=>parts H3 s3 (.inl ⟨by omega,hfx⟩) p o hp ho⟩
      ·rw [show (if false=true then !inD (.tup [.str nm,.int ds.length]) (fx.map fun r=>D.tup [.str r.1,.int r.2]) else inD (.tup [.str nm,.int ds.length]) (fx.map fun r=>D.tup [.str r.1,.int r.2]))=false from Bool.eq_false_iff.mpr fun z=>hfx (ii.mp z),if_neg (by decide)]
       refine says s3 ⟨(fun z=>nomatch z),fun z=>?_⟩
       rcases (twd.mp z).1 with ⟨_,z⟩ | ⟨_,z⟩
       ·exact absurd z hfx
       ·exact absurd z hin
theorem ED {f:Addr}{fd:FuncData}(F:gN K "_law_is_term" "_law_is_term" bF f fd)(T:Txt mg)(O__law_is_wish:dQ P w K mg base bP 1 "_law_is_wish" lV)(hm:mg "_law_is_term" = some (.ref f))(hk:PySem.W.keepIn K (.ref f)=true)(hb:fK K fd dP []):∀ n,cF P w K mg base bP (n + 2) f fd dP (jG n):=by
 intro n
 induction n using Nat.strongRecOn with
 | ind n ih =>
  exact DP n F T O__law_is_wish ⟨f,fd,_,⟨fun vs H Q E ⟨m,h1,h⟩=>(ih m h1).len vs H Q E h,fun A outer s H args us vs Q E hr he hb hv ⟨m,h1,h⟩=>((ih m h1).mono (by omega)).run A outer s H args us vs Q E hr he hb hv h⟩,hm,hk,hb⟩
theorem AJ {f:Addr}{fd:FuncData}(F:gN K "_law_is_term" "_law_is_term" bF f fd)(T:Txt mg)(O__law_is_wish:dQ P w K mg base bP 1 "_law_is_wish" lV)(hm:mg "_law_is_term" = some (.ref f))(hk:PySem.W.keepIn K (.ref f)=true)(hb:fK K fd dP [])(n:Nat):dQ P w K mg base bP (n + 2) "_law_is_term" (jG n):=⟨f,fd,_,ED F T O__law_is_wish hm hk hb n,hm,hk,hb⟩
end
section
variable {P:Program}{w:World}{K:PySem.W.Frag}{mg:eJ}{base:Heap}
noncomputable def opn40 (l:List Nat):Nat:=l.count 40
theorem KA {c:Nat}(h:c < 128):inTx "abcdefghijklmnopqrstuvwxyz0123456789?" c=isCh c:=by
 have:∀ c:Fin 128,inTx "abcdefghijklmnopqrstuvwxyz0123456789?" c.1=isCh c.1:=by decide +kernel
 exact this ⟨c,h⟩
section
variable {w:List Nat}{i:Nat}
theorem v9 {k:Nat}(h:k < (wd w i).length):∃ c,w[i + k]?=some c/\isCh c=true:=by
 have e:w.drop i=wd w i ++ w.drop (i + (wd w i).length):=lR w i
 refine ⟨(wd w i)[k],?_,?_⟩
 ·rw [← List.getElem?_drop,e,List.getElem?_append_left h,List.getElem?_eq_getElem h]
 ·have:=List.getElem_mem h
  exact List.all_eq_true.mp (List.all_takeWhile ..) _ this
theorem E9 {c:Nat}(h:w[i + (wd w i).length]?=some c):isCh c=false:=by
 have e1:(w.drop i)[(wd w i).length]?=some c:=by rw [List.getElem?_drop];exact h
 have e2:(w.drop i).drop (wd w i).length=(w.drop i).dropWhile isCh:=by
  have e:w.drop i=wd w i ++ (w.drop i).dropWhile isCh:=(List.takeWhile_append_dropWhile ..).symm
  conv=>lhs;arg 2;rw [e]
  rw [List.drop_left]
 have e3:((w.drop i).dropWhile isCh)[0]?=some c:=by rw [← e2,List.getElem?_drop,Nat.add_zero];exact e1
 cases hd:(w.drop i).dropWhile isCh with
 | nil=>rw [hd] at e3;cases e3
 | cons a r =>
  rw [hd] at e3
  cases e3
  have:=List.head_dropWhile_not (p:=isCh) (l:=w.drop i) (by rw [hd];simp)
  simpa [hd] using this
end
theorem GA (l:List Nat)(a:Nat):(l.take (a + 1)).drop a=l[a]?.toList:=by
 rw [List.take_add_one,List.drop_append]
 cases h:l[a]? with
 | none =>
  have:=List.getElem?_eq_none_iff.mp h
  rw [List.drop_eq_nil_of_le (by rw [List.length_take];omega)]
  simp
 | some c =>
  have lt:=(List.getElem?_eq_some_iff.mp h).1
  rw [List.drop_eq_nil_of_le (by rw [List.length_take];omega),List.length_take,Nat.min_eq_left (by omega),Nat.sub_self]
  rfl
theorem yG {z:Str}{a:Nat}:cutS z (some (a:Int)) (some ((a:Int) + 1))=⟨(z.cps.toList[a]?).toList.toArray⟩:=by
 have e:((a:Int) + 1)=((a + 1:Nat):Int):=by omega
 apply Str.ext'
 apply Array.toList_inj.mp
 rw [e,vM,GA,List.toList_toArray]
theorem jH {o:Option Nat}{k:Nat}:(⟨o.toList.toArray⟩:Str)=⟨#[k]⟩ ↔ o=some k:=by
 cases o with
 | none=>simp
 | some c=>simp
mutual
theorem CZ {H H':Hp}(ts:bE H H'):∀ {d:D} {v:V},Pd d->cD H d v->cD H' d v
 | .str _,_,_,h=>h
 | .non,_,_,h=>h
 | .tup (.str n :: ds),v,p,⟨a,vs,h1,h2,v1,r,e,h3,h4⟩=>by
  unfold Pd at p
  exact ⟨a,vs,h1,ts a vs h2,v1,r,e,h3,uW ts p.2 h4⟩
 | .bl _,_,p,_ | .int _,_,p,_ | .tup [],_,p,_ | .lst _,_,p,_ | .tup (.non :: _),_,p,_ | .tup (.bl _ :: _),_,p,_ | .tup (.int _ :: _),_,p,_ | .tup (.tup _ :: _),_,p,_ | .tup (.lst _ :: _),_,p,_=>by unfold Pd at p;exact absurd p id
theorem uW {H H':Hp}(ts:bE H H'):∀ {ds:List D} {vs:List V},Pds ds->Reps H ds vs->Reps H' ds vs
 | [],_,_,h=>h
 | _ :: _,_,⟨p,q⟩,⟨v,r,e,h1,h2⟩=>⟨v,r,e,CZ ts p h1,uW ts q h2⟩
end
theorem pT {d:D}(h:Pd d):∀ {ds:List D},Pds ds->Pds (ds ++ [d])
 | [],_=>⟨h,trivial⟩
 | _ :: _,⟨a,b⟩=>⟨a,pT h b⟩
mutual
theorem iL {w:List Nat}:∀ {i e:Nat} {d:D},hX w i d e->i<=e
 | _,_,_,.word _=>by omega
 | _,_,_,.open_ _ r=>by have:=wX r;omega
theorem wX {w:List Nat}:∀ {row:List D} {i e:Nat} {d:D},Row w row i d e->i<=e
 | _,_,_,_,.more a _ r=>by have:=iL a;have:=wX r;omega
 | _,_,_,_,.last a _=>by have:=iL a;omega
 | _,_,_,_,.bad a _ _=>by have:=iL a;omega
end
theorem mE {w:List Nat}{a b:Nat}(h:a<=b):opn40 (w.drop b)<=opn40 (w.drop a):=by
 unfold opn40
 have:w.drop b=(w.drop a).drop (b - a):=by rw [List.drop_drop];congr 1;omega
 rw [this]
 exact (List.drop_sublist _ _).count_le _
theorem uY {w:List Nat}{a b:Nat}(h:w[a]?=some 40)(ab:a < b):opn40 (w.drop b) < opn40 (w.drop a):=by
 have h1:=mE (w:=w) (show a + 1<=b from ab)
 have h2:opn40 (w.drop a)=opn40 (w.drop (a + 1)) + 1:=by
  unfold opn40
  rw [pC h,List.count_cons_self]
 omega
noncomputable def L6 (z:Str)(i:Nat)(l:Addr)(e0:Nat)(wo:Str)(H:Hp)(σ:St)(H':Hp):Prop:=∃ (e:Nat) (sg:Str) (ds:List D) (vs:List V) (o5:Option V),σ=[some (.str z),some (.int i),some (.int e),some (.ref l),some (.str sg),o5]/\aJ H H'/\H' l=some (.lst (.str wo :: vs))/\Reps (del H' l) ds vs/\Pds ds/\e0<=e /\
 ((sg=⟨#[44]⟩/\e < z.cps.toList.length/\ds.length<=e/\∀ d e',Row z.cps.toList (.str wo :: ds) e d e'->Row z.cps.toList [.str wo] e0 d e') ∨
  (sg=⟨(z.cps.toList[e]?).toList.toArray⟩/\z.cps.toList[e]?≠some 44/\ds.length<=801/\∃ ds0 p e1,ds=ds0 ++ [p]/\hX z.cps.toList (e1 + 1) p e/\∀ d e',Row z.cps.toList (.str wo :: ds0) e1 d e'->Row z.cps.toList [.str wo] e0 d e'))
noncomputable def nF (n:Nat):Sp:=fun vs H Q _=>∃ (z:Str) (i:Nat),vs=[.str z,.int i]/\mY z/\z.cps.size<=800/\i<=900/\opn40 (z.cps.toList.drop i)<=n/\∀ (t:Addr) (d:D) (v:V) (e:Nat) (H':Hp),aJ H H'->H' t=some (.tup [v,.int e])->cD H' d v->Pd d->hX z.cps.toList i d e->Q (.ref t) H'
theorem GG {f:Addr}{fd:FuncData}(n:Nat)(F:gN K "_law_part" "_law_part" dB f fd)(T:Txt mg)(O__law_part:dQ P w K mg base bP (n + 1) "_law_part" (fun vs H Q E=>∃ m,m < n/\nF m vs H Q E)):cF P w K mg base bP (n + 2) f fd fJ (nF n):=by
 refine F.ok dS (fun vs H Q E h=>?_) (fun cdv A outer s H vs Q E hr h=>?_)
 ·obtain ⟨z,i,rfl,_⟩:=h
  rfl
 ·obtain ⟨z,i,rfl,hz,z8,i9,hn,q⟩:=h
  have hu:=hr.units
  refine ⟨_,(aC (aP (i:=2) dS.nd rfl (Or.inl rfl) (pv 1))
   (aC (lZ PassesOwn.never (PW.pt (tD (aS (jM hu) (pv 2) (aK bH rfl T.n_len rfl (aA (pv 0) aB)) (nomark _)) (oY (aS gU (bM dF (pv 0) (pv 2) (fun _ _=>rfl)) bA (by with_unfolding_all rfl))))) (aH (aP (i:=2) dS.nd rfl (Or.inl rfl) (bB aY (pv 2) aF))))
   (aC (bU (aS (kD hu) (bT eP (pv 0) (bK (pv 2)) (bK (bB aY (pv 2) aF))) bA (nomark _)) (aH (aR (eB (aA (bT eP (pv 0) (bK (pv 1)) (bK (pv 2))) (aA (pv 2) aB))))) aX)
   (aC (aP (i:=3) dS.nd rfl (Or.inl rfl) (cJ (aA (bT eP (pv 0) (bK (pv 1)) (bK (pv 2))) aB)))
   (aC (aP (i:=4) dS.nd rfl (Or.inl rfl) bA)
   (aC (lZ PassesOwn.never (aS (eI hu) (pv 4) bA (nomark _)) (aC (nK (aO O__law_part (hr.mono (by omega)) pass0 rfl (aA (pv 0) (aA (bB aY (pv 2) aF) aB))) (dD K rfl (i:=5) (j:=2) rfl dS.nd rfl rfl rfl rfl))
   (aC (eL (j9 PySem.F.plainAttrs_list PySem.F.slot_list_append PySem.F.type_list_append fE (pv 3) (aA (pv 5) aB)))
   (aH (aP (i:=4) dS.nd rfl (Or.inl rfl) (bT eP (pv 0) (bK (pv 2)) (bK (bB aY (pv 2) aF))))))))
   (aC (bU (aS (kD hu) (pv 4) bA (nomark _)) (aH (eL (j9 PySem.F.plainAttrs_list PySem.F.slot_list_append PySem.F.type_list_append fE (pv 3) (aA jL aB)))) aX)
   (aH (aR (eB (aA (d9 iM rfl T.n_tuple rfl (aA (pv 3) aB)) (aA (bB aY (pv 2) aF) aB)))))))))))),?_⟩
  simp only [oM]
  clear hr F T hu O__law_part
  have keep:=aI q (aI hz (aI z8 (aI i9 hn)))
  clear q hz z8 i9 hn
  walk_at "rd"
  obtain ⟨q,hz,z8,i9,hn⟩:=keep
  have len:z.length=z.cps.toList.length:=by rw [Array.length_toList];rfl
  refine v8 (fun σ' H'=>H'=H/\∃ k:Nat,k<=(wd z.cps.toList i).length/\σ'=[some (.str z),some (.int i),some (.int ((i + k:Nat):Int)),none,none,none]) (fun (σ':St) (_:Hp)=>match σ'[2]? with | some (some (V.int x))=>(2000 - x).toNat | _=>0) ⟨rfl,0,Nat.zero_le _,by simp⟩ ?_
  rintro σ' H' ⟨rfl,k,hk,rfl⟩
  refine ⟨decide (k < (wd z.cps.toList i).length),fun R hR=>?_,fun hb=>?_,fun hb=>?_⟩
  ·have keep:=aI q (aI hz (aI z8 (aI i9 (aI hn (aI len (aI hk hR))))))
   clear q hz z8 i9 hn len hk hR
   walk_at "rd"
   obtain ⟨q,hz,z8,i9,hn,len,hk,hR⟩:=keep
   refine ⟨.int z.length,by rw [jA hz.fits];rfl,_,rfl,?_⟩
   by_cases lt:i + k < z.cps.toList.length
   ·rw [if_pos (by omega)]
    have low:=hz.low (List.getElem_mem lt)
    refine ⟨.str ⟨#[z.cps.toList[i + k]]⟩,by rw [zF hz.fits,zQ (List.getElem?_eq_getElem lt)];rfl,_,rfl,isCh z.cps.toList[i + k],?_,?_⟩
    ·have:=KA low
     unfold inTx at this
     rw [← this,Bool.not_not]
    ·by_cases kl:k < (wd z.cps.toList i).length
     ·obtain ⟨c,hc,ic⟩:=v9 kl
      rw [List.getElem?_eq_getElem lt] at hc
      cases hc
      rw [ic]
      rw [decide_eq_true kl] at hR
      exact hR
     ·have:k=(wd z.cps.toList i).length:=by omega
      subst this
      rw [E9 (List.getElem?_eq_getElem lt)]
      rw [decide_eq_false kl] at hR
      exact hR
   ·rw [if_neg (by omega)]
    have nk:¬ k < (wd z.cps.toList i).length:=fun kl=>by
     obtain ⟨c,hc,_⟩:=v9 kl
     exact lt (List.getElem?_eq_some_iff.mp hc).1
    rw [decide_eq_false nk] at hR
    exact hR
  ·have kl:=of_decide_eq_true hb
   obtain ⟨c,hc,_⟩:=v9 kl
   have:=(List.getElem?_eq_some_iff.mp hc).1
   rw [Array.length_toList] at this
   refine ⟨_,rfl,.inl ⟨_,rfl,⟨rfl,k + 1,by omega,by simp;omega⟩,?_⟩⟩
   show (2000 - (((i + k:Nat):Int) + 1)).toNat < (2000 - ((i + k:Nat):Int)).toNat
   omega
  ·have hk':k=(wd z.cps.toList i).length:=by have:=of_decide_eq_false hb;omega
   subst hk'
   have keep:=aI q (aI hz (aI z8 (aI i9 (aI hn (aI len hb)))))
   clear q hz z8 i9 hn len hb hk
   walk_at "rd"
   obtain ⟨q,hz,z8,i9,hn,len,hb⟩:=keep
   have word:cutS z (some (i:Int)) (some ((i + (wd z.cps.toList i).length:Nat):Int))=⟨(wd z.cps.toList i).toArray⟩:=by
    apply Str.ext'
    apply Array.toList_inj.mp
    rw [vM,List.drop_take,Nat.add_sub_cancel_left,lR z.cps.toList i,List.take_left,List.toList_toArray]
   have aw:mY ⟨(wd z.cps.toList i).toArray⟩:=sN hz (by rw [List.toList_toArray];exact (List.takeWhile_sublist _).trans (List.drop_sublist _ _))
   refine ⟨z,rfl,hz.fits,?_⟩
   dsimp only
   rw [yG,s40,rNeD_ss]
   refine ⟨_,rfl,?_⟩
   by_cases c40:z.cps.toList[i + (wd z.cps.toList i).length]?=some 40
   ·rw [if_neg (by rw [decide_eq_true (jH.mpr c40)];decide)]
    refine ⟨z,rfl,hz.fits,by decide,fun l hl=>?_⟩
    rw [word,s44]
    have lt0:=(List.getElem?_eq_some_iff.mp c40).1
    have l80:z.cps.toList.length<=800:=by rw [Array.length_toList];exact z8
    refine v8 (L6 z i l (i + (wd z.cps.toList i).length) ⟨(wd z.cps.toList i).toArray⟩ H') (fun (σ':St) (_:Hp)=>match σ'[2]?,σ'[4]? with | some (some (V.int x)),some (some (V.str sg))=>if sg=⟨#[44]⟩ then (2000 - x).toNat + 1 else 0 | _,_=>0)
     ⟨_,_,[],[],none,rfl,aJ.upd hl,upd_same,rfl,trivial,Nat.le_refl _,.inl ⟨rfl,lt0,Nat.zero_le _,fun _ _ r=>r⟩⟩ ?_
    rintro σ' H1 ⟨e,sg,ds,vs,o5,rfl,s1,hl1,res,pds,ee,mode⟩
    refine ⟨decide (sg=⟨#[44]⟩),fun R hR=>?_,fun hb=>?_,fun hb=>?_⟩
    ·refine ⟨_,rfl,?_⟩
     dsimp only [tC]
     rw [rEqD_ss]
     exact ⟨_,rfl,hR⟩
    ·have e44:=of_decide_eq_true hb
     obtain ⟨_,le,ld,cont⟩:sg=⟨#[44]⟩/\e < z.cps.toList.length/\ds.length<=e/\∀ d e',Row z.cps.toList (.str ⟨(wd z.cps.toList i).toArray⟩ :: ds) e d e'->Row z.cps.toList [.str ⟨(wd z.cps.toList i).toArray⟩] (i + (wd z.cps.toList i).length) d e':=by
      rcases mode with m | ⟨m1,m2,_⟩
      ·exact m
      ·rw [e44] at m1
       exact absurd (jH.mp m1.symm) m2
     subst e44
     have less:=uY c40 (b:=e + 1) (by omega)
     have more:=mE (w:=z.cps.toList) (show i<=i + (wd z.cps.toList i).length by omega)
     refine ⟨_,rfl,_,rfl,.inl ⟨_,rfl,opn40 (z.cps.toList.drop (e + 1)),by omega,z,e + 1,rfl,hz,z8,by omega,Nat.le_refl _,fun t p v e' H2 s2 ht rp pp pt=>?_⟩⟩
     have ge:=iL pt
     have hl2:=s2 _ _ hl1
     have lv:=Reps.len res
     refine ⟨t,_,rfl,iE.of ht,rfl,_,_,rfl,_,_,rfl,rfl,?_⟩
     refine ⟨_,rfl,tyL hl2,_,rfl,l,_,v,rfl,rfl,hl2,Nat.lt_of_le_of_lt (m:=1000) (by rw [List.length_cons];omega) (by decide),?_⟩
     refine ⟨_,rfl,_,rfl,_,rfl,_,rfl,.inl ⟨_,rfl,_,rfl,z,rfl,hz.fits,?_⟩⟩
     dsimp only
     rw [yG]
     have s3:aJ H' (upd H2 l (.lst (.str ⟨(wd z.cps.toList i).toArray⟩ :: vs ++ [v]))):=fun b o hb'=>by rw [aE (aG hb' hl)];exact (s1.trans s2) _ _ hb'
     have td:bE H2 (del H2 l):=fun b xs hb'=>jB hb' fun z=>by rw [z,hl2] at hb';cases hb'
     have res3:Reps (del (upd H2 l (.lst (.str ⟨(wd z.cps.toList i).toArray⟩ :: vs ++ [v]))) l) (ds ++ [p]) (vs ++ [v]):=by
      rw [mP]
      exact Reps.snoc (CZ td pp rp) (Reps.same (jC s2) res)
     refine ⟨⟨e',_,ds ++ [p],vs ++ [v],_,rfl,s3,by rw [upd_same];rfl,res3,pT pp pds,by omega,?_⟩,?_⟩
     ·by_cases c44:z.cps.toList[e']?=some 44
      ·refine .inl ⟨jH.mpr c44,(List.getElem?_eq_some_iff.mp c44).1,by rw [List.length_append,List.length_singleton];omega,fun d e'' r=>cont d e'' (.more pt c44 r)⟩
      ·refine .inr ⟨rfl,c44,by rw [List.length_append,List.length_singleton];omega,ds,p,e,rfl,pt,cont⟩
     ·show (if (⟨(z.cps.toList[e']?).toList.toArray⟩:Str)=⟨#[44]⟩ then (2000 - (e':Int)).toNat + 1 else 0) < (if (⟨#[44]⟩:Str)=⟨#[44]⟩ then (2000 - (e:Int)).toNat + 1 else 0)
      rw [if_pos rfl]
      split
      ·next c =>
       have:=(List.getElem?_eq_some_iff.mp (jH.mp c)).1
       omega
      ·omega
    ·have n44:=of_decide_eq_false hb
     obtain ⟨m1,m2,l801,ds0,p,e1,rfl,pt,cont⟩:=mode.resolve_left fun m=>n44 m.1
     subst m1
     have fin:∀ (H5:Hp) (vs5:List V) (ds5:List D),aJ H' H5->H5 l=some (.lst (.str ⟨(wd z.cps.toList i).toArray⟩ :: vs5))->Reps (del H5 l) ds5 vs5->Pds ds5->Row z.cps.toList [.str ⟨(wd z.cps.toList i).toArray⟩] (i + (wd z.cps.toList i).length) (.tup (.str ⟨(wd z.cps.toList i).toArray⟩ :: ds5)) (e + 1) ->
       tRet (tTup (tCons (tCB rTupU (tCons (tVar 3) tNil)) (tCons (tOp rAddF (tVar 2) (tC (V.int 1))) tNil))) { nx:=fun x H'=>Q V.non H',rt:=Q } [some (V.str z),some (V.int i),some (V.int e),some (V.ref l),some (V.str ⟨(z.cps.toList[e]?).toList.toArray⟩),o5] H5:=by
      intro H5 vs5 ds5 s5 h5 res5 pds5 row5
      refine ⟨_,rfl,l,_,rfl,.inl h5,fun tp H6 hc=>?_⟩
      rcases hc with ⟨z',_⟩ | ⟨_,ht,rfl⟩
      ·rw [h5] at z';cases z'
      refine ⟨_,rfl,.inl ⟨_,rfl,(show 2<=sizeLine by decide),fun t ht2=>?_⟩⟩
      have s6:aJ H5 (upd (upd H5 tp (.tup (.str ⟨(wd z.cps.toList i).toArray⟩ :: vs5))) t (.tup [.ref tp,.int ((e:Int) + 1)])):=(aJ.upd ht).trans (aJ.upd ht2)
      have t6:upd (upd H5 tp (.tup (.str ⟨(wd z.cps.toList i).toArray⟩ :: vs5))) t (.tup [.ref tp,.int ((e:Int) + 1)]) tp=some (.tup (.str ⟨(wd z.cps.toList i).toArray⟩ :: vs5)):=by rw [aE (aG upd_same ht2)];exact upd_same
      exact q t (.tup (.str ⟨(wd z.cps.toList i).toArray⟩ :: ds5)) (.ref tp) (e + 1) _ (s5.trans s6) upd_same ⟨tp,_,rfl,t6,_,_,rfl,rfl,Reps.same (fun b o hb'=>s6 _ _ (gO hb').1) res5⟩ (by unfold Pd;exact ⟨aw,pds5⟩) (.open_ c40 row5)
     refine ⟨_,rfl,?_⟩
     dsimp only [tC]
     rw [s41,rNeD_ss]
     refine ⟨_,rfl,?_⟩
     by_cases c41:z.cps.toList[e]?=some 41
     ·rw [if_neg (by rw [decide_eq_true (jH.mpr c41)];decide)]
      exact fin H1 vs _ s1 hl1 res pds (cont _ _ (.last pt c41))
     ·rw [if_pos (by rw [decide_eq_false fun z=>c41 (jH.mp z)];rfl)]
      have lv:=Reps.len res
      refine ⟨_,rfl,tyL hl1,l,_,.non,rfl,rfl,hl1,Nat.lt_of_le_of_lt (m:=1000) (by rw [List.length_cons];omega) (by decide),?_⟩
      refine fin _ (vs ++ [.non]) (ds0 ++ [p] ++ [.non]) (fun b o hb'=>by rw [aE (aG hb' hl)];exact s1 _ _ hb') (by rw [upd_same];rfl) ?_ (pT (by unfold Pd;trivial) pds) (cont _ _ (.bad pt m2 c41))
      rw [mP]
      exact Reps.snoc (d:=.non) (v:=.non) rfl res
   ·rw [if_pos (by rw [decide_eq_false fun z=>c40 (jH.mp z)];rfl)]
    refine ⟨z,rfl,hz.fits,by decide,fun t ht=>?_⟩
    rw [word]
    exact q t (.str ⟨(wd z.cps.toList i).toArray⟩) _ _ _ (aJ.upd ht) upd_same rfl (by unfold Pd;exact aw) (.word c40)
theorem GZ {f:Addr}{fd:FuncData}(F:gN K "_law_part" "_law_part" dB f fd)(T:Txt mg)(hm:mg "_law_part" = some (.ref f))(hk:PySem.W.keepIn K (.ref f)=true)(hb:fK K fd fJ []):∀ n,cF P w K mg base bP (n + 2) f fd fJ (nF n):=by
 intro n
 induction n using Nat.strongRecOn with
 | ind n ih =>
  exact GG n F T ⟨f,fd,_,⟨fun vs H Q E ⟨m,h1,h⟩=>(ih m h1).len vs H Q E h,fun A outer s H args us vs Q E hr he hb hv ⟨m,h1,h⟩=>((ih m h1).mono (by omega)).run A outer s H args us vs Q E hr he hb hv h⟩,hm,hk,hb⟩
theorem DC {f:Addr}{fd:FuncData}(F:gN K "_law_part" "_law_part" dB f fd)(T:Txt mg)(hm:mg "_law_part" = some (.ref f))(hk:PySem.W.keepIn K (.ref f)=true)(hb:fK K fd fJ [])(n:Nat):dQ P w K mg base bP (n + 2) "_law_part" (nF n):=⟨f,fd,_,GZ F T hm hk hb n,hm,hk,hb⟩
end
section
variable {P:Program}{w:World}{K:PySem.W.Frag}{mg:eJ}{base:Heap}
structure HF (z z':Str):Prop where
 low:∀ c ∈ z'.cps.toList,c < 128
 len:z'.cps.toList.length<=z.cps.toList.length + 9
 opn:opn40 z'.cps.toList<=opn40 z.cps.toList + 9
noncomputable def wQ:Sp:=fun vs H Q _=>∃ (p t o:Addr) (fx:cL) (sm:cQ) (os:aW) (z:Str),vs=[.ref p,.ref t,.ref o,.str z]/\lK p t o fx sm os H/\2<=os.length/\(∀ x ∈ os,cC x)/\mY z/\z.cps.size<=800 /\
 ∀ (z':Str) (H':Hp),dL p H H'->bD H' p->HF z z'->Q (.str z') H'
noncomputable def dnS:Stmt:=(aM cI).getD 4 (.Pass ⟨0,0,0,0⟩)
noncomputable def dnE:iW:=match dnS with
 | .Assign _ (.List es _) _=>es
 | _=>[]
theorem EF:aM cI=(aM cI).take 4 ++ dnS :: (aM cI).drop 5:=by kernel_rfl
theorem G2:∃ p1 p2 p3,dnS = .Assign [.Name "_law_signs_here" p1] (.List dnE p2) p3:=⟨_,_,_,rfl⟩
theorem apart {X:Cx}{l a b:List Stmt}{s:Stmt}{es:iW}{p1 p2 p3:Pos}{x:Str}{i:Nat}{tE:TA}{W:TS->Prop}(hl:l=a ++ s :: b)(hs:s = .Assign [.Name x p1] (.List es p2) p3)(hE:uC X es tE)(hN:X.N.Nodup)(hi:X.N[i]?=some x)(hx:KN X.env.scope x)(hf:X.fn x=true∨X.env.scope.names.lookup x=some .local)
  (h:∀ sD,PS X sD (tAsg (tLst tE) (gName i))->∃ t,oH X (a ++ sD :: b) t/\W t):∃ t,oH X l t/\W t:=by
 subst hl hs
 exact h _ (aP hN hi hx (cJ hE.h) zZ hf)
theorem iQ {c:Bool}{a b:Prop}(h1:c=true->a)(h2:c=false->b):(if c=true then a else b):=by
 cases c
 ·exact h2 rfl
 ·exact h1 rfl
noncomputable def zS (x:Str):Prop:=(∀ c ∈ x.cps.toList,c < 128)/\x.cps.toList.length<=9
theorem mG {z z':Str}{a e d:Nat}{s:List Nat}(hz:∀ c ∈ z.cps.toList,c < 128)(e9:e + s.length<=9)(hs:∀ c ∈ s,c < 128)(h:z'.cps.toList=z.cps.toList.take (a + e) ++ s ++ z.cps.toList.drop (a + d)):HF z z':=by
 have c1:opn40 (z.cps.toList.take (a + e))<=opn40 (z.cps.toList.take a) + e:=by
  unfold opn40
  rw [List.take_add,List.count_append]
  have h1:=List.count_le_length (a:=40) (l:=(z.cps.toList.drop a).take e)
  have h2:=List.length_take_le e (z.cps.toList.drop a)
  omega
 have c2:opn40 (z.cps.toList.drop (a + d))<=opn40 (z.cps.toList.drop a):=by
  unfold opn40
  rw [← List.drop_drop]
  exact (List.drop_sublist d _).count_le 40
 have c3:opn40 z.cps.toList=opn40 (z.cps.toList.take a) + opn40 (z.cps.toList.drop a):=by
  unfold opn40
  rw [← List.count_append,List.take_append_drop]
 have c4:opn40 s<=s.length:=List.count_le_length
 refine ⟨?_,?_,?_⟩
 ·rw [h]
  intro c hc
  exact (List.mem_append.mp hc).elim (fun l=>(List.mem_append.mp l).elim (fun t=>hz _ (List.mem_of_mem_take t)) (hs _)) (fun r=>hz _ (List.mem_of_mem_drop r))
 ·rw [h,List.length_append,List.length_append,List.length_take,List.length_drop]
  omega
 ·rw [h]
  have:opn40 (z.cps.toList.take (a + e) ++ s ++ z.cps.toList.drop (a + d))=opn40 (z.cps.toList.take (a + e)) + opn40 s + opn40 (z.cps.toList.drop (a + d)):=by
   unfold opn40
   rw [List.count_append,List.count_append]
  omega
theorem hV {x y:Str}:(x ++ y).cps.toList=x.cps.toList ++ y.cps.toList:=Array.toList_append
theorem G6 {z:Str}{lo hi:Option Int}:(cutS z lo hi).length<=z.length:=by
 have e:z.length=z.cps.toList.length:=by rw [Array.length_toList];rfl
 unfold cutS
 show Array.size (List.toArray _)<=_
 rw [List.size_toArray,List.length_take,List.length_drop]
 omega
theorem rP {z:Str}{k:Nat}:(cutS z (some ((k:Int) + 1)) none).cps.toList=z.cps.toList.drop (k + 1):=jD (a:=k + 1)
theorem A5 {z:Str}{k e:Nat}:(cutS z (some ((k:Int) + e)) none).cps.toList=z.cps.toList.drop (k + e):=jD (a:=k + e)
theorem G5 {z:Str}{k e:Nat}:(cutS z none (some ((k:Int) + e))).cps.toList=z.cps.toList.take (k + e):=kX (b:=k + e)
theorem zR {x y:Str}:(x ++ y).length=x.length + y.length:=Array.size_append
theorem hW {x y:Str}(h:x.length + y.length<=sizeLine):addV (.str x) (.str y)=some (.str (x ++ y)):=if_pos h
theorem FC {H:Hp}{fx:cL}{sm:cQ}{fv sv:List V}{i:Nat}{v:V}(h4:dJ H fx fv)(h5:eY H sm sv)(hs:bC fx sm)(hi:(fv ++ sv)[i]?=some v):∃ q x y,v = .ref q/\H q=some (.tup [.str x,y])/\iA x:=by
 rcases Nat.lt_or_ge i fv.length with lt | ge
 ·rw [List.getElem?_append_left lt] at hi
  obtain ⟨r,q,g,rfl,hq⟩:=h4.get hi
  exact ⟨q,_,_,rfl,hq,hs.nm _ (List.mem_append.mpr (.inl (List.mem_map.mpr ⟨r,List.mem_of_getElem? g,rfl⟩)))⟩
 ·rw [List.getElem?_append_right ge] at hi
  obtain ⟨r,q,g,rfl,hq⟩:=h5.get hi
  exact ⟨q,_,_,rfl,hq,hs.nm _ (List.mem_append.mpr (.inr (List.mem_map.mpr ⟨r,List.mem_of_getElem? g,rfl⟩)))⟩
theorem wS {x:Str}(h:iA x):zS x:=⟨fun c hc=>by have:=h.2.2 c hc;omega,by have:=h.2.1;omega⟩
theorem pN {x:Str}(h:cC x):zS x:=by
 obtain ⟨l,rfl,l1,l8,hc⟩:=h
 refine ⟨fun c h=>?_,by rw [List.toList_toArray,List.length_cons];omega⟩
 rw [List.toList_toArray] at h
 rcases List.mem_cons.mp h with rfl | inl
 ·decide
 ·have:=hc c inl
  unfold isWd at this
  omega
noncomputable def dnT:aW:=["(",")",",","?","a","z","0","9","A"," ","_","\n","-","()",",,"]
theorem B8:∀ x ∈ dnT,zS x:=by
 have:(dnT.all fun x=>x.cps.toList.all (fun c=>decide (c < 128)) && decide (x.cps.toList.length<=9))=true:=by decide +kernel
 intro x hx
 have:=List.all_eq_true.mp this x hx
 rw [Bool.and_eq_true,List.all_eq_true] at this
 exact ⟨fun c hc=>of_decide_eq_true (this.1 c hc),of_decide_eq_true this.2⟩
theorem GL {f:Addr}{fd:FuncData}(F:gN K "_law_done" "_law_done" cI f fd)(T:Txt mg)(O__law_take:dQ P w K mg base bP 1 "_law_take" fL):cF P w K mg base bP 2 f fd kM wQ:=by
 refine F.ok dU (fun vs H Q E h=>?_) (fun cdv A outer s H vs Q E hr h=>?_)
 ·obtain ⟨p,t,o,fx,sm,os,z,rfl,_⟩:=h
  rfl
 ·obtain ⟨p,t,o,fx,sm,os,z,rfl,hin,h2,ho,hz,z8,q⟩:=h
  have hu:=hr.units
  obtain ⟨p1,p2,p3,hs⟩:=G2
  refine apart (i:=8) EF hs (fS bA (fS bA (fS bA (fS bA (fS bA (fS bA (fS bA (fS bA (fS bA (fS bA (fS bA (fS bA (fS bA (fS bA (fS bA (C9 (pv 7) (yS (bM dF (pv 2) aF (fun _ _=>rfl)) (yS (bM dF (pv 2) aF (fun _ _=>rfl)) yT)))))))))))))))))) dU.nd rfl (Or.inl rfl) (.inl rfl) (fun sD hD=>?_)
  refine ⟨_,(aC (aP (i:=4) dU.nd rfl (Or.inl rfl) (aO O__law_take (hr.mono (by decide)) pass0 rfl (aA (pv 0) (aA aF aB))))
   (aC (aP (i:=5) dU.nd rfl (Or.inl rfl) (aO O__law_take (hr.mono (by decide)) pass0 rfl (aA (pv 0) (aA (bB aY (aK bH rfl T.n_len rfl (aA (pv 3) aB)) aF) aB))))
   (aC (aP (i:=6) dU.nd rfl (Or.inl rfl) (bB aY (pv 5) (aO O__law_take (hr.mono (by decide)) pass0 rfl (aA (pv 0) (aA aF aB)))))
   (aC (aP (i:=7) dU.nd rfl (Or.inl rfl) (bM dF (bM dF (bB aY (bM dF (pv 1) aF (fun _ _=>rfl)) (bM dF (pv 1) aF (fun _ _=>rfl))) (aO O__law_take (hr.mono (by decide)) pass0 rfl (aA (pv 0) (aA (aK bH rfl T.n_len rfl (aA (bB aY (bM dF (pv 1) aF (fun _ _=>rfl)) (bM dF (pv 1) aF (fun _ _=>rfl))) aB)) aB))) (fun _ _=>rfl)) aF (fun _ _=>rfl)))
   (aC hD
   (aC (aP (i:=9) dU.nd rfl (Or.inl rfl) (bM dF (pv 8) (aO O__law_take (hr.mono (by decide)) pass0 rfl (aA (pv 0) (aA (aK bH rfl T.n_len rfl (aA (pv 8) aB)) aB))) (fun _ _=>rfl)))
   (aC (bU (aS (jM hu) (pv 4) aF (nomark _)) (aH (aR (bB aY (bT eP (pv 3) cX (bK (pv 5))) (bT eP (pv 3) (bK (bB aY (pv 5) aF)) cX)))) aX)
   (aC (bU (aS (jM hu) (pv 4) aF (nomark _)) (aH (aR (bB aY (bB aY (bT eP (pv 3) cX (bK (pv 5))) (pv 9)) (bT eP (pv 3) (bK (pv 5)) cX)))) aX)
   (aC (bU (aS (eI hu) (pv 4) aF (nomark _)) (aH (aR (bB aY (bB aY (bT eP (pv 3) cX (bK (pv 5))) (pv 9)) (bT eP (pv 3) (bK (bB aY (pv 5) aF)) cX)))) aX)
   (aC (bU (aS (eI hu) (pv 4) aF (nomark _)) (aH (aR (bB aY (bT eP (pv 3) cX (bK (pv 6))) (bT eP (pv 3) (bK (pv 5)) cX)))) aX)
   (aH (aR (bB aY (bT eP (pv 3) cX (bK (pv 5))) (bT eP (pv 3) (bK (pv 6)) cX)))))))))))))),?_⟩
  clear hr F T hu O__law_take hs hD
  obtain ⟨hp,told,own,sg,o1,o10⟩:=hin
  refine ⟨_,rfl,p,7,rfl,hp,by decide,by decide,fun way x1 y1 w0 w7=>?_⟩
  have b1:dL p H (upd H p (.lst [.int x1,.int y1])):=dL.upd p H _
  have i1:bD (upd H p (.lst [.int x1,.int y1])) p:=⟨_,_,upd_same⟩
  generalize upd H p (.lst [.int x1,.int y1])=H1 at b1 i1 ⊢
  have zl:z.length=z.cps.size:=rfl
  refine ⟨_,rfl,_,rfl,.str z,.int z.length,rfl,by dsimp only;rw [jA hz.fits];rfl,Or.inl ⟨.int ((z.length:Int) + 1),rfl,p,(z.length:Int) + 1,rfl,i1,by omega,by omega,fun at_ x2 y2 a0 a1=>?_⟩⟩
  have b2:dL p H (upd H1 p (.lst [.int x2,.int y2])):=b1.trans (dL.upd p H1 _)
  have i2:bD (upd H1 p (.lst [.int x2,.int y2])) p:=⟨_,_,upd_same⟩
  generalize upd H1 p (.lst [.int x2,.int y2])=H2 at b2 i2 ⊢
  refine ⟨_,rfl,_,rfl,p,9,rfl,i2,by decide,by decide,fun en x3 y3 e0 e9=>Or.inl ⟨_,rfl,?_⟩⟩
  have b3:dL p H (upd H2 p (.lst [.int x3,.int y3])):=b2.trans (dL.upd p H2 _)
  have i3:bD (upd H2 p (.lst [.int x3,.int y3])) p:=⟨_,_,upd_same⟩
  generalize upd H2 p (.lst [.int x3,.int y3])=H3 at b3 i3 ⊢
  obtain ⟨k,rfl⟩:=Int.eq_ofNat_of_zero_le a0
  obtain ⟨e,rfl⟩:=Int.eq_ofNat_of_zero_le e0
  obtain ⟨ta,tb,fv,sv,t1,t2,t3,t4,t5,t6,t7⟩:=told.but b3 hp
  have fl:=t4.len
  have sl:=t5.len
  have f1:=sg.f1
  have f2:=sg.f2
  have s2:=sg.s2
  have big:(100000:Nat)<=sizeLine:=by decide
  refine ⟨_,rfl,.ref ta,by rw [ixV_t t1];rfl,_,rfl,.ref tb,by rw [ixV_t t1];rfl,Or.inr ⟨_,mQ t2 t3 (by omega),fun q1 hq1=>?_⟩⟩
  have s4:aJ H3 (upd H3 q1 (.lst (fv ++ sv))):=aJ.upd hq1
  have g4:upd H3 q1 (.lst (fv ++ sv)) q1=some (.lst (fv ++ sv)):=upd_same
  have n4:p≠q1:=i3.ne hq1
  have i4:bD (upd H3 q1 (.lst (fv ++ sv))) p:=i3.but n4
  generalize upd H3 q1 (.lst (fv ++ sv))=H4 at s4 g4 i4 ⊢
  refine ⟨_,rfl,_,rfl,.ref ta,by rw [ixV_t (s4 _ _ t1)];rfl,_,rfl,.ref tb,by rw [ixV_t (s4 _ _ t1)];rfl,Or.inr ⟨_,mQ (s4 _ _ t2) (s4 _ _ t3) (by omega),fun q2 hq2=>?_⟩⟩
  have s5:aJ H4 (upd H4 q2 (.lst (fv ++ sv))):=aJ.upd hq2
  have g5:upd H4 q2 (.lst (fv ++ sv)) q2=some (.lst (fv ++ sv)):=upd_same
  have i5:bD (upd H4 q2 (.lst (fv ++ sv))) p:=i4.but (i4.ne hq2)
  generalize upd H4 q2 (.lst (fv ++ sv))=H5 at s5 g5 i5 ⊢
  have ll:(fv ++ sv).length=fv.length + sv.length:=List.length_append
  refine ⟨.ref q2,.int ((fv ++ sv).length:Nat),rfl,by dsimp only;rw [lenV_l g5];rfl,p,((fv ++ sv).length:Nat),rfl,i5,by omega,by omega,fun ix x6 y6 j0 j1=>?_⟩
  have b6:dL p H5 (upd H5 p (.lst [.int x6,.int y6])):=dL.upd p H5 _
  have i6:bD (upd H5 p (.lst [.int x6,.int y6])) p:=⟨_,_,upd_same⟩
  generalize upd H5 p (.lst [.int x6,.int y6])=H6 at b6 i6 ⊢
  obtain ⟨j,rfl⟩:=Int.eq_ofNat_of_zero_le j0
  have jl:j < (fv ++ sv).length:=by omega
  obtain ⟨qq,nm,y,hv,hq,hnm⟩:=FC t4 t5 sg (List.getElem?_eq_getElem jl)
  have b36:dL p H3 H6:=fun b o n h=>b6 b o n (s5 _ _ (s4 _ _ h))
  have qp:qq≠p:=fun z=>by obtain ⟨x,y,e⟩:=i3;rw [z,e] at hq;cases hq
  have hq6:=b36 _ _ qp hq
  refine ⟨.ref qq,by rw [ixV_l (b6 _ _ n4.symm (s5 _ _ g4)),iR (Int.ofNat_nonneg j) (by omega),← hv];exact List.getElem?_eq_getElem jl,.str nm,by rw [ixV_t hq6];rfl,?_⟩
  obtain ⟨w1,w2⟩:=own.but (b3.trans b36)
  obtain ⟨u0,u1,ur,rfl⟩:∃ u0 u1 ur,os=u0 :: u1 :: ur:=by
   rcases os with _ | ⟨u0,_ | ⟨u1,ur⟩⟩
   ·exact absurd h2 (by decide)
   ·simp only [List.length_cons,List.length_nil] at h2;omega
   ·exact ⟨_,_,_,rfl⟩
  refine ⟨_,rfl,_,rfl,.str u0,by rw [ixV_l w1];exact atI_zero,_,rfl,.str u1,by rw [ixV_l w1];exact atI_one,(show 18<=sizeLine by decide),fun q3 hq3=>?_⟩
  have s7:aJ H6 (upd H6 q3 (.lst [.str "(",.str ")",.str ",",.str "?",.str "a",.str "z",.str "0",.str "9",.str "A",.str " ",.str "_",.str "\n",.str "-",.str "()",.str ",,",.str nm,.str u0,.str u1])):=aJ.upd hq3
  have g7:upd H6 q3 (.lst [.str "(",.str ")",.str ",",.str "?",.str "a",.str "z",.str "0",.str "9",.str "A",.str " ",.str "_",.str "\n",.str "-",.str "()",.str ",,",.str nm,.str u0,.str u1]) q3=some (.lst (dnT.map V.str ++ [.str nm,.str u0,.str u1])):=upd_same
  have i7:bD (upd H6 q3 (.lst [.str "(",.str ")",.str ",",.str "?",.str "a",.str "z",.str "0",.str "9",.str "A",.str " ",.str "_",.str "\n",.str "-",.str "()",.str ",,",.str nm,.str u0,.str u1])) p:=i6.but (i6.ne hq3)
  have n7:q3≠p:=(i6.ne hq3).symm
  generalize upd H6 q3 (.lst [.str "(",.str ")",.str ",",.str "?",.str "a",.str "z",.str "0",.str "9",.str "A",.str " ",.str "_",.str "\n",.str "-",.str "()",.str ",,",.str nm,.str u0,.str u1])=H7 at s7 g7 i7 ⊢
  have L18:(dnT.map V.str ++ [V.str nm,.str u0,.str u1]).length=18:=rfl
  have hL:∀ v ∈ dnT.map V.str ++ [V.str nm,.str u0,.str u1],∃ x,v = .str x/\zS x:=by
   intro v hv
   rcases List.mem_append.mp hv with hv | hv
   ·obtain ⟨x,hx,rfl⟩:=List.mem_map.mp hv
    exact ⟨x,rfl,B8 x hx⟩
   ·simp only [List.mem_cons,List.not_mem_nil,or_false] at hv
    rcases hv with rfl | rfl | rfl
    ·exact ⟨_,rfl,wS hnm⟩
    ·exact ⟨_,rfl,pN (ho _ List.mem_cons_self)⟩
    ·exact ⟨_,rfl,pN (ho _ (List.mem_cons_of_mem _ List.mem_cons_self))⟩
  generalize dnT.map V.str ++ [V.str nm,.str u0,.str u1]=L at g7 L18 hL
  refine ⟨_,rfl,_,rfl,_,rfl,.ref q3,.int 18,rfl,by dsimp only;rw [lenV_l g7,L18];rfl,p,18,rfl,i7,by decide,by decide,fun m x8 y8 m0 m1=>?_⟩
  have b8:dL p H (upd H7 p (.lst [.int x8,.int y8])):=fun b o n h=>dL.upd p H7 _ b o n (s7 _ _ (b36 b o n (b3 b o n h)))
  have i8:bD (upd H7 p (.lst [.int x8,.int y8])) p:=⟨_,_,upd_same⟩
  have g8:=dL.upd p H7 (.lst [.int x8,.int y8]) _ _ n7 g7
  generalize upd H7 p (.lst [.int x8,.int y8])=H8 at b8 i8 g8 ⊢
  obtain ⟨m,rfl⟩:=Int.eq_ofNat_of_zero_le m0
  have ml:m < L.length:=by omega
  obtain ⟨sn,hsn,low,s9⟩:=hL _ (List.getElem_mem ml)
  refine ⟨.str sn,by rw [ixV_l g8,iR (Int.ofNat_nonneg m) (by omega),← hsn];exact List.getElem?_eq_getElem ml,?_⟩
  have fin:∀ z',HF z z'->Q (.str z') H8:=fun z' n=>q z' H8 b8 i8 n
  have zlow:∀ c ∈ z.cps.toList,c < 128:=fun c hc=>by
   have:=Array.all_eq_true_iff_forall_mem.mp hz.1 c (Array.mem_toList_iff.mp hc)
   exact of_decide_eq_true this
  have snl:sn.length=sn.cps.toList.length:=by rw [Array.length_toList];rfl
  have cl:∀ lo hi,(cutS z lo hi).length<=z.length:=fun _ _=>G6
  have nil_:∀ c ∈ ([]:List Nat),c < 128:=fun _ h=>absurd h List.not_mem_nil
  refine ⟨_,rfl,Or.inl (Or.inl ⟨_,_,rfl,rfl,_,rfl,iQ (fun h=>?_) (fun h=>?_)⟩)⟩
  ·exact ⟨_,rfl,_,rfl,_,rfl,z,rfl,hz.fits,_,rfl,_,rfl,Or.inl ⟨_,rfl,_,rfl,z,rfl,hz.fits,Or.inl ⟨_,hW (by have:=cl none (some (k:Int));have:=cl (some ((k:Int) + 1)) none;omega),
    fin _ (mG (a:=k) (e:=0) (d:=1) (s:=[]) zlow (by decide) nil_ (by rw [hV,kX,rP,List.append_nil];rfl))⟩⟩⟩
  refine ⟨_,rfl,Or.inl (Or.inl ⟨_,_,rfl,rfl,_,rfl,iQ (fun h=>?_) (fun h=>?_)⟩)⟩
  ·exact ⟨_,rfl,_,rfl,_,rfl,z,rfl,hz.fits,_,rfl,Or.inl ⟨_,hW (by have:=cl none (some (k:Int));omega),_,rfl,_,rfl,_,rfl,z,rfl,hz.fits,Or.inl ⟨_,hW (by rw [zR];have:=cl none (some (k:Int));have:=cl (some (k:Int)) none;omega),
    fin _ (mG (a:=k) (e:=0) (d:=0) (s:=sn.cps.toList) zlow (by omega) low (by rw [hV,hV,kX,jD];rfl))⟩⟩⟩
  refine ⟨_,rfl,?_⟩
  dsimp only [tC]
  rw [rEqD_ii]
  refine ⟨_,rfl,iQ (fun h=>?_) (fun h=>?_)⟩
  ·exact ⟨_,rfl,_,rfl,_,rfl,z,rfl,hz.fits,_,rfl,Or.inl ⟨_,hW (by have:=cl none (some (k:Int));omega),_,rfl,_,rfl,Or.inl ⟨_,rfl,_,rfl,z,rfl,hz.fits,Or.inl ⟨_,hW (by rw [zR];have:=cl none (some (k:Int));have:=cl (some ((k:Int) + 1)) none;omega),
    fin _ (mG (a:=k) (e:=0) (d:=1) (s:=sn.cps.toList) zlow (by omega) low (by rw [hV,hV,kX,rP];rfl))⟩⟩⟩⟩
  refine ⟨_,rfl,?_⟩
  dsimp only [tC]
  rw [rEqD_ii]
  refine ⟨_,rfl,iQ (fun h=>?_) (fun h=>?_)⟩
  ·exact ⟨_,rfl,_,rfl,_,rfl,z,rfl,hz.fits,_,rfl,_,rfl,_,rfl,z,rfl,hz.fits,Or.inl ⟨_,hW (by have:=cl none (some ((k:Int) + e));have:=cl (some (k:Int)) none;omega),
    fin _ (mG (a:=k) (e:=e) (d:=0) (s:=[]) zlow (by simp only [List.length_nil];omega) nil_ (by rw [hV,G5,jD,List.append_nil];rfl))⟩⟩
  ·exact ⟨_,rfl,_,rfl,_,rfl,z,rfl,hz.fits,_,rfl,_,rfl,_,rfl,z,rfl,hz.fits,Or.inl ⟨_,hW (by have:=cl none (some (k:Int));have:=cl (some ((k:Int) + e)) none;omega),
    fin _ (mG (a:=k) (e:=0) (d:=e) (s:=[]) zlow (by decide) nil_ (by rw [hV,kX,A5,List.append_nil];rfl))⟩⟩
end
section
variable {P:Program}{w:World}{K:PySem.W.Frag}{mg:eJ}{base:Heap}
structure ER (mg:eJ):Prop extends Txt mg where
 n_ValueError:mg "ValueError" = none
structure EY (K:PySem.W.Frag)(CX C0 C1 C3 C4 C5 C6 C7 C8:Addr):Prop where
 cls:lQ K CX=true/\dH K CX=true
 k0:PySem.W.kitOne K (.ref CX) (.ref C0)=some false
 k1:PySem.W.kitOne K (.ref CX) (.ref C1)=some false
 k2:PySem.W.kitOne K (.ref CX) (.ref CX)=some true
 k3:PySem.W.kitOne K (.ref CX) (.ref C3)=some false
 k4:PySem.W.kitOne K (.ref CX) (.ref C4)=some false
 k5:PySem.W.kitOne K (.ref CX) (.ref C5)=some false
 k6:PySem.W.kitOne K (.ref CX) (.ref C6)=some false
 k7:PySem.W.kitOne K (.ref CX) (.ref C7)=some false
 k8:PySem.W.kitOne K (.ref CX) (.ref C8)=some false
 kv:PySem.W.kitOne K (.ref CX) (.type "ValueError")=some true
noncomputable def sX (CX:Addr):Sp:=fun vs H Q _=>∃ e:Addr,vs=[.ref e]/\H e=some (.ext (eQ e CX))/\∀ (l:Addr) (H':Hp),aJ H H'->H' l=some (.lst [.int 2])->Q (.ref l) H'
theorem DS {CX C0 C1 C3 C4 C5 C6 C7 C8 f:Addr}{fd:FuncData}(F:gN K "_law_class" "_law_class" dC f fd)(T:ER mg)(k:EY K CX C0 C1 C3 C4 C5 C6 C7 C8)(g_NoSigns:∃ u,mg "NoSigns" = some u/\aQ (.ref C0) u)(g_NoTerm:∃ u,mg "NoTerm" = some u/\aQ (.ref C1) u)(g_NoText:∃ u,mg "NoText" = some u/\aQ (.ref CX) u)(g_NoFilling:∃ u,mg "NoFilling" = some u/\aQ (.ref C3) u)
  (g_NoStep:∃ u,mg "NoStep" = some u/\aQ (.ref C4) u) (g_NoCounts:∃ u,mg "NoCounts" = some u/\aQ (.ref C5) u) (g_NoRow:∃ u,mg "NoRow" = some u/\aQ (.ref C6) u) (g_NoSide:∃ u,mg "NoSide" = some u/\aQ (.ref C7) u) (g_TooMuch:∃ u,mg "TooMuch" = some u/\aQ (.ref C8) u):E2 P w K mg base bP 1 f fd jV (sX CX):=by
 refine F.okH gD (fun vs H Q E h=>?_) (fun cdv A outer s H vs Q E hr hot h=>?_)
 ·obtain ⟨e,rfl,_⟩:=h
  rfl
 ·obtain ⟨e,rfl,he,q⟩:=h
  have hu:=hr.units
  have hh:A.handled=some (.ref e):=hot e rfl
  refine ⟨_,(aC (aP (i:=1) gD.nd rfl (Or.inr rfl) (cJ (aA (aK (eA K rfl) rfl T.n_isinstance rfl (aA (pv 0) (aA (cK g_NoSigns rfl) aB))) (aA (aK (eA K rfl) rfl T.n_isinstance rfl (aA (pv 0) (aA (cK g_NoTerm rfl) aB))) (aA (aK (eA K rfl) rfl T.n_isinstance rfl (aA (pv 0) (aA (cK g_NoText rfl) aB))) (aA (aK (eA K rfl) rfl T.n_isinstance rfl (aA (pv 0) (aA (cK g_NoFilling rfl) aB))) aB))))))
   (aC (aP (i:=1) gD.nd rfl (Or.inr rfl) (bB aY (pv 1) (cJ (aA (aK (eA K rfl) rfl T.n_isinstance rfl (aA (pv 0) (aA (cK g_NoStep rfl) aB))) (aA (aK (eA K rfl) rfl T.n_isinstance rfl (aA (pv 0) (aA (cK g_NoCounts rfl) aB))) (aA (aK (eA K rfl) rfl T.n_isinstance rfl (aA (pv 0) (aA (cK g_NoRow rfl) aB))) (aA (aK (eA K rfl) rfl T.n_isinstance rfl (aA (pv 0) (aA (cK g_NoSide rfl) aB))) aB)))))))
   (aC (aP (i:=1) gD.nd rfl (Or.inr rfl) (bB aY (pv 1) (cJ (aA (aK (eA K rfl) rfl T.n_isinstance rfl (aA (pv 0) (aA (cK g_TooMuch rfl) aB))) aB))))
   (aC (bU (cW (aU K rfl (aK (eA K rfl) rfl T.n_isinstance rfl (aA (pv 0) (aA (bX (v:=V.ty "ValueError") rfl T.n_ValueError rfl rfl) aB))) (fun _=>rfl))) (aH (aR (cJ aB))) aX)
   (aH (aR (w6 hh (bG.by (N:=jY) (names:=(aD dC).names) (N':=["_law_k","_law_some"]) (src:=[none,some 1]) (by decide +kernel) rfl rfl) rfl T.n_range (aA aF aB) (fun _ _ _ _=>(bN (i:=0) (show List.Nodup (["_law_k","_law_some"]:aW) by decide +kernel) rfl (Or.inl rfl))) (fun _ _ _ _=>(kT (aU K rfl (bM dF (pv 1) (pv 0) (fun _ _=>rfl)) (fun _=>rfl)))) (fun _ _ _ _=>(pv 0))))))))),?_⟩
  simp only [jY]
  clear hr F T hu g_NoSigns g_NoTerm g_NoText g_NoFilling g_NoStep g_NoCounts g_NoRow g_NoSide g_TooMuch hot hh
  have keep:=aI he (aI q k)
  clear he q k
  walk_at "rd"
  obtain ⟨he,q,k⟩:=keep
  refine gE he k.cls (.inl ⟨rfl,k.k0⟩) (gE he k.cls (.inl ⟨rfl,k.k1⟩) (gE he k.cls (.inl ⟨rfl,k.k2⟩) (gE he k.cls (.inl ⟨rfl,k.k3⟩) ⟨by decide,fun p hp=>?_⟩)))
  have s1:aJ H (upd H p (.lst [.bl false,.bl false,.bl true,.bl false])):=aJ.upd hp
  have a1:upd H p (.lst [.bl false,.bl false,.bl true,.bl false]) p=some (.lst [.bl false,.bl false,.bl true,.bl false]):=upd_same
  generalize upd H p (.lst [.bl false,.bl false,.bl true,.bl false])=H1 at s1 a1 ⊢
  have he1:=s1 _ _ he
  refine gE he1 k.cls (.inl ⟨rfl,k.k4⟩) (gE he1 k.cls (.inl ⟨rfl,k.k5⟩) (gE he1 k.cls (.inl ⟨rfl,k.k6⟩) (gE he1 k.cls (.inl ⟨rfl,k.k7⟩) ⟨by decide,fun p1 hp1=>?_⟩)))
  have s2:aJ H1 (upd H1 p1 (.lst [.bl false,.bl false,.bl false,.bl false])):=aJ.upd hp1
  have a2:upd H1 p1 (.lst [.bl false,.bl false,.bl false,.bl false]) p1=some (.lst [.bl false,.bl false,.bl false,.bl false]):=upd_same
  generalize upd H1 p1 (.lst [.bl false,.bl false,.bl false,.bl false])=H2 at s2 a2 ⊢
  refine ⟨_,mQ (s2 _ _ a1) a2 (show 4 + 4<=sizeLine by decide),fun p2 hp2=>?_⟩
  have s3:aJ H2 (upd H2 p2 (.lst ([.bl false,.bl false,.bl true,.bl false] ++ [.bl false,.bl false,.bl false,.bl false]))):=aJ.upd hp2
  have a3:upd H2 p2 (.lst ([.bl false,.bl false,.bl true,.bl false] ++ [.bl false,.bl false,.bl false,.bl false])) p2=some (.lst ([.bl false,.bl false,.bl true,.bl false] ++ [.bl false,.bl false,.bl false,.bl false])):=upd_same
  generalize upd H2 p2 (.lst ([.bl false,.bl false,.bl true,.bl false] ++ [.bl false,.bl false,.bl false,.bl false]))=H3 at s3 a3 ⊢
  have he3:=s3 _ _ (s2 _ _ he1)
  refine gE he3 k.cls (.inl ⟨rfl,k.k8⟩) ⟨by decide,fun p3 hp3=>?_⟩
  have s4:aJ H3 (upd H3 p3 (.lst [.bl false])):=aJ.upd hp3
  have a4:upd H3 p3 (.lst [.bl false]) p3=some (.lst [.bl false]):=upd_same
  generalize upd H3 p3 (.lst [.bl false])=H4 at s4 a4 ⊢
  refine ⟨_,mQ (s4 _ _ a3) a4 (show 8 + 1<=sizeLine by decide),fun p4 hp4=>?_⟩
  have s5:aJ H4 (upd H4 p4 (.lst ([.bl false,.bl false,.bl true,.bl false] ++ [.bl false,.bl false,.bl false,.bl false] ++ [.bl false]))):=aJ.upd hp4
  have a5:upd H4 p4 (.lst ([.bl false,.bl false,.bl true,.bl false] ++ [.bl false,.bl false,.bl false,.bl false] ++ [.bl false])) p4=some (.lst [.bl false,.bl false,.bl true,.bl false,.bl false,.bl false,.bl false,.bl false,.bl false]):=upd_same
  generalize upd H4 p4 (.lst ([.bl false,.bl false,.bl true,.bl false] ++ [.bl false,.bl false,.bl false,.bl false] ++ [.bl false]))=H5 at s5 a5 ⊢
  have s15:aJ H H5:=(((s1.trans s2).trans s3).trans s4).trans s5
  have he5:=s15 _ _ he
  refine gE he5 k.cls (.inl ⟨rfl,k.kv⟩) ⟨true,rfl,?_⟩
  rw [if_neg (by decide)]
  refine ⟨9,rfl,by decide,by decide,?_⟩
  refine A7 (fun i acc σ H'=>H'=H5/\i<=9/\acc=(if i<=2 then [] else [.int 2])/\∃ o:Option V,σ=[o,some (.ref p4)]) ⟨rfl,by decide,rfl,none,rfl⟩ ?_ ?_
  ·rintro i acc σ H' hi ⟨rfl,_,rfl,o,rfl⟩
   have hi:i < 9:=hi
   have at_:atI [V.bl false,.bl false,.bl true,.bl false,.bl false,.bl false,.bl false,.bl false,.bl false] (0 + (i:Int))=some (.bl (decide (i=2))):=by
    have:∀ j:Fin 9,atI [V.bl false,.bl false,.bl true,.bl false,.bl false,.bl false,.bl false,.bl false,.bl false] (0 + (j.1:Int))=some (.bl (decide (j.1=2))):=by decide +kernel
    exact this ⟨i,hi⟩
   refine ⟨_,rfl,_,rfl,.bl (decide (i=2)),by rw [ixV_l a5];exact at_,decide (i=2),rfl,?_⟩
   by_cases i2:i=2
   ·subst i2
    exact ⟨_,rfl,by decide,rfl,by decide,rfl,_,rfl⟩
   ·rw [decide_eq_false i2]
    dsimp only
    rw [if_neg (show ¬ (false=true) by decide)]
    refine ⟨rfl,by omega,?_,_,rfl⟩
    by_cases lt:i<=2
    ·rw [if_pos lt,if_pos (by omega)]
    ·rw [if_neg lt,if_neg (by omega)]
  ·rintro acc σ H' ⟨rfl,_,rfl,o,rfl⟩
   exact ⟨⟨CX,he5⟩,fun p5 hp5=>q p5 _ (s15.trans (aJ.upd hp5)) upd_same⟩
end
section
variable {P:Program}{w:World}{K:PySem.W.Frag}{mg:eJ}{base:Heap}
mutual
theorem kC {w:List Nat}:∀ {i e:Nat} {d:D},hX w i d e->depD d<=opn40 (w.drop i)
 | _,_,_,.word _=>by rw [depD];exact Nat.zero_le _;all_goals nofun
 | i,_,_,.open_ h r=>by
  have h1:=yL r
  have h2:=uY h (Nat.lt_add_one (i + (wd w i).length))
  have h3:=mE (w:=w) (Nat.le_add_right i (wd w i).length)
  have h4:depDs [D.str ⟨(wd w i).toArray⟩]=0:=nV [_]
  rw [h4] at h1
  omega
theorem yL {w:List Nat}:∀ {row:List D} {i e:Nat} {d:D},Row w row i d e->depD d<=max (depDs row) (opn40 (w.drop (i + 1))) + 1
 | row,i,_,_,@Row.more _ _ _ e _ p _ a _ r=>by
  have h1:=kC a
  have h2:=yL r
  have h3:=mE (w:=w) (show i + 1<=e + 1 by have:=iL a;omega)
  rw [fX] at h2
  omega
 | row,i,_,_,@Row.last _ _ _ e p a _=>by
  have h1:=kC a
  rw [depD,fX]
  omega
 | row,i,_,_,@Row.bad _ _ _ e p a _ _=>by
  have h1:=kC a
  have h2:depD D.non=0:=by rw [depD];all_goals nofun
  rw [depD,fX,fX,h2]
  omega
end
theorem yV (x:Str):nds (.str x)=1:=by unfold nds;rfl
theorem GO:nds .non=1:=by unfold nds;rfl
theorem yU {a:D}{ds:List D}:nds (.tup (a :: ds))=1 + ndss ds:=by rw [nds]
theorem mH {d:D}:ndss [d]=nds d:=by rw [ndss,ndss];omega
mutual
theorem mD {w:List Nat}:∀ {i e:Nat} {d:D},hX w i d e->nds d<=1 + 2 * (e - i)
 | _,_,_,.word _=>by rw [yV];omega
 | i,e,_,.open_ h r=>by
  have h1:=yK r _ [] rfl
  have h2:ndss []=0:=by rw [ndss]
  rw [h2] at h1
  omega
theorem yK {w:List Nat}:∀ {row:List D} {i e:Nat} {d:D},Row w row i d e->∀ (x:D) (tl:List D),row=x :: tl->nds d<=1 + ndss tl + 2 * (e - i)
 | row,i,_,_,@Row.more _ _ _ e _ p _ a _ r,x,tl,he=>by
  have h1:=mD a
  have g1:=iL a
  have g2:=wX r
  have h2:=yK r x (tl ++ [p]) (by rw [he];rfl)
  rw [fQ,mH] at h2
  omega
 | row,i,_,_,@Row.last _ _ _ e p a _,x,tl,he=>by
  have h1:=mD a
  have g1:=iL a
  rw [he,List.cons_append,yU,fQ,mH]
  omega
 | row,i,_,_,@Row.bad _ _ _ e p a _ _,x,tl,he=>by
  have h1:=mD a
  have g1:=iL a
  rw [he,List.cons_append,List.cons_append,yU,fQ,fQ,mH,mH,GO]
  omega
end
end
section
variable {P:Program}{w:World}{K:PySem.W.Frag}{mg:eJ}{base:Heap}
noncomputable def spDue (K:PySem.W.Frag):Sp:=fun vs H Q _=>∃ (t:Addr) (fx:cL) (sm:cQ) (z:Str),vs=[.ref t,.str z]/\sF t fx sm H/\bC fx sm/\mY z/\z.cps.size<=800/\opn40 z.cps.toList<=100 /\
 (∀ (d:D) (v:V) (H':Hp),aJ H H'->cD H' d v->Pd d->hX z.cps.toList 0 d z.cps.toList.length->TW fx sm d->Q v H') /\
 ((∀ d,hX z.cps.toList 0 d z.cps.toList.length->¬ TW fx sm d)->∀ (q l:Addr) (H':Hp),aJ H H'->H' l=some (.lst [.int 2])->H' q=some (.dK [(.inr "no",.ref l)])->Q (.ref q) H')
theorem JQ {f:Addr}{fd:FuncData}(F:gN K "_law_due" "_law_due" eW f fd)(T:ER mg)(O__law_part:dQ P w K mg base bP 102 "_law_part" (nF 100))(O__law_is_term:dQ P w K mg base bP 102 "_law_is_term" (jG 100)):cF P w K mg base bP 103 f fd lO (spDue K):=by
 refine F.ok oB (fun vs H Q E h=>?_) (fun cdv A outer s H vs Q E hr h=>?_)
 ·obtain ⟨t,fx,sm,z,rfl,_⟩:=h
  rfl
 ·obtain ⟨t,fx,sm,z,rfl,ht,so,hz,z8,h40,q1,q2⟩:=h
  have hu:=hr.units
  refine ⟨_,(aC (nK (aO O__law_part (hr.mono (by decide)) pass0 rfl (aA (pv 1) (aA aF aB))) (dD K rfl (i:=2) (j:=3) rfl oB.nd rfl rfl rfl rfl))
   (aC (bU (PW.pt (tD (aS (eI hu) (pv 3) (aK bH rfl T.n_len rfl (aA (pv 1) aB)) (nomark _)) (oY (aU K rfl (aO O__law_is_term (hr.mono (by decide)) pass0 rfl (aA (pv 0) (aA (pv 2) aB))) (fun _=>rfl))))) (aH (aR (pv 2))) aX)
   (aH (aR (pS bA (cJ (aA aF aB))))))),?_⟩
  clear hr F T hu O__law_part O__law_is_term
  refine ⟨_,rfl,z,0,rfl,hz,z8,by decide,h40,fun a d v e H1 s1 ha rep pd pt=>?_⟩
  have zl:z.length=z.cps.toList.length:=by rw [Array.length_toList];rfl
  have zs:z.cps.toList.length=z.cps.size:=Array.length_toList
  have fin:∀ (σ:St) (H2:Hp),aJ H H2->(∀ d,hX z.cps.toList 0 d z.cps.toList.length->¬ TW fx sm d)->tDisp [(tC (V.str "no"),tLst (tCons (tC (V.int 2)) tNil))] σ H2 Q:=by
   intro σ H2 s2 no p hp
   refine ⟨show 1<=sizeLine by decide,fun l hl=>?_⟩
   have np:p≠l:=fun z=>by rw [← z,upd_same] at hl;cases hl
   have hl2:H2 l=none:=by rw [aE np.symm] at hl;exact hl
   refine ⟨by rw [aE np];exact upd_same,[(.inr "no",.ref l)],rfl,(show 1<=15 by decide),?_⟩
   refine q2 no p l _ (fun b o hb=>?_) (by rw [aE np.symm];exact upd_same) upd_same
   have hb2:=s2 _ _ hb
   have b1:b≠p:=fun z=>by rw [z,hp] at hb2;cases hb2
   have b2:b≠l:=fun z=>by rw [z,hl2] at hb2;cases hb2
   rw [aE b1,aE b2,aE b1]
   exact hb2
  refine ⟨a,_,rfl,Or.inl (Or.inl ha),rfl,_,_,rfl,_,_,rfl,rfl,?_⟩
  refine ⟨_,rfl,_,rfl,.str z,.int z.length,rfl,by dsimp only;rw [jA hz.fits];rfl,?_⟩
  dsimp only
  rw [rEqD_ii]
  refine ⟨_,rfl,iQ (fun h=>?_) (fun h=>?_)⟩
  ·have en:e=z.cps.toList.length:=by have:=of_decide_eq_true h;omega
   subst en
   have dp:=kC pt
   have nd:=mD pt
   rw [List.drop_zero] at dp
   refine ⟨_,rfl,_,rfl,t,fx,sm,d,v,rfl,ht.same s1,so,rep,pd,by omega,by omega,fun H2 s2=>⟨tb fx sm d,rfl,iQ (fun h=>?_) (fun h=>?_)⟩⟩
   ·exact ⟨_,rfl,q1 d v H2 (s1.trans s2) (cD.same s2 rep) pd pt (pH.mp h)⟩
   ·refine fin _ H2 (s1.trans s2) fun d' pt' tw=>?_
    obtain ⟨rfl,_⟩:=dZ pt pt'
    rw [pH.mpr tw] at h
    cases h
  ·refine iQ (fun h=>nomatch h) fun _=>fin _ H1 s1 fun d' pt' tw=>?_
   obtain ⟨_,rfl⟩:=dZ pt pt'
   exact absurd (of_decide_eq_false h) (fun z=>z (by omega))
end
section
variable {P:Program}{w:World}{K:PySem.W.Frag}{mg:eJ}{base:Heap}
noncomputable def uD (Q:VK)(H:Hp):Prop:=∀ (q l:Addr) (H':Hp),aJ H H'->H' l=some (.lst [.int 2])->H' q=some (.dK [(.inr "no",.ref l)])->Q (.ref q) H'
noncomputable def wM (K:PySem.W.Frag)(C:Addr):Sp:=fun vs H Q _=>∃ (g:Addr) (fx:cL) (sm:cQ) (v:V),vs=[.ref g,v]/\oV K C fx sm H g/\bC fx sm /\
 ((BL H v/\uD Q H)∨∃ z:Str,v = .str z/\mY z/\z.cps.size<=800/\(TW fx sm (unbR z)->∀ (v':V) (H':Hp),aJ H H'->cD H' (unbR z) v'->Q v' H')/\(¬ TW fx sm (unbR z)->uD Q H))
theorem GD {f C CX CL:Addr}{fd:FuncData}(F:gN K "_law_told" "_law_told" eF f fd)(T:ER mg)(hm_LikeError:mg "LikeError" = some (.ref CL))(hk_LikeError:dH K CL=true)(sub:PySem.W.subIn K (.ref CX) (.ref CL)=some true)(O_read:dQ P w K mg base (yA P w) 5 "read" (sS K C CX))(O__law_class:KK P w K mg base bP 1 "_law_class" (sX CX)):cF P w K mg base bP 6 f fd kJ (wM K C):=by
 refine F.ok fN (fun vs H Q E h=>?_) (fun cdv A outer s H vs Q E hr h=>?_)
 ·obtain ⟨g,fx,sm,v,rfl,_⟩:=h
  rfl
 ·obtain ⟨g,fx,sm,v,rfl,sg,so,q⟩:=h
  have hu:=hr.units
  let EX:XK:=fun cls _ H'=>cls = .ref CX/\aJ H H'/\uD Q H
  have hEX:∀ cls d H',EX cls d H'->∃ C,cls = .ref C/\PySem.W.subIn K (.ref C) (.ref CL)=some true:=fun cls d H' z=>⟨CX,z.1,sub⟩
  refine ⟨_,(aC (aP (i:=2) fN.nd rfl (Or.inl rfl) jL)
   (aC (CI (i:=3) EX ⟨rfl,rfl⟩ rfl fN.nd rfl rfl rfl hm_LikeError hk_LikeError hEX (fun pn Ew hP=>(aH (aP (i:=2) fN.nd rfl (Or.inl rfl) (aO O_read (hr.mono (by decide)) hP rfl (aA (pv 0) (aA (pv 1) aB)))))) (fun e=>(aH (aP (i:=2) fN.nd rfl (Or.inl rfl) (pS bA (FR rfl O__law_class ((hr.mono (by decide)).handling _) rfl (aA (pv 3) aB)))))))
   (aH (aR (pv 2))))),?_⟩
  clear hr F T hu O_read O__law_class hm_LikeError hk_LikeError
  refine ⟨?_,?_⟩
  ·refine ⟨_,rfl,_,rfl,g,fx,sm,v,rfl,sg,so,?_⟩
   rcases q with ⟨no,q⟩ | ⟨z,rfl,hz,z8,q1,q2⟩
   ·exact .inl ⟨no,fun H' s'=>⟨rfl,s',q⟩⟩
   ·exact .inr ⟨z,rfl,hz,z8,fun tw v' H' s' r'=>⟨_,rfl,q1 tw v' H' s' r'⟩,fun tw H' s'=>⟨rfl,s',q2 tw⟩⟩
  ·rintro C' d σ' H' ea ⟨hc,s',qd⟩ hea hi
   cases hc
   have s1:aJ H' (upd H' ea (.ext (eQ ea CX))):=aJ.upd hea
   have e1:upd H' ea (.ext (eQ ea CX)) ea=some (.ext (eQ ea CX)):=upd_same
   generalize upd H' ea (.ext (eQ ea CX))=H1 at s1 e1 ⊢
   intro p hp
   refine ⟨.ref ea,List.getElem?_set_self hi,fun x hx=>?_,ea,rfl,(aJ.upd hp) _ _ e1,fun l H2 s2 hl=>?_⟩
   ·cases hx
    rfl
   ·have hp2:H2 p=some (.dK []):=s2 _ _ upd_same
    have np:l≠p:=fun z=>by rw [z,hp2] at hl;cases hl
    refine ⟨hp2,[(.inr "no",.ref l)],rfl,(show 1<=15 by decide),?_⟩
    have l2:2 < (σ'.set 3 (some (V.ref ea))).length:=by rw [List.length_set];omega
    refine ⟨.ref p,?_,qd p l _ (fun b o hb=>?_) (by rw [aE np];exact hl) upd_same⟩
    ·rw [List.getElem?_set_ne (by decide)]
     exact List.getElem?_set_self l2
    ·have hb1:=s1 _ _ (s' _ _ hb)
     have bp:b≠p:=fun z=>by rw [z,hp] at hb1;cases hb1
     rw [aE bp]
     exact s2 _ _ (by rw [aE bp];exact hb1)
end
section
variable {P:Program}{w:World}{K:PySem.W.Frag}{mg:eJ}{base:Heap}
structure Bs (K:PySem.W.Frag)(C g t o:Addr)(fx:cL)(sm:cQ)(os:aW)(H:Hp):Prop where
 sg:oV K C fx sm H g
 ex:sF t fx sm H
 so:bC fx sm
 ol:H o=some (.lst (os.map V.str))
 o5:os.length=5
 ho:∀ x ∈ os,cC x
theorem Bs.same {C g t o:Addr}{fx:cL}{sm:cQ}{os:aW}{H H':Hp}(h:Bs K C g t o fx sm os H)(s:aJ H H'):Bs K C g t o fx sm os H':=⟨h.sg.same s,h.ex.same s,h.so,s _ _ h.ol,h.o5,h.ho⟩
mutual
theorem wF {fx:cL}{sm:cQ}{os:aW}:∀ {d:D},cT fx sm os d->nds d<=lvs d * (depD d + 1)
 | .str x,_=>by
  have:lvs (.str x)=1:=by rw [lvs] <;> simp
  rw [yV,this]
  omega
 | .tup (.str n :: ds),h=>by
  have h1:=wG h
  unfold cT at h
  have h2:=sK h.2
  rw [lvs] at h1
  rw [lvs,nds,depD,depDs]
  show 1 + ndss ds<=lvss ds * (max (depD (D.str n)) (depDs ds) + 2)
  have h3:depDs ds<=max (depD (D.str n)) (depDs ds):=Nat.le_max_right _ _
  have h4:=Nat.mul_le_mul_left (lvss ds) (Nat.add_le_add_right h3 2)
  have h5:lvss ds * (depDs ds + 2)=lvss ds * (depDs ds + 1) + lvss ds:=by rw [show depDs ds + 2=(depDs ds + 1) + 1 from rfl,Nat.mul_succ]
  omega
 | .lst (.str n :: ds),h=>by
  have h1:=wG h
  unfold cT at h
  have h2:=sK h.2
  rw [lvs] at h1
  rw [lvs,nds,depD,depDs]
  show 1 + ndss ds<=lvss ds * (max (depD (D.str n)) (depDs ds) + 2)
  have h3:depDs ds<=max (depD (D.str n)) (depDs ds):=Nat.le_max_right _ _
  have h4:=Nat.mul_le_mul_left (lvss ds) (Nat.add_le_add_right h3 2)
  have h5:lvss ds * (depDs ds + 2)=lvss ds * (depDs ds + 1) + lvss ds:=by rw [show depDs ds + 2=(depDs ds + 1) + 1 from rfl,Nat.mul_succ]
  omega
theorem sK {fx:cL}{sm:cQ}{os:aW}:∀ {ds:List D},IsTms fx sm os ds->ndss ds<=lvss ds * (depDs ds + 1)
 | [],_=>by rw [ndss];omega
 | d :: ds,h=>by
  have h1:=wF h.1
  have h2:=sK h.2
  rw [ndss,lvss,depDs,Nat.add_mul]
  have a1:=Nat.mul_le_mul_left (lvs d) (Nat.add_le_add_right (Nat.le_max_left (depD d) (depDs ds)) 1)
  have a2:=Nat.mul_le_mul_left (lvss ds) (Nat.add_le_add_right (Nat.le_max_right (depD d) (depDs ds)) 1)
  omega
end
theorem CO {x:Str}(h:Pl x):opn40 x.cps.toList=0:=List.count_eq_zero.mpr fun z=>(h.2 40 z).1 rfl
theorem zU (d e:D)(ds:List D):wrJ (d :: e :: ds)=wrL d ++ 44 :: wrJ (e :: ds):=by rw [wrJ]
mutual
theorem wE {fx:cL}{sm:cQ}{os:aW}(so:bC fx sm)(ho:∀ x ∈ os,cC x):∀ {d:D},cT fx sm os d->opn40 (wrL d)<=nds d
 | .str x,h=>by
  rw [iH,CO (tT so ho h)]
  omega
 | .tup (.str n :: ds),h=>by
  unfold cT at h
  have h2:=sJ so ho h.2
  rw [wrL,nds]
  show opn40 (n.cps.toList ++ 40 :: wrJ ds)<=_
  unfold opn40 at h2 ⊢
  rw [List.count_append,List.count_cons_self,show List.count 40 n.cps.toList=0 from CO (rM so h.1)]
  omega
 | .lst (.str n :: ds),h=>by
  unfold cT at h
  have h2:=sJ so ho h.2
  rw [wrL,nds]
  show opn40 (n.cps.toList ++ 40 :: wrJ ds)<=_
  unfold opn40 at h2 ⊢
  rw [List.count_append,List.count_cons_self,show List.count 40 n.cps.toList=0 from CO (rM so h.1)]
  omega
theorem sJ {fx:cL}{sm:cQ}{os:aW}(so:bC fx sm)(ho:∀ x ∈ os,cC x):∀ {ds:List D},IsTms fx sm os ds->opn40 (wrJ ds)<=ndss ds
 | [],_=>by rw [wrJ];exact Nat.zero_le _
 | [d],h=>by
  have h1:=wE so ho h.1
  rw [wrJ,ndss]
  unfold opn40 at h1 ⊢
  rw [List.count_append,show List.count 40 [41]=0 from rfl]
  omega
 | d :: e :: ds,h=>by
  have h1:=wE so ho h.1
  have h2:=sJ so ho h.2
  rw [zU,ndss]
  unfold opn40 at h1 h2 ⊢
  rw [List.count_append,List.count_cons_of_ne (by decide)]
  omega
end
theorem IP {fx:cL}{sm:cQ}{z:Str}(h:TW fx sm (unbR z)):prs z.cps.toList ([],.str ⟨#[]⟩)=some ([],unbR z):=by
 unfold unbR at h ⊢
 split at h
 ·rename_i e he
  rw [he]
 ·unfold TW at h
  exact absurd h id
theorem join1 {fx:cL}{sm:cQ}{z:Str}(so:bC fx sm)(h:TW fx sm (unbR z)):hX z.cps.toList 0 (unbR z) z.cps.toList.length:=by
 have e:=wZ (IP h)
 have:=oZ so h (w:=z.cps.toList) (i:=0) (r:=[]) (by rw [List.drop_zero,List.append_nil,e]) (fun c hc=>by cases hc)
 rw [e,Nat.zero_add] at this
 exact this
theorem join2 {fx:cL}{sm:cQ}{z:Str}{d:D}(so:bC fx sm)(h:hX z.cps.toList 0 d z.cps.toList.length)(t:TW fx sm d):unbR z=d:=by
 unfold unbR
 rw [(BH so h).1 ⟨rfl,t⟩]
structure Zk (i:Nat)(z:Str):Prop where
 low:∀ c ∈ z.cps.toList,c < 128
 len:z.cps.toList.length<=719 + 9 * i
 opn:opn40 z.cps.toList<=60 + 9 * i
theorem Zk.asc {i:Nat}{z:Str}(h:Zk i z)(i4:i<=4):mY z:=⟨Array.all_eq_true_iff_forall_mem.mpr fun c hc=>decide_eq_true (h.low c (Array.mem_toList_iff.mpr hc)),by have:=h.len;rw [Array.length_toList] at this;omega⟩
theorem Zk.sz {i:Nat}{z:Str}(h:Zk i z)(i4:i<=4):z.cps.size<=800:=by have:=h.len;rw [Array.length_toList] at this;omega
theorem Zk.near {i:Nat}{z z':Str}(h:Zk i z)(n:HF z z'):Zk (i + 1) z':=⟨n.low,by have:=h.len;have:=n.len;omega,by have:=h.opn;have:=n.opn;omega⟩
theorem K1 {fx:cL}{sm:cQ}{os:aW}{d:D}(so:bC fx sm)(ho:∀ x ∈ os,cC x)(tm:cT fx sm os d)(l:lvs d<=12)(dp:depD d<=4):Zk 0 (wrS d):=by
 have h:=wF tm
 have h1:=Nat.mul_le_mul l (Nat.add_le_add_right dp 1)
 have h2:=(yF so ho tm).1
 have h3:=wE so ho tm
 have e:(wrS d).cps.toList=wrL d:=by unfold wrS;exact List.toList_toArray
 exact ⟨by rw [e];exact vZ so ho tm,by rw [e];omega,by rw [e];omega⟩
theorem FB {fx:cL}{sm:cQ}{os:aW}{d:D}(so:bC fx sm)(ho:∀ x ∈ os,cC x)(tm:cT fx sm os d)(l:lvs d<=12)(dp:depD d<=4):LJ fx sm os d :=
 ⟨so,ho,tm,by omega,by
  have h:=wF tm
  have h1:=Nat.mul_le_mul l (Nat.add_le_add_right dp 1)
  omega,by omega⟩
def xI (K:PySem.W.Frag)(CX C0 C1 C3 C4 C5 C6 C7 C8:Addr):Bool :=
 lQ K CX && dH K CX && ([C0,C1,C3,C4,C5,C6,C7,C8].all fun c=>PySem.W.kitOne K (.ref CX) (.ref c) == some false) && (PySem.W.kitOne K (.ref CX) (.ref CX) == some true) && (PySem.W.kitOne K (.ref CX) (.type "ValueError") == some true)
theorem AU {K:PySem.W.Frag}{CX C0 C1 C3 C4 C5 C6 C7 C8:Addr}(h:xI K CX C0 C1 C3 C4 C5 C6 C7 C8=true):EY K CX C0 C1 C3 C4 C5 C6 C7 C8:=by
 simp only [xI,Bool.and_eq_true,beq_iff_eq] at h
 obtain ⟨⟨⟨⟨h0,h1⟩,h2⟩,h3⟩,h4⟩:=h
 have each:∀ c ∈ [C0,C1,C3,C4,C5,C6,C7,C8],PySem.W.kitOne K (.ref CX) (.ref c)=some false:=fun c hc=>beq_iff_eq.mp (List.all_eq_true.mp h2 c hc)
 exact ⟨⟨h0,h1⟩,each _ (by simp),each _ (by simp),h3,each _ (by simp),each _ (by simp),each _ (by simp),each _ (by simp),each _ (by simp),each _ (by simp),h4⟩
theorem HR {C g t o p:Addr}{fx:cL}{sm:cQ}{os:aW}{H H':Hp}(h:Bs K C g t o fx sm os H)(hp:H p=none)(s:aJ H H')(pp:bD H' p):lK p t o fx sm os H':=by
 obtain ⟨a,b,fv,sv,f1,f2,f3,f4,f5⟩:=h.ex
 exact ⟨pp,⟨a,b,fv,sv,s _ _ f1,s _ _ f2,s _ _ f3,f4.same (bE.of s),f5.same (bE.of s),aG f2 hp,aG f3 hp⟩,⟨s _ _ h.ol,aG h.ol hp⟩,h.so,by rw [h.o5];decide,by rw [h.o5];decide⟩
theorem rep2 {H:Hp}{l:Addr}(h:H l=some (.lst [.int 2])):cD H (.lst [.int 2]) (.ref l):=⟨l,_,rfl,h,_,_,rfl,rfl,rfl⟩
theorem G3 {σ:St}{H:Hp}{Q:VK}(h:uD Q H):tDisp [(tC (V.str "no"),tLst (tCons (tC (V.int 2)) tNil))] σ H Q:=by
 intro p hp
 refine ⟨show 1<=sizeLine by decide,fun l hl=>?_⟩
 have np:p≠l:=fun z=>by rw [← z,upd_same] at hl;cases hl
 have hl2:H l=none:=by rw [aE np.symm] at hl;exact hl
 refine ⟨by rw [aE np];exact upd_same,[(.inr "no",.ref l)],rfl,(show 1<=15 by decide),?_⟩
 refine h p l _ (fun b o hb2=>?_) (by rw [aE np.symm];exact upd_same) upd_same
 have b1:b≠p:=fun z=>by rw [z,hp] at hb2;cases hb2
 have b2:b≠l:=fun z=>by rw [z,hl2] at hb2;cases hb2
 rw [aE b1,aE b2,aE b1]
 exact hb2
theorem xB {H:Hp}{a:Addr}{xs:List V}(h:H a=some (.lst xs)):BL H (.ref a):=fun H' s=>by unfold isV tyN;dsimp only;rw [s _ _ h];rfl
theorem DT {H:Hp}{a:Addr}{xs:List V}(h:H a=some (.tup xs)):BL H (.ref a):=fun H' s=>by unfold isV tyN;dsimp only;rw [s _ _ h];rfl
theorem JS {H:Hp}{a:Addr}{xs:List (eZ×V)}(h:H a=some (.dK xs)):BL H (.ref a):=fun H' s=>by unfold isV tyN;dsimp only;rw [s _ _ h];rfl
theorem u8 {H:Hp}{q q2 l l2:Addr}{Q:VK}(h1:H q=some (.dK [(.inr "no",.ref l)]))(h2:H l=some (.lst [.int 2]))(h3:H q2=some (.dK [(.inr "no",.ref l2)]))(h4:H l2=some (.lst [.int 2]))(h:Q (.bl false) H):rNeV (.ref q) (.ref q2) H Q :=
 .inr ⟨q,q2,.inr "no",.ref l,.ref l2,.lst [.int 2],.lst [.int 2],rfl,rfl,h1,h3,rep2 h2,rep2 h4,by decide,by rw [kG];exact h⟩
noncomputable def lwS:Stmt:=(aM iJ).getD 5 (.Pass ⟨0,0,0,0⟩)
noncomputable def lwE:iW:=match lwS with
 | .For _ (.List es _) _ _ _=>es
 | _=>[]
noncomputable def lwB:List Stmt:=match lwS with
 | .For _ _ b _ _=>b
 | _=>[]
theorem DZ:aM iJ=(aM iJ).take 5 ++ lwS :: (aM iJ).drop 6:=by kernel_rfl
theorem GR:∃ p1 p2 p3,lwS = .For (.Name "_law_thing" p1) (.List lwE p2) lwB [] p3:=⟨_,_,_,rfl⟩
theorem KB {X:Cx}{l a b bd:List Stmt}{s:Stmt}{es:iW}{p1 p2 p3:Pos}{x:Str}{i:Nat}{tE:TA}{tb:TS}{W:TS->Prop}(hl:l=a ++ s :: b)(hs:s = .For (.Name x p1) (.List es p2) bd [] p3)(hp:PassesOwn (model X.prog X.w) X.A X.env X.xe)(hc:X.calm=true)
  (hE:uC X es tE) (hB:oH X bd tb) (hN:X.N.Nodup) (hi:X.N[i]?=some x) (hx:KN X.env.scope x) (hf:X.fn x=true∨X.env.scope.names.lookup x=some .local)
  (h:∀ sD,PS X sD (tFor (iSq X.K (tLst tE)) (gName i) tb)->∃ t,oH X (a ++ sD :: b) t/\W t):∃ t,oH X l t/\W t:=by
 subst hl hs
 exact h _ (fW hp hc (dM X.K rfl (cJ hE.h)) (bN hN hi hx hf) hB)
noncomputable def spLaw (K:PySem.W.Frag):Sp:=fun vs H Q _=>∃ (a:Addr) (ns:List Int),vs=[.ref a]/\fH K H a (ns.map V.int)/\ns.length<=63/\∀ H',Q (.bl true) H'
noncomputable def K9 (a g t o:Addr)(Hb:Hp)(_:Nat)(σ:St)(H:Hp):Prop:=∃ o1 o5 o6 o7:Option V,σ=[some (.ref a),o1,some (.ref t),some (.ref g),some (.ref o),o5,o6,o7,none]/\aJ Hb H
noncomputable def MF (a g t o p:Addr)(k:Int)(Hb:Hp)(j:Nat)(σ:St)(H:Hp):Prop:=∃ (z:Str) (o7:Option V),σ=[some (.ref a),some (.ref p),some (.ref t),some (.ref g),some (.ref o),some (.int k),some (.str z),o7,none]/\Zk j z/\aJ Hb H/\bD H p
noncomputable def MC (a g t o:Addr)(Hb:Hp)(_:Nat)(σ:St)(H:Hp):Prop:=∃ o1 o5 o6 o7 o8:Option V,σ=[some (.ref a),o1,some (.ref t),some (.ref g),some (.ref o),o5,o6,o7,o8]/\aJ Hb H
theorem JP {f C:Addr}{fd:FuncData}(F:gN K "law" "law" iJ f fd)(T:ER mg)(O__law_pot:dQ P w K mg base bP 2 "_law_pot" (spPot K))(O__law_signs:dQ P w K mg base bP 3 "_law_signs" sR)(MK_Signs:KL P w K mg base bP 3 "Signs" C (wP K C))(O__law_drawn:dQ P w K mg base bP 2 "_law_drawn" sW)
  (O__law_term:dQ P w K mg base bP 8 "_law_term" (lD 4)) (O__law_written:dQ P w K mg base bP 6 "_law_written" (gT 4)) (O__law_take:dQ P w K mg base bP 1 "_law_take" fL) (O__law_done:dQ P w K mg base bP 2 "_law_done" wQ) (O__law_told:dQ P w K mg base bP 6 "_law_told" (wM K C)) (O__law_due:dQ P w K mg base bP 103 "_law_due" (spDue K)):cF P w K mg base bP 104 f fd ID (spLaw K):=by
 refine F.ok gZ (fun vs H Q E h=>?_) (fun cdv A outer s H vs Q E hr h=>?_)
 ·obtain ⟨a,ns,rfl,_⟩:=h
  rfl
 ·obtain ⟨a,ns,rfl,hs,n63,q⟩:=h
  have hu:=hr.units
  have hu2:_ + 160 < cLine:=Nat.lt_of_le_of_lt (Nat.add_le_add_left (show 160<=16 * 103 + 200 by decide) _) (by rw [← Nat.add_assoc];exact hr.un)
  obtain ⟨p1,p2,p3,hS⟩:=GR
  refine KB (i:=8) DZ hS PassesOwn.never rfl (fS jL (fS aF (fS kA (tI (cJ aB) (yR (eB aB) (tI (cJ (aA bA aB)) (DA CV (yR (eB (aA bA aB)) (FX (bB DD aF aF) (tI (cJ (aA (bM dF (bM dF (bM dF (pv 2) aF (fun _ _=>rfl)) aF (fun _ _=>rfl)) aF (fun _ _=>rfl)) aB)) yT)))))))))) (aH (bU (aS (DE hu2) (aO O__law_told (hr.mono (by decide)) pass0 rfl (aA (pv 3) (aA (pv 8) aB))) (pS bA (cJ (aA aF aB))) (nomark _)) (aH (aR kA)) aX)) gZ.nd rfl (Or.inl rfl) (.inl rfl) (fun sD hD=>?_)
  refine ⟨_,(aC (aP (i:=1) gZ.nd rfl (Or.inl rfl) (aO O__law_pot (hr.mono (by decide)) pass0 rfl (aA (pv 0) (aA aF aB))))
   (aC (aP (i:=2) gZ.nd rfl (Or.inl rfl) (aO O__law_signs (hr.mono (by decide)) pass0 rfl (aA (pv 1) aB)))
   (aC (aP (i:=3) gZ.nd rfl (Or.inl rfl) (K3 MK_Signs (hr.mono (by decide)) pass0 rfl (aA (bM dF (pv 2) aF (fun _ _=>rfl)) (aA (bM dF (pv 2) aF (fun _ _=>rfl)) aB))))
   (aC (aP (i:=4) gZ.nd rfl (Or.inl rfl) (aO O__law_drawn (hr.mono (by decide)) pass0 rfl (aA (pv 1) aB)))
   (aC (fW PassesOwn.never rfl (fC rfl T.n_range (aA (aK (BB rfl) rfl T.n_max rfl (aA aF (aA (aK (rW rfl) rfl T.n_min rfl (aA aF (aA (aK jP rfl T.n_len rfl (aA (pv 0) aB)) aB))) aB))) aB)) (bN (i:=5) gZ.nd rfl (Or.inl rfl)) (aC (aP (i:=1) gZ.nd rfl (Or.inl rfl) (aO O__law_pot (hr.mono (by decide)) pass0 rfl (aA (pv 0) (aA (pv 5) aB))))
   (aC (aP (i:=6) gZ.nd rfl (Or.inl rfl) (aO O__law_written (hr.mono (by decide)) pass0 rfl (aA (aO O__law_term (hr.mono (by decide)) pass0 rfl (aA (pv 1) (aA (pv 2) (aA (pv 4) (aA aF (aA aF aB)))))) aB)))
   (aC (fW PassesOwn.never rfl (fC rfl T.n_range (aA (aO O__law_take (hr.mono (by decide)) pass0 rfl (aA (pv 1) (aA aF aB))) aB)) (bN (i:=7) gZ.nd rfl (Or.inl rfl)) (aH (aP (i:=6) gZ.nd rfl (Or.inl rfl) (aO O__law_done (hr.mono (by decide)) pass0 rfl (aA (pv 1) (aA (pv 2) (aA (pv 4) (aA (pv 6) aB))))))))
   (aH (bU (aS (DE hu2) (aO O__law_told (hr.mono (by decide)) pass0 rfl (aA (pv 3) (aA (pv 6) aB))) (aO O__law_due (hr.mono (by decide)) pass0 rfl (aA (pv 2) (aA (pv 6) aB))) (nomark _)) (aH (aR kA)) aX))))))
   (aC hD
   (aH (aR kA)))))))),?_⟩
  clear hr F T hu hu2 O__law_pot O__law_signs MK_Signs O__law_drawn O__law_term O__law_written O__law_take O__law_done O__law_told O__law_due hS hD
  refine ⟨_,rfl,a,0,ns,rfl,hs,by omega,by omega,fun p x y hp=>?_⟩
  have s1:aJ H (upd H p (.lst [.int x,.int y])):=aJ.upd hp
  refine ⟨_,rfl,p,rfl,⟨x,y,upd_same⟩,fun t a1 a2 fx sm fv sv H2 b2 p2 ht ha hb rf rs so na1 nb1=>?_⟩
  refine ⟨_,rfl,.ref a1,by rw [ixV_t ht];rfl,_,rfl,.ref a2,by rw [ixV_t ht];rfl,fun g dx hg hdx ng=>?_⟩
  have s2:aJ H2 (upd (upd H2 dx (.own g)) g (.ins C dx [])):=(aJ.upd hdx).trans (aJ.upd (by rw [aE (Ne.symm ng)];exact hg))
  refine ⟨g,dx,a1,a2,fx,sm,fv,sv,rfl,upd_same,s2 _ _ ha,s2 _ _ hb,rf.same (bE.of s2),rs.same (bE.of s2),so,fun H3 b3 sg=>⟨rfl,?_⟩⟩
  have s3:aJ H2 H3:=fun c ob e=>b3 c ob (aG e hg) (s2 _ _ e)
  have p3:bD H3 p:=by obtain ⟨x',y',e⟩:=p2;exact ⟨x',y',s3 _ _ e⟩
  refine ⟨_,rfl,p,rfl,p3,fun o os H4 no b4 p4 ho o5 hw=>?_⟩
  have s4:aJ H H4:=fun c ob e=>b4 c ob (aG e hp) (s3 _ _ (b2 c ob (aG e hp) (s1 _ _ e)))
  have bs:Bs K C g t o fx sm os H4:=by
   obtain ⟨c1,c2,c3,dx',fs,dm,dn,h1,h2,h3,h4,h5,h6,h7⟩:=sg
   obtain ⟨x',y',ep⟩:=p3
   have ts:=bE.ofBut b4 ⟨x',y',ep⟩
   exact ⟨⟨c1,c2,c3,dx',fs,dm,dn,b4 _ _ (fun z=>by rw [z,ep] at h1;cases h1) h1,h2,h3,h4,h5,b4 _ _ (fun z=>by rw [z,ep] at h6;cases h6) h6,b4 _ _ (fun z=>by rw [z,ep] at h7;cases h7) h7⟩,
    ⟨a1,a2,fv,sv,ts _ _ (s3 _ _ ht),b4 _ _ na1 (s3 _ _ ha),b4 _ _ nb1 (s3 _ _ hb),(rf.same (bE.of s3)).same ts,(rs.same (bE.of s3)).same ts⟩,so,ho,o5,hw⟩
  have sq4:fH K H4 a (ns.map V.int):=aJ.seq s4 hs
  clear b4 p4 b3 s3 s2 sg p3 ho o5 hw no rf rs so ha hb ht na1 nb1 b2 p2 s1 hp s4 hs hg hdx ng
  have hlen:((ns.map V.int).length:Int)<=63:=by rw [List.length_map];omega
  refine ⟨_,rfl,a,ns.map V.int,rfl,.inl sq4,10,_,rfl,3,_,rfl,_,rfl,by split <;> split <;> omega,by split <;> split <;> omega,?_⟩
  generalize hm:(if (if ((ns.map V.int).length:Int) < 10 then ((ns.map V.int).length:Int) else 10) > 3 then (if ((ns.map V.int).length:Int) < 10 then ((ns.map V.int).length:Int) else 10) else 3).toNat=m
  have hm10:m<=10:=by rw [← hm];split <;> split <;> omega
  clear hm hlen
  refine eX (K9 a g t o H4) ⟨_,_,_,_,rfl,aJ.refl _⟩ ?_ ?_
  ·rintro i σ H7 hi ⟨o1,o5,o6,o7,rfl,s7⟩
   have bs7:=bs.same s7
   have sq7:=aJ.seq s7 sq4
   refine ⟨_,rfl,_,rfl,a,_,ns,rfl,sq7,by omega,by omega,fun p x y hp=>?_⟩
   have s8:aJ H7 (upd H7 p (.lst [.int x,.int y])):=aJ.upd hp
   have p8:bD (upd H7 p (.lst [.int x,.int y])) p:=⟨x,y,upd_same⟩
   generalize upd H7 p (.lst [.int x,.int y])=H8 at s8 p8 ⊢
   refine ⟨_,rfl,_,rfl,_,rfl,p,t,o,fx,sm,os,12,4,rfl,HR bs7 hp s8 p8,by decide,by decide,by decide,fun d v H9 b9 p9 r9 tm lv dp=>?_⟩
   have s9:aJ H7 H9:=fun c ob e=>b9 c ob (aG e hp) (s8 _ _ e)
   have rep9:cD H9 d v:=cD.same (fun c ob e=>(pV.mp e).2) r9
   have so:=bs7.so
   have ho:=bs7.ho
   refine ⟨fx,sm,os,d,v,rfl,rep9,FB so ho tm lv dp,dp,fun H10 s10=>?_⟩
   have p10:bD H10 p:=by obtain ⟨x',y',e⟩:=p9;exact ⟨x',y',s10 _ _ e⟩
   refine ⟨_,rfl,p,4,rfl,p10,by decide,by decide,fun n x11 y11 n0 n4=>⟨n,rfl,by omega,by omega,?_⟩⟩
   have s11:aJ H7 (upd H10 p (.lst [.int x11,.int y11])):=fun c ob e=>dL.upd p H10 _ c ob (aG e hp) (s10 _ _ (s9 _ _ e))
   have p11:bD (upd H10 p (.lst [.int x11,.int y11])) p:=⟨x11,y11,upd_same⟩
   generalize upd H10 p (.lst [.int x11,.int y11])=H11 at s11 p11 ⊢
   have zk:=K1 so ho tm lv dp
   clear s8 p8 b9 p9 r9 rep9 s9 s10 p10
   obtain ⟨n,rfl⟩:=Int.eq_ofNat_of_zero_le n0
   refine eX (MF a g t o p ((0:Int) + i) H7) ⟨_,_,rfl,zk,s11,p11⟩ ?_ ?_
   ·rintro j σ H12 hj ⟨z,o7',rfl,zk,s12,p12⟩
    have jn:j<=4:=by have:=Int.toNat_natCast n;omega
    refine ⟨_,rfl,_,rfl,_,rfl,_,rfl,p,t,o,fx,sm,os,z,rfl,HR bs7 hp s12 p12,by rw [bs7.o5];decide,ho,zk.asc jn,zk.sz jn,fun z' H13 b13 p13 near=>?_⟩
    exact ⟨z',_,rfl,zk.near near,fun c ob e=>b13 c ob (aG e hp) (s12 _ _ e),p13⟩
   ·rintro σ H12 ⟨z,o7',rfl,zk,s12,p12⟩
    have jn:(n:Int).toNat<=3:=by have:=Int.toNat_natCast n;omega
    have asc:=zk.asc (by omega)
    have sz:=zk.sz (by omega)
    have opn:opn40 z.cps.toList<=100:=by have:=zk.opn;omega
    have bs12:=bs7.same s12
    have fin:∀ H',aJ H12 H'->K9 a g t o H4 (i + 1) [some (.ref a),some (.ref p),some (.ref t),some (.ref g),some (.ref o),some (.int ((0:Int) + i)),some (.str z),o7',none] H':=fun H' s'=>⟨_,_,_,_,rfl,s7.trans (s12.trans s')⟩
    refine ⟨_,rfl,_,rfl,g,fx,sm,.str z,rfl,bs12.sg,so,Or.inr ⟨z,rfl,asc,sz,fun tw v1 H13 s13 r13=>?_,fun tw q1 l1 H13 s13 hl1 hq1=>?_⟩⟩
    ·have pz:=join1 so tw
     have dpz:=kC pz
     rw [List.drop_zero] at dpz
     refine ⟨_,rfl,_,rfl,t,fx,sm,z,rfl,bs12.ex.same s13,so,asc,sz,opn,fun d2 v2 H14 s14 r14 pd pt tw2=>?_,fun no=>absurd tw (no _ pz)⟩
     refine Or.inl ⟨unbR z,d2,cD.same s14 r13,r14,by omega,_,rfl,iQ (fun h=>?_) (fun _=>fin _ (s13.trans s14))⟩
     rw [join2 so pt tw2,kG] at h
     cases h
    ·refine ⟨_,rfl,_,rfl,t,fx,sm,z,rfl,bs12.ex.same s13,so,asc,sz,opn,fun d2 v2 H14 s14 r14 pd pt tw2=>?_,fun no q2 l2 H14 s14 hl2 hq2=>?_⟩
     ·rw [join2 so pt tw2] at tw
      exact absurd tw2 tw
     ·exact u8 (s14 _ _ hq1) (s14 _ _ hl1) hq2 hl2 ⟨_,rfl,iQ (fun h=>nomatch h) (fun _=>fin _ (s13.trans s14))⟩
  ·rintro σ H7 ⟨o1,o5,o6,o7,rfl,s7⟩
   have bs7:=bs.same s7
   obtain ⟨ta,tb,fv,sv,t1,t2,t3,t4,t5⟩:=bs7.ex
   have so:=bs7.so
   have f1:=so.f1
   have fl:=t4.len
   have fl0:0 < fv.length:=by omega
   obtain ⟨rr,qq,gg,hv,hq⟩:=t4.get (List.getElem?_eq_getElem fl0)
   refine ⟨show 0<=sizeLine by decide,fun l1 h1=>?_⟩
   have s1:aJ H7 (upd H7 l1 (.lst [])):=aJ.upd h1
   have e1:upd H7 l1 (.lst []) l1=some (.lst []):=upd_same
   generalize upd H7 l1 (.lst [])=Ha at s1 e1 ⊢
   refine ⟨show 0<=sizeLine by decide,fun l2 h2=>?_⟩
   have s2:aJ Ha (upd Ha l2 (.tup [])):=aJ.upd h2
   have e2:upd Ha l2 (.tup []) l2=some (.tup []):=upd_same
   generalize upd Ha l2 (.tup [])=Hb at s2 e2 ⊢
   refine ⟨show 1<=sizeLine by decide,fun l3 h3=>?_⟩
   have s3:aJ Hb (upd Hb l3 (.lst [.str "a"])):=aJ.upd h3
   have e3:upd Hb l3 (.lst [.str "a"]) l3=some (.lst [.str "a"]):=upd_same
   generalize upd Hb l3 (.lst [.str "a"])=Hc at s3 e3 ⊢
   intro l4 h4
   have s4:aJ Hc (upd Hc l4 (.dK [])):=aJ.upd h4
   have e4:upd Hc l4 (.dK []) l4=some (.dK []):=upd_same
   generalize upd Hc l4 (.dK [])=Hd at s4 e4 ⊢
   refine ⟨show 1<=sizeLine by decide,fun l5 h5=>?_⟩
   have s5:aJ Hd (upd Hd l5 (.tup [.str "?a"])):=aJ.upd h5
   have e5:upd Hd l5 (.tup [.str "?a"]) l5=some (.tup [.str "?a"]):=upd_same
   generalize upd Hd l5 (.tup [.str "?a"])=He at s5 e5 ⊢
   have sE:aJ H7 He:=s1.trans (s2.trans (s3.trans (s4.trans s5)))
   refine ⟨10,30,rfl,rfl,⟨by decide,by decide,by decide⟩,_,rfl,.ref ta,by rw [ixV_t (sE _ _ t1)];rfl,.ref qq,by rw [ixV_l (sE _ _ t2),iR (by decide) (by omega),← hv];exact List.getElem?_eq_getElem fl0,.str rr.1,by rw [ixV_t (sE _ _ hq)];rfl,show 1<=sizeLine by decide,fun l6 h6=>?_⟩
   have s6:aJ He (upd He l6 (.lst [.str rr.1])):=aJ.upd h6
   have e6:upd He l6 (.lst [.str rr.1]) l6=some (.lst [.str rr.1]):=upd_same
   generalize upd He l6 (.lst [.str rr.1])=Hf at s6 e6 ⊢
   refine ⟨show 10<=sizeLine by decide,fun l7 h7=>?_⟩
   have s8:aJ Hf (upd Hf l7 (.lst [.non,.int 7,.bl true,.ref l1,.ref l2,.ref l3,.ref l4,.ref l5,.int (10 ^ 30),.ref l6])):=aJ.upd h7
   have e7:upd Hf l7 (.lst [.non,.int 7,.bl true,.ref l1,.ref l2,.ref l3,.ref l4,.ref l5,.int (10 ^ 30),.ref l6]) l7=some (.lst [.non,.int 7,.bl true,.ref l1,.ref l2,.ref l3,.ref l4,.ref l5,.int (10 ^ 30),.ref l6]):=upd_same
   refine ⟨l7,_,rfl,.inl e7,fun J hJ=>?_⟩
   have ez:(fun i j:Int=>V.int (i ^ j.toNat)) 10 30 = .int (10 ^ 30):=rfl
   rw [ez] at hJ ⊢
   clear ez
   have no:∀ v ∈ [V.non,.int 7,.bl true,.ref l1,.ref l2,.ref l3,.ref l4,.ref l5,.int (10 ^ 30),.ref l6],BL Hf v:=by
    intro v hv
    simp only [List.mem_cons,List.not_mem_nil,or_false] at hv
    have s3f:aJ Hc Hf:=s4.trans (s5.trans s6)
    rcases hv with rfl | rfl | rfl | rfl | rfl | rfl | rfl | rfl | rfl | rfl
    ·exact fun _ _=>rfl
    ·exact fun _ _=>rfl
    ·exact fun _ _=>rfl
    ·exact xB ((s2.trans (s3.trans s3f)) _ _ e1)
    ·exact DT ((s3.trans s3f) _ _ e2)
    ·exact xB (s3f _ _ e3)
    ·exact JS ((s5.trans s6) _ _ e4)
    ·exact DT (s6 _ _ e5)
    ·exact fun _ _=>rfl
    ·exact xB e6
   have sg7:=bs7.sg.same (sE.trans (s6.trans s8))
   generalize [V.non,.int 7,.bl true,.ref l1,.ref l2,.ref l3,.ref l4,.ref l5,.int (10 ^ 30),.ref l6]=vs at no s8 e7 hJ sg7 ⊢
   generalize upd Hf l7 (.lst vs)=Hg at s8 e7 hJ sg7 ⊢
   refine mK hJ (MC a g t o Hg) ⟨_,_,_,_,_,rfl,aJ.refl _⟩ (fun i σ H' _ ⟨_,_,_,_,_,_,s⟩=>by rw [s _ _ e7,e7]) ?_ ?_
   ·rintro i x σ H9 hx ⟨o1',o5',o6',o7',o8',rfl,s9⟩
    refine ⟨_,rfl,_,rfl,g,fx,sm,x,rfl,sg7.same s9,so,Or.inl ⟨fun H' s'=>no x (List.mem_of_getElem? hx) H' (s8.trans (s9.trans s')),fun q1 k1 H10 s10 hk1 hq1=>G3 fun q2 k2 H11 s11 hk2 hq2=>?_⟩⟩
    exact u8 (s11 _ _ hq1) (s11 _ _ hk1) hq2 hk2 ⟨_,rfl,iQ (fun h=>nomatch h) (fun _=>⟨_,_,_,_,_,rfl,s9.trans (s10.trans s11)⟩)⟩
   ·rintro σ H9 _
    exact q _
end
end Lw
namespace Lw
open PySem PySem.Spec PyProof.Rows PySem.W L2
theorem len1 {us:cE}{P:cE->Prop}(h:us.length=1)(k:∀ a,P [a]):P us:=match us,h with | [a],_=>k a
theorem len2 {us:cE}{P:cE->Prop}(h:us.length=2)(k:∀ a b,P [a,b]):P us:=match us,h with | [a,b],_=>k a b
theorem len3 {us:cE}{P:cE->Prop}(h:us.length=3)(k:∀ a b c,P [a,b,c]):P us:=match us,h with | [a,b,c],_=>k a b c
theorem len4 {us:cE}{P:cE->Prop}(h:us.length=4)(k:∀ a b c d,P [a,b,c,d]):P us:=match us,h with | [a,b,c,d],_=>k a b c d
theorem len5 {us:cE}{P:cE->Prop}(h:us.length=5)(k:∀ a b c d e,P [a,b,c,d,e]):P us:=match us,h with | [a,b,c,d,e],_=>k a b c d e
theorem KC {l:PySem.W.OpenLaw}{w:World}{K:PySem.W.Frag}{h:Heap}{mg:eJ}{fa C f1 f2 f3 f4 f5 f6 f7 f8 f9 f10 f11 f12 f13 f14 f15 f16 f17 f18 f19 f20 f21 f22 f23 f24 f25 f26 f27 f28 f29 f30 f31 f32 f33 f34 C_LikeError C_NoSigns C_NoTerm C_NoText C_NoFilling C_NoStep C_NoCounts C_NoRow C_NoSide C_TooMuch:Addr}(X:K.In h)(G:h.Ns mainGlobals mg)(hfa:mg "law" = some (.ref fa))
  {od1 an1 od2 an2 od3 an3 od4 an4 od5 an5 od6 an6 od7 an7 od8 an8 od9 an9 od10 an10 od11 an11 od12 an12 od13 an13 od14 an14 od15 an15 od16 an16 od17 an17 od18 an18 od19 an19 od20 an20 od21 an21 od22 an22 od23 an23 od24 an24 od25 an25 od26 an26 od27 an27 od28 an28 od29 an29 od30 an30 od31 an31 od32 an32 od33 an33 od34 an34:Option Addr} {sl1 sl2 sl3 sl4 sl5 sl6 sl7 sl8 sl9 sl10 sl11 sl12 sl13 sl14 sl15 sl16 sl17 sl18 sl19 sl20 sl21 sl22 sl23 sl24 sl25 sl26 sl27 sl28 sl29 sl30 sl31 sl32 sl33 sl34:Array (Option Value)} {oc1 kV1 dc1 pm1 ct1 cd1 oc2 kV2 dc2 pm2 ct2 cd2 oc3 kV3 dc3 pm3 ct3 cd3 oc4 kV4 dc4 pm4 ct4 cd4 oc5 kV5 dc5 pm5 ct5 cd5 oc6 kV6 dc6 pm6 ct6 cd6 oc7 kV7 dc7 pm7 ct7 cd7 oc8 kV8 dc8 pm8 ct8 cd8 oc9 kV9 dc9 pm9 ct9 cd9 oc10 kV10 dc10 pm10 ct10 cd10 oc11 kV11 dc11 pm11 ct11 cd11 oc12 kV12 dc12 pm12 ct12 cd12 oc13 kV13 dc13 pm13 ct13 cd13 oc14 kV14 dc14 pm14 ct14 cd14 oc15 kV15 dc15 pm15 ct15 cd15 oc16 kV16 dc16 pm16 ct16 cd16 oc17 kV17 dc17 pm17 ct17 cd17 oc18 kV18 dc18 pm18 ct18 cd18 oc19 kV19 dc19 pm19 ct19 cd19 oc20 kV20 dc20 pm20 ct20 cd20 oc21 kV21 dc21 pm21 ct21 cd21 oc22 kV22 dc22 pm22 ct22 cd22 oc23 kV23 dc23 pm23 ct23 cd23 oc24 kV24 dc24 pm24 ct24 cd24 oc25 kV25 dc25 pm25 ct25 cd25 oc26 kV26 dc26 pm26 ct26 cd26 oc27 kV27 dc27 pm27 ct27 cd27 oc28 kV28 dc28 pm28 ct28 cd28 oc29 kV29 dc29 pm29 ct29 cd29 oc30 kV30 dc30 pm30 ct30 cd30 oc31 kV31 dc31 pm31 ct31 cd31 oc32 kV32 dc32 pm32 ct32 cd32 oc33 kV33 dc33 pm33 ct33 cd33 oc34 kV34 dc34 pm34 ct34 cd34:Value} {tk0 tk1 tk2 tk3 tk4 tk5 tk6 tk7:Tok}
  (m0:nsIn K mainGlobals "Signs" = some (some (.ref C)))
  (e0:nsIn K mainGlobals "LikeError" = some (some (.ref C_LikeError)))
  (e1:nsIn K mainGlobals "NoSigns" = some (some (.ref C_NoSigns)))
  (e2:nsIn K mainGlobals "NoTerm" = some (some (.ref C_NoTerm)))
  (x2:excIn K C_NoTerm wA "ValueError.__new__" = true)
  (e3:nsIn K mainGlobals "NoText" = some (some (.ref C_NoText)))
  (x3:excIn K C_NoText wA "ValueError.__new__" = true)
  (e4:nsIn K mainGlobals "NoFilling" = some (some (.ref C_NoFilling)))
  (e5:nsIn K mainGlobals "NoStep" = some (some (.ref C_NoStep)))
  (e6:nsIn K mainGlobals "NoCounts" = some (some (.ref C_NoCounts)))
  (e7:nsIn K mainGlobals "NoRow" = some (some (.ref C_NoRow)))
  (e8:nsIn K mainGlobals "NoSide" = some (some (.ref C_NoSide)))
  (e9:nsIn K mainGlobals "TooMuch" = some (some (.ref C_TooMuch)))
  (a1:nsIn K mainGlobals "_law_cell" = some (some (.ref f1)))
  (l1:K.lookup f1=some ⟨oc1,od1,.func (PySem.W.fnOf "_law_cell" "_law_cell" (aT eH) (aM eH) (aD eH) .none kV1 dc1 pm1 an1 cd1 ct1),sl1⟩)
  (c1:codeIn K cd1 "_law_cell" = true)
  (k1:keepIn K (.ref f1)=true)
  (a2:nsIn K mainGlobals "_law_pot" = some (some (.ref f2)))
  (l2:K.lookup f2=some ⟨oc2,od2,.func (PySem.W.fnOf "_law_pot" "_law_pot" (aT eV) (aM eV) (aD eV) .none kV2 dc2 pm2 an2 cd2 ct2),sl2⟩)
  (c2:codeIn K cd2 "_law_pot" = true)
  (k2:keepIn K (.ref f2)=true)
  (a3:nsIn K mainGlobals "_law_take" = some (some (.ref f3)))
  (l3:K.lookup f3=some ⟨oc3,od3,.func (PySem.W.fnOf "_law_take" "_law_take" (aT eG) (aM eG) (aD eG) .none kV3 dc3 pm3 an3 cd3 ct3),sl3⟩)
  (c3:codeIn K cd3 "_law_take" = true)
  (k3:keepIn K (.ref f3)=true)
  (a4:nsIn K mainGlobals "_law_word" = some (some (.ref f4)))
  (l4:K.lookup f4=some ⟨oc4,od4,.func (PySem.W.fnOf "_law_word" "_law_word" (aT eE) (aM eE) (aD eE) .none kV4 dc4 pm4 an4 cd4 ct4),sl4⟩)
  (c4:codeIn K cd4 "_law_word" = true)
  (k4:keepIn K (.ref f4)=true)
  (a5:nsIn K mainGlobals "_law_names" = some (some (.ref f5)))
  (l5:K.lookup f5=some ⟨oc5,od5,.func (PySem.W.fnOf "_law_names" "_law_names" (aT dW) (aM dW) (aD dW) .none kV5 dc5 pm5 an5 cd5 ct5),sl5⟩)
  (c5:codeIn K cd5 "_law_names" = true)
  (k5:keepIn K (.ref f5)=true)
  (a6:nsIn K mainGlobals "_law_signs" = some (some (.ref f6)))
  (l6:K.lookup f6=some ⟨oc6,od6,.func (PySem.W.fnOf "_law_signs" "_law_signs" (aT cN) (aM cN) (aD cN) .none kV6 dc6 pm6 an6 cd6 ct6),sl6⟩)
  (c6:codeIn K cd6 "_law_signs" = true)
  (k6:keepIn K (.ref f6)=true)
  (a7:nsIn K mainGlobals "_law_drawn" = some (some (.ref f7)))
  (l7:K.lookup f7=some ⟨oc7,od7,.func (PySem.W.fnOf "_law_drawn" "_law_drawn" (aT dX) (aM dX) (aD dX) .none kV7 dc7 pm7 an7 cd7 ct7),sl7⟩)
  (c7:codeIn K cd7 "_law_drawn" = true)
  (k7:keepIn K (.ref f7)=true)
  (a8:nsIn K mainGlobals "_law_leaf" = some (some (.ref f8)))
  (l8:K.lookup f8=some ⟨oc8,od8,.func (PySem.W.fnOf "_law_leaf" "_law_leaf" (aT dR) (aM dR) (aD dR) .none kV8 dc8 pm8 an8 cd8 ct8),sl8⟩)
  (c8:codeIn K cd8 "_law_leaf" = true)
  (k8:keepIn K (.ref f8)=true)
  (a9:nsIn K mainGlobals "_law_heads" = some (some (.ref f9)))
  (l9:K.lookup f9=some ⟨oc9,od9,.func (PySem.W.fnOf "_law_heads" "_law_heads" (aT cP) (aM cP) (aD cP) .none kV9 dc9 pm9 an9 cd9 ct9),sl9⟩)
  (c9:codeIn K cd9 "_law_heads" = true)
  (k9:keepIn K (.ref f9)=true)
  (a10:nsIn K mainGlobals "_law_term" = some (some (.ref f10)))
  (l10:K.lookup f10=some ⟨oc10,od10,.func (PySem.W.fnOf "_law_term" "_law_term" (aT dA) (aM dA) (aD dA) .none kV10 dc10 pm10 an10 cd10 ct10),sl10⟩)
  (c10:codeIn K cd10 "_law_term" = true)
  (k10:keepIn K (.ref f10)=true)
  (a11:findIn K (.ref C) "many" = some (some (.ref f11)))
  (l11:K.lookup f11=some ⟨oc11,od11,.func (PySem.W.fnOf "many" "Signs.many" (aT dY) (aM dY) (aD dY) .none kV11 dc11 pm11 an11 cd11 ct11),sl11⟩)
  (c11:codeIn K cd11 "Signs.many" = true)
  (k11:keepIn K (.ref f11)=true)
  (n11:isFn K (.ref f11)=true)
  (a12:findIn K (.ref C) "nought" = some (some (.ref f12)))
  (l12:K.lookup f12=some ⟨oc12,od12,.func (PySem.W.fnOf "nought" "Signs.nought" (aT cV) (aM cV) (aD cV) .none kV12 dc12 pm12 an12 cd12 ct12),sl12⟩)
  (c12:codeIn K cd12 "Signs.nought" = true)
  (k12:keepIn K (.ref f12)=true)
  (n12:isFn K (.ref f12)=true)
  (a13:nsIn K mainGlobals "is_wish" = some (some (.ref f13)))
  (l13:K.lookup f13=some ⟨oc13,od13,.func (PySem.W.fnOf "is_wish" "is_wish" (aT fA) (aM fA) (aD fA) .none kV13 dc13 pm13 an13 cd13 ct13),sl13⟩)
  (c13:codeIn K cd13 "is_wish" = true)
  (k13:keepIn K (.ref f13)=true)
  (a14:nsIn K mainGlobals "is_built" = some (some (.ref f14)))
  (l14:K.lookup f14=some ⟨oc14,od14,.func (PySem.W.fnOf "is_built" "is_built" (aT eU) (aM eU) (aD eU) .none kV14 dc14 pm14 an14 cd14 ct14),sl14⟩)
  (c14:codeIn K cd14 "is_built" = true)
  (k14:keepIn K (.ref f14)=true)
  (a15:nsIn K mainGlobals "check_term" = some (some (.ref f15)))
  (l15:K.lookup f15=some ⟨oc15,od15,.func (PySem.W.fnOf "check_term" "check_term" (aT c0) (aM c0) (aD c0) .none kV15 dc15 pm15 an15 cd15 ct15),sl15⟩)
  (c15:codeIn K cd15 "check_term" = true)
  (k15:keepIn K (.ref f15)=true)
  (a16:nsIn K mainGlobals "is_name" = some (some (.ref f16)))
  (l16:K.lookup f16=some ⟨oc16,od16,.func (PySem.W.fnOf "is_name" "is_name" (aT fB) (aM fB) (aD fB) .none kV16 dc16 pm16 an16 cd16 ct16),sl16⟩)
  (c16:codeIn K cd16 "is_name" = true)
  (k16:keepIn K (.ref f16)=true)
  (a17:nsIn K mainGlobals "is_whole" = some (some (.ref f17)))
  (l17:K.lookup f17=some ⟨oc17,od17,.func (PySem.W.fnOf "is_whole" "is_whole" (aT eT) (aM eT) (aD eT) .none kV17 dc17 pm17 an17 cd17 ct17),sl17⟩)
  (c17:codeIn K cd17 "is_whole" = true)
  (k17:keepIn K (.ref f17)=true)
  (a18:nsIn K mainGlobals "checked_pairs" = some (some (.ref f18)))
  (l18:K.lookup f18=some ⟨oc18,od18,.func (PySem.W.fnOf "checked_pairs" "checked_pairs" (aT bZ) (aM bZ) (aD bZ) .none kV18 dc18 pm18 an18 cd18 ct18),sl18⟩)
  (c18:codeIn K cd18 "checked_pairs" = true)
  (k18:keepIn K (.ref f18)=true)
  (a19:nsIn K mainGlobals "check_names" = some (some (.ref f19)))
  (l19:K.lookup f19=some ⟨oc19,od19,.func (PySem.W.fnOf "check_names" "check_names" (aT cG) (aM cG) (aD cG) .none kV19 dc19 pm19 an19 cd19 ct19),sl19⟩)
  (c19:codeIn K cd19 "check_names" = true)
  (k19:keepIn K (.ref f19)=true)
  (a20:nsIn K mainGlobals "check_parts" = some (some (.ref f20)))
  (l20:K.lookup f20=some ⟨oc20,od20,.func (PySem.W.fnOf "check_parts" "check_parts" (aT cR) (aM cR) (aD cR) .none kV20 dc20 pm20 an20 cd20 ct20),sl20⟩)
  (c20:codeIn K cd20 "check_parts" = true)
  (k20:keepIn K (.ref f20)=true)
  (a21:nsIn K mainGlobals "check_noughts" = some (some (.ref f21)))
  (l21:K.lookup f21=some ⟨oc21,od21,.func (PySem.W.fnOf "check_noughts" "check_noughts" (aT cA) (aM cA) (aD cA) .none kV21 dc21 pm21 an21 cd21 ct21),sl21⟩)
  (c21:codeIn K cd21 "check_noughts" = true)
  (k21:keepIn K (.ref f21)=true)
  (a22:findIn K (.ref C) "__init__" = some (some (.ref f22)))
  (l22:K.lookup f22=some ⟨oc22,od22,.func (PySem.W.fnOf "__init__" "Signs.__init__" (aT bV) (aM bV) (aD bV) .none kV22 dc22 pm22 an22 cd22 ct22),sl22⟩)
  (c22:codeIn K cd22 "Signs.__init__" = true)
  (k22:keepIn K (.ref f22)=true)
  (n22:isFn K (.ref f22)=true)
  (a23:nsIn K mainGlobals "unbracketed" = some (some (.ref f23)))
  (l23:K.lookup f23=some ⟨oc23,od23,.func (PySem.W.fnOf "unbracketed" "unbracketed" (aT dI) (aM dI) (aD dI) .none kV23 dc23 pm23 an23 cd23 ct23),sl23⟩)
  (c23:codeIn K cd23 "unbracketed" = true)
  (k23:keepIn K (.ref f23)=true)
  (a24:nsIn K mainGlobals "is_term" = some (some (.ref f24)))
  (l24:K.lookup f24=some ⟨oc24,od24,.func (PySem.W.fnOf "is_term" "is_term" (aT fV) (aM fV) (aD fV) .none kV24 dc24 pm24 an24 cd24 ct24),sl24⟩)
  (c24:codeIn K cd24 "is_term" = true)
  (k24:keepIn K (.ref f24)=true)
  (a25:nsIn K mainGlobals "read" = some (some (.ref f25)))
  (l25:K.lookup f25=some ⟨oc25,od25,.func (PySem.W.fnOf "read" "read" (aT lF) (aM lF) (aD lF) .none kV25 dc25 pm25 an25 cd25 ct25),sl25⟩)
  (c25:codeIn K cd25 "read" = true)
  (k25:keepIn K (.ref f25)=true)
  (a26:nsIn K mainGlobals "_law_written" = some (some (.ref f26)))
  (l26:K.lookup f26=some ⟨oc26,od26,.func (PySem.W.fnOf "_law_written" "_law_written" (aT bR) (aM bR) (aD bR) .none kV26 dc26 pm26 an26 cd26 ct26),sl26⟩)
  (c26:codeIn K cd26 "_law_written" = true)
  (k26:keepIn K (.ref f26)=true)
  (a27:nsIn K mainGlobals "_law_is_wish" = some (some (.ref f27)))
  (l27:K.lookup f27=some ⟨oc27,od27,.func (PySem.W.fnOf "_law_is_wish" "_law_is_wish" (aT cH) (aM cH) (aD cH) .none kV27 dc27 pm27 an27 cd27 ct27),sl27⟩)
  (c27:codeIn K cd27 "_law_is_wish" = true)
  (k27:keepIn K (.ref f27)=true)
  (a28:nsIn K mainGlobals "_law_is_term" = some (some (.ref f28)))
  (l28:K.lookup f28=some ⟨oc28,od28,.func (PySem.W.fnOf "_law_is_term" "_law_is_term" (aT bF) (aM bF) (aD bF) .none kV28 dc28 pm28 an28 cd28 ct28),sl28⟩)
  (c28:codeIn K cd28 "_law_is_term" = true)
  (k28:keepIn K (.ref f28)=true)
  (a29:nsIn K mainGlobals "_law_part" = some (some (.ref f29)))
  (l29:K.lookup f29=some ⟨oc29,od29,.func (PySem.W.fnOf "_law_part" "_law_part" (aT dB) (aM dB) (aD dB) .none kV29 dc29 pm29 an29 cd29 ct29),sl29⟩)
  (c29:codeIn K cd29 "_law_part" = true)
  (k29:keepIn K (.ref f29)=true)
  (a30:nsIn K mainGlobals "_law_done" = some (some (.ref f30)))
  (l30:K.lookup f30=some ⟨oc30,od30,.func (PySem.W.fnOf "_law_done" "_law_done" (aT cI) (aM cI) (aD cI) .none kV30 dc30 pm30 an30 cd30 ct30),sl30⟩)
  (c30:codeIn K cd30 "_law_done" = true)
  (k30:keepIn K (.ref f30)=true)
  (a31:nsIn K mainGlobals "_law_class" = some (some (.ref f31)))
  (l31:K.lookup f31=some ⟨oc31,od31,.func (PySem.W.fnOf "_law_class" "_law_class" (aT dC) (aM dC) (aD dC) .none kV31 dc31 pm31 an31 cd31 ct31),sl31⟩)
  (c31:codeIn K cd31 "_law_class" = true)
  (k31:keepIn K (.ref f31)=true)
  (a32:nsIn K mainGlobals "_law_told" = some (some (.ref f32)))
  (l32:K.lookup f32=some ⟨oc32,od32,.func (PySem.W.fnOf "_law_told" "_law_told" (aT eF) (aM eF) (aD eF) .none kV32 dc32 pm32 an32 cd32 ct32),sl32⟩)
  (c32:codeIn K cd32 "_law_told" = true)
  (k32:keepIn K (.ref f32)=true)
  (a33:nsIn K mainGlobals "_law_due" = some (some (.ref f33)))
  (l33:K.lookup f33=some ⟨oc33,od33,.func (PySem.W.fnOf "_law_due" "_law_due" (aT eW) (aM eW) (aD eW) .none kV33 dc33 pm33 an33 cd33 ct33),sl33⟩)
  (c33:codeIn K cd33 "_law_due" = true)
  (k33:keepIn K (.ref f33)=true)
  (a34:nsIn K mainGlobals "law" = some (some (.ref f34)))
  (l34:K.lookup f34=some ⟨oc34,od34,.func (PySem.W.fnOf "law" "law" (aT iJ) (aM iJ) (aD iJ) .none kV34 dc34 pm34 an34 cd34 ct34),sl34⟩)
  (c34:codeIn K cd34 "law" = true)
  (k34:keepIn K (.ref f34)=true)
  (g1:plainGet K C Str.empty=true)
  (g2:hasDictIn K C=true)
  (g3:plainOver K C=true)
  (g4:findIn K (.ref C) "__setattr__" = some (some (.builtin "object.__setattr__")))
  (h0:findIn K (.ref C) "fixed_rows" = some none)
  (h1:findIn K (.ref C) "sum_rows" = some none)
  (h2:findIn K (.ref C) "many_by_name" = some none)
  (h3:findIn K (.ref C) "nought_by_name" = some none)
  (g5:makesIn K C=true)
  (g6:keepIn K (.ref C)=true)
  (v0:nsIn K mainGlobals "WISH_SIGNS" = some (some (.str "abcdefghijklmnopqrstuvwxyz0123456789" tk0)))
  (v1:nsIn K mainGlobals "LETTERS" = some (some (.str "abcdefghijklmnopqrstuvwxyz" tk1)))
  (v2:nsIn K mainGlobals "LONGEST_WISH" = some (some (.int 9 tk2)))
  (v3:nsIn K mainGlobals "DEEPEST" = some (some (.int 1000 tk3)))
  (v4:nsIn K mainGlobals "LONGEST_NAME" = some (some (.int 6 tk4)))
  (v5:nsIn K mainGlobals "MOST_FIXED" = some (some (.int 12 tk5)))
  (v6:nsIn K mainGlobals "MOST_SUMS" = some (some (.int 3 tk6)))
  (v7:nsIn K mainGlobals "MOST_PARTS" = some (some (.int 3 tk7)))
  (y0:dH K C_LikeError=true)
  (y1:PySem.W.subIn K (.ref C_NoText) (.ref C_LikeError)=some true)
  (y2:xI K C_NoText C_NoSigns C_NoTerm C_NoFilling C_NoStep C_NoCounts C_NoRow C_NoSide C_TooMuch=true)
  (z0:nsIn K mainGlobals "len" = some none)
  (z1:nsIn K mainGlobals "range" = some none)
  (z2:nsIn K mainGlobals "int" = some none)
  (z3:nsIn K mainGlobals "abs" = some none)
  (z4:nsIn K mainGlobals "min" = some none)
  (z5:nsIn K mainGlobals "max" = some none)
  (z6:nsIn K mainGlobals "tuple" = some none)
  (z7:nsIn K mainGlobals "list" = some none)
  (z8:nsIn K mainGlobals "dict" = some none)
  (z9:nsIn K mainGlobals "set" = some none)
  (z10:nsIn K mainGlobals "isinstance" = some none)
  (z11:nsIn K mainGlobals "str" = some none)
  (z12:nsIn K mainGlobals "bool" = some none)
  (z13:nsIn K mainGlobals "sorted" = some none)
  (z14:nsIn K mainGlobals "reversed" = some none)
  (z15:nsIn K mainGlobals "all" = some none)
  (z16:nsIn K mainGlobals "any" = some none)
  (z17:nsIn K mainGlobals "zip" = some none)
  (z18:nsIn K mainGlobals "repr" = some none)
  (z19:nsIn K mainGlobals "ValueError" = some none)
  : ∃ fd:FuncData,(∀ (s:Shared) (v:Value),BindsTo s fd ⟨[v],[]⟩ [("_law_script",v)])/\∀ base:Heap,K.In base->base.Ns mainGlobals mg->cF l.prog w K mg base bP 104 fa fd ["_law_script"] (spLaw K):=by
 have e:=hfa.symm.trans (PySem.W.mg_of X G a34)
 cases e
 have T:Txt mg:=⟨PySem.W.mg_none_of X G z0,PySem.W.mg_none_of X G z1,PySem.W.mg_none_of X G z2,PySem.W.mg_none_of X G z3,PySem.W.mg_none_of X G z4,PySem.W.mg_none_of X G z5,PySem.W.mg_none_of X G z6,PySem.W.mg_none_of X G z7,PySem.W.mg_none_of X G z8,PySem.W.mg_none_of X G z9,PySem.W.mg_none_of X G z10,PySem.W.mg_none_of X G z11,PySem.W.mg_none_of X G z12,PySem.W.mg_none_of X G z13,PySem.W.mg_none_of X G z14,PySem.W.mg_none_of X G z15,PySem.W.mg_none_of X G z16,PySem.W.mg_none_of X G z17,PySem.W.mg_none_of X G z18,⟨_,PySem.W.mg_of X G v0,⟨_,rfl⟩⟩,⟨_,PySem.W.mg_of X G v1,⟨_,rfl⟩⟩,⟨_,PySem.W.mg_of X G v2,⟨_,rfl⟩⟩,⟨_,PySem.W.mg_of X G v3,⟨_,rfl⟩⟩,⟨_,PySem.W.mg_of X G v4,⟨_,rfl⟩⟩,⟨_,PySem.W.mg_of X G v5,⟨_,rfl⟩⟩,⟨_,PySem.W.mg_of X G v6,⟨_,rfl⟩⟩,⟨_,PySem.W.mg_of X G v7,⟨_,rfl⟩⟩⟩
 have TV:ER mg:=⟨T,PySem.W.mg_none_of X G z19⟩
 have hm_LikeError:=PySem.W.mg_of X G e0
 have g_LikeError:∃ u,mg "LikeError" = some u/\aQ (.ref C_LikeError) u:=⟨_,hm_LikeError,rfl⟩
 have hm_NoSigns:=PySem.W.mg_of X G e1
 have g_NoSigns:∃ u,mg "NoSigns" = some u/\aQ (.ref C_NoSigns) u:=⟨_,hm_NoSigns,rfl⟩
 have hm_NoTerm:=PySem.W.mg_of X G e2
 have g_NoTerm:∃ u,mg "NoTerm" = some u/\aQ (.ref C_NoTerm) u:=⟨_,hm_NoTerm,rfl⟩
 have hx_NoTerm:oN K C_NoTerm:=x2
 have hm_NoText:=PySem.W.mg_of X G e3
 have g_NoText:∃ u,mg "NoText" = some u/\aQ (.ref C_NoText) u:=⟨_,hm_NoText,rfl⟩
 have hx_NoText:oN K C_NoText:=x3
 have hm_NoFilling:=PySem.W.mg_of X G e4
 have g_NoFilling:∃ u,mg "NoFilling" = some u/\aQ (.ref C_NoFilling) u:=⟨_,hm_NoFilling,rfl⟩
 have hm_NoStep:=PySem.W.mg_of X G e5
 have g_NoStep:∃ u,mg "NoStep" = some u/\aQ (.ref C_NoStep) u:=⟨_,hm_NoStep,rfl⟩
 have hm_NoCounts:=PySem.W.mg_of X G e6
 have g_NoCounts:∃ u,mg "NoCounts" = some u/\aQ (.ref C_NoCounts) u:=⟨_,hm_NoCounts,rfl⟩
 have hm_NoRow:=PySem.W.mg_of X G e7
 have g_NoRow:∃ u,mg "NoRow" = some u/\aQ (.ref C_NoRow) u:=⟨_,hm_NoRow,rfl⟩
 have hm_NoSide:=PySem.W.mg_of X G e8
 have g_NoSide:∃ u,mg "NoSide" = some u/\aQ (.ref C_NoSide) u:=⟨_,hm_NoSide,rfl⟩
 have hm_TooMuch:=PySem.W.mg_of X G e9
 have g_TooMuch:∃ u,mg "TooMuch" = some u/\aQ (.ref C_TooMuch) u:=⟨_,hm_TooMuch,rfl⟩
 have hk_LikeError:=y0
 have sub:=y1
 have hkinds:=y2
 have kd:=AU hkinds
 have cl:BO K C:=⟨g1,g2,g3,g4⟩
 have co:IH K C:=⟨cl,h0,h1,h2,h3⟩
 have F1:=bL (st:=eH) l1 c1 k1
 have b1:=F1.binds (ps:=kN) fun _ _ _ _ _ _ us hl=>by apply len2 hl;intros;rfl
 have F2:=bL (st:=eV) l2 c2 k2
 have b2:=F2.binds (ps:=lN) fun _ _ _ _ _ _ us hl=>by apply len2 hl;intros;rfl
 have F3:=bL (st:=eG) l3 c3 k3
 have b3:=F3.binds (ps:=kK) fun _ _ _ _ _ _ us hl=>by apply len2 hl;intros;rfl
 have F4:=bL (st:=eE) l4 c4 k4
 have b4:=F4.binds (ps:=kI) fun _ _ _ _ _ _ us hl=>by apply len2 hl;intros;rfl
 have F5:=bL (st:=dW) l5 c5 k5
 have b5:=F5.binds (ps:=jS) fun _ _ _ _ _ _ us hl=>by apply len2 hl;intros;rfl
 have F6:=bL (st:=cN) l6 c6 k6
 have b6:=F6.binds (ps:=jR) fun _ _ _ _ _ _ us hl=>by apply len1 hl;intros;rfl
 have F7:=bL (st:=dX) l7 c7 k7
 have b7:=F7.binds (ps:=jU) fun _ _ _ _ _ _ us hl=>by apply len1 hl;intros;rfl
 have F8:=bL (st:=dR) l8 c8 k8
 have b8:=F8.binds (ps:=kL) fun _ _ _ _ _ _ us hl=>by apply len3 hl;intros;rfl
 have F9:=bL (st:=cP) l9 c9 k9
 have b9:=F9.binds (ps:=jT) fun _ _ _ _ _ _ us hl=>by apply len2 hl;intros;rfl
 have F10:=bL (st:=dA) l10 c10 k10
 have b10:=F10.binds (ps:=fI) fun _ _ _ _ _ _ us hl=>by apply len5 hl;intros;rfl
 have F11:=bL (st:=dY) l11 c11 k11
 have b11:=F11.binds (ps:=jW) fun _ _ _ _ _ _ us hl=>by apply len2 hl;intros;rfl
 have F12:=bL (st:=cV) l12 c12 k12
 have b12:=F12.binds (ps:=h8) fun _ _ _ _ _ _ us hl=>by apply len2 hl;intros;rfl
 have F13:=bL (st:=fA) l13 c13 k13
 have b13:=F13.binds (ps:=nX) fun _ _ _ _ _ _ us hl=>by apply len1 hl;intros;rfl
 have F14:=bL (st:=eU) l14 c14 k14
 have b14:=F14.binds (ps:=lM) fun _ _ _ _ _ _ us hl=>by apply len2 hl;intros;rfl
 have F15:=bL (st:=c0) l15 c15 k15
 have b15:=F15.binds (ps:=jQ) fun _ _ _ _ _ _ us hl=>by apply len2 hl;intros;rfl
 have F16:=bL (st:=fB) l16 c16 k16
 have b16:=F16.binds (ps:=nZ) fun _ _ _ _ _ _ us hl=>by apply len1 hl;intros;rfl
 have F17:=bL (st:=eT) l17 c17 k17
 have b17:=F17.binds (ps:=lL) fun _ _ _ _ _ _ us hl=>by apply len1 hl;intros;rfl
 have F18:=bL (st:=bZ) l18 c18 k18
 have b18:=F18.binds (ps:=gI) fun _ _ _ _ _ _ us hl=>by apply len3 hl;intros;rfl
 have F19:=bL (st:=cG) l19 c19 k19
 have b19:=F19.binds (ps:=iU) fun _ _ _ _ _ _ us hl=>by apply len1 hl;intros;rfl
 have F20:=bL (st:=cR) l20 c20 k20
 have b20:=F20.binds (ps:=iT) fun _ _ _ _ _ _ us hl=>by apply len1 hl;intros;rfl
 have F21:=bL (st:=cA) l21 c21 k21
 have b21:=F21.binds (ps:=gJ) fun _ _ _ _ _ _ us hl=>by apply len2 hl;intros;rfl
 have F22:=bL (st:=bV) l22 c22 k22
 have b22:=F22.binds (ps:=fZ) fun _ _ _ _ _ _ us hl=>by apply len3 hl;intros;rfl
 have F23:=bL (st:=dI) l23 c23 k23
 have b23:=F23.binds (ps:=iS) fun _ _ _ _ _ _ us hl=>by apply len1 hl;intros;rfl
 have F24:=bL (st:=fV) l24 c24 k24
 have b24:=F24.binds (ps:=nY) fun _ _ _ _ _ _ us hl=>by apply len2 hl;intros;rfl
 have F25:=bL (st:=lF) l25 c25 k25
 have b25:=F25.binds (ps:=xW) fun _ _ _ _ _ _ us hl=>by apply len2 hl;intros;rfl
 have F26:=bL (st:=bR) l26 c26 k26
 have b26:=F26.binds (ps:=dN) fun _ _ _ _ _ _ us hl=>by apply len1 hl;intros;rfl
 have F27:=bL (st:=cH) l27 c27 k27
 have b27:=F27.binds (ps:=hZ) fun _ _ _ _ _ _ us hl=>by apply len1 hl;intros;rfl
 have F28:=bL (st:=bF) l28 c28 k28
 have b28:=F28.binds (ps:=dP) fun _ _ _ _ _ _ us hl=>by apply len2 hl;intros;rfl
 have F29:=bL (st:=dB) l29 c29 k29
 have b29:=F29.binds (ps:=fJ) fun _ _ _ _ _ _ us hl=>by apply len2 hl;intros;rfl
 have F30:=bL (st:=cI) l30 c30 k30
 have b30:=F30.binds (ps:=kM) fun _ _ _ _ _ _ us hl=>by apply len4 hl;intros;rfl
 have F31:=bL (st:=dC) l31 c31 k31
 have b31:=F31.binds (ps:=jV) fun _ _ _ _ _ _ us hl=>by apply len1 hl;intros;rfl
 have F32:=bL (st:=eF) l32 c32 k32
 have b32:=F32.binds (ps:=kJ) fun _ _ _ _ _ _ us hl=>by apply len2 hl;intros;rfl
 have F33:=bL (st:=eW) l33 c33 k33
 have b33:=F33.binds (ps:=lO) fun _ _ _ _ _ _ us hl=>by apply len2 hl;intros;rfl
 have F34:=bL (st:=iJ) l34 c34 k34
 refine ⟨PySem.W.fnOf "law" "law" (aT iJ) (aM iJ) (aD iJ) .none kV34 dc34 pm34 an34 cd34 ct34,fun s v=>.of_eq rfl,fun base _ _=>?_⟩
 have O__law_cell:dQ l.prog w K mg base bP 1 "_law_cell" (wR K):=⟨f1,_,_,GM F1 T,PySem.W.mg_of X G a1,k1,b1⟩
 have O__law_pot:dQ l.prog w K mg base bP 2 "_law_pot" (spPot K):=⟨f2,_,_,JO F2 T O__law_cell,PySem.W.mg_of X G a2,k2,b2⟩
 have O__law_take:dQ l.prog w K mg base bP 1 "_law_take" fL:=⟨f3,_,_,GF F3 T,PySem.W.mg_of X G a3,k3,b3⟩
 have O__law_word:dQ l.prog w K mg base bP 1 "_law_word" wK:=⟨f4,_,_,GB F4 T,PySem.W.mg_of X G a4,k4,b4⟩
 have O__law_names:dQ l.prog w K mg base bP 2 "_law_names" sV:=⟨f5,_,_,DN F5 T O__law_take O__law_word,PySem.W.mg_of X G a5,k5,b5⟩
 have O__law_signs:dQ l.prog w K mg base bP 3 "_law_signs" sR:=⟨f6,_,_,DH F6 T O__law_take O__law_names,PySem.W.mg_of X G a6,k6,b6⟩
 have O__law_drawn:dQ l.prog w K mg base bP 2 "_law_drawn" sW:=⟨f7,_,_,DR F7 T O__law_take,PySem.W.mg_of X G a7,k7,b7⟩
 have O__law_leaf:dQ l.prog w K mg base bP 2 "_law_leaf" nG:=⟨f8,_,_,GJ F8 T O__law_take,PySem.W.mg_of X G a8,k8,b8⟩
 have O__law_heads:dQ l.prog w K mg base bP 1 "_law_heads" lW:=⟨f9,_,_,DQ F9 T,PySem.W.mg_of X G a9,k9,b9⟩
 have O__law_term:dQ l.prog w K mg base bP 8 "_law_term" (lD 4):=DB F10 T O__law_take O__law_leaf O__law_heads (PySem.W.mg_of X G a10) k10 b10 4
 have O_Signs_many:ET l.prog w K mg base bP 1 C "many" (wO K C):=⟨f11,_,_,GI F11 T,⟨a11,n11,k11⟩,b11,cl⟩
 have O_Signs_nought:ET l.prog w K mg base bP 1 C "nought" (pJ K C):=⟨f12,_,_,AL F12 T,⟨a12,n12,k12⟩,b12,cl⟩
 have O_is_wish:dQ l.prog w K mg base bP 1 "is_wish" sP:=⟨f13,_,_,DF F13 T,PySem.W.mg_of X G a13,k13,b13⟩
 have O_is_built:dQ l.prog w K mg base bP 2 "is_built" (pM K C):=⟨f14,_,_,AO F14 T O_is_wish O_Signs_many O_Signs_nought,PySem.W.mg_of X G a14,k14,b14⟩
 have O_check_term:dQ l.prog w K mg base (yA l.prog w) 3 "check_term" (pL K C C_NoTerm):=⟨f15,_,_,AN F15 T hm_NoTerm hx_NoTerm O_is_built,PySem.W.mg_of X G a15,k15,b15⟩
 have O_is_name:dQ l.prog w K mg base bP 1 "is_name" wN:=⟨f16,_,_,GH F16 T,PySem.W.mg_of X G a16,k16,b16⟩
 have O_is_whole:dQ l.prog w K mg base bP 1 "is_whole" sQ:=⟨f17,_,_,DG F17 T,PySem.W.mg_of X G a17,k17,b17⟩
 have O_checked_pairs:dQ l.prog w K mg base bP 1 "checked_pairs" sU:=⟨f18,_,_,DM F18 T,PySem.W.mg_of X G a18,k18,b18⟩
 have O_check_names:dQ l.prog w K mg base bP 2 "check_names" pK:=⟨f19,_,_,AM F19 T O_is_name,PySem.W.mg_of X G a19,k19,b19⟩
 have O_check_parts:dQ l.prog w K mg base bP 2 "check_parts" sT:=⟨f20,_,_,DL F20 T O_is_whole,PySem.W.mg_of X G a20,k20,b20⟩
 have O_check_noughts:dQ l.prog w K mg base bP 1 "check_noughts" lE:=⟨f21,_,_,u4 F21 T,PySem.W.mg_of X G a21,k21,b21⟩
 have O_Signs___init__:KL l.prog w K mg base bP 3 "Signs" C (wP K C):=⟨f22,_,_,GK F22 T co O_checked_pairs O_check_names O_check_parts O_check_noughts,PySem.W.mg_of X G m0,⟨g5,a22,n22,g6⟩,b22⟩
 have O_unbracketed:dQ l.prog w K mg base bP 1 "unbracketed" wL:=⟨f23,_,_,GC F23 T,PySem.W.mg_of X G a23,k23,b23⟩
 have O_is_term:dQ l.prog w K mg base bP 4 "is_term" (nI K C):=⟨f24,_,_,xA F24 T hm_NoTerm hx_NoTerm O_check_term,PySem.W.mg_of X G a24,k24,b24⟩
 have O_read:dQ l.prog w K mg base (yA l.prog w) 5 "read" (sS K C C_NoText):=⟨f25,_,_,DK F25 T hm_NoText hx_NoText O_unbracketed O_is_term,PySem.W.mg_of X G a25,k25,b25⟩
 have O__law_written:dQ l.prog w K mg base bP 6 "_law_written" (gT 4):=uX F26 T (PySem.W.mg_of X G a26) k26 b26 4
 have O__law_is_wish:dQ l.prog w K mg base bP 1 "_law_is_wish" lV:=⟨f27,_,_,DO F27 T,PySem.W.mg_of X G a27,k27,b27⟩
 have O__law_is_term:dQ l.prog w K mg base bP 102 "_law_is_term" (jG 100):=AJ F28 T O__law_is_wish (PySem.W.mg_of X G a28) k28 b28 100
 have O__law_part:dQ l.prog w K mg base bP 102 "_law_part" (nF 100):=DC F29 T (PySem.W.mg_of X G a29) k29 b29 100
 have O__law_done:dQ l.prog w K mg base bP 2 "_law_done" wQ:=⟨f30,_,_,GL F30 T O__law_take,PySem.W.mg_of X G a30,k30,b30⟩
 have O__law_class:KK l.prog w K mg base bP 1 "_law_class" (sX C_NoText):=⟨f31,_,_,DS F31 TV kd g_NoSigns g_NoTerm g_NoText g_NoFilling g_NoStep g_NoCounts g_NoRow g_NoSide g_TooMuch,PySem.W.mg_of X G a31,k31,b31⟩
 have O__law_told:dQ l.prog w K mg base bP 6 "_law_told" (wM K C):=⟨f32,_,_,GD F32 TV hm_LikeError hk_LikeError sub O_read O__law_class,PySem.W.mg_of X G a32,k32,b32⟩
 have O__law_due:dQ l.prog w K mg base bP 103 "_law_due" (spDue K):=⟨f33,_,_,JQ F33 TV O__law_part O__law_is_term,PySem.W.mg_of X G a33,k33,b33⟩
 exact JP F34 TV O__law_pot O__law_signs O_Signs___init__ O__law_drawn O__law_term O__law_written O__law_take O__law_done O__law_told O__law_due
theorem walk {l:PySem.W.OpenLaw}{q:Program}{loose:aW}{XP:(eJ)->Heap->Prop}{YP:World->Heap->Prop}{d:DefRec}{K:Params->PySem.W.Frag}(hn:l.most=some 63)(hdf:d.params.defaults=[])
  (hY:∀ (w:World) (h:Heap),YP w h->(K w.params).In h)
  (F:∀ (w:World) (mg:eJ) (fa:Addr) (h:Heap),(K w.params).In h->h.Ns mainGlobals mg->mg d.name=some (.ref fa) ->
   ∃ fd:FuncData,(∀ (s:Shared) (u:Value),BindsTo s fd ⟨[u],[]⟩ [("_law_script",u)])/\∀ base:Heap,(K w.params).In base->base.Ns mainGlobals mg->cF l.prog w (K w.params) mg base bP 104 fa fd ["_law_script"] (spLaw (K w.params))) :
  PySem.W.WalkO q loose XP YP l.row.toRowW d [] (fun f vs=>PySem.call f vs) :=
 L2.FA (n:=63) (k:=104) (x:="_law_script") (CX:=fun _=>bP) (sp:=fun w=>spLaw (K w.params)) hn (by decide) hdf ⟨rfl,by decide,by decide⟩ hY F (fun _ _ a ns hl _ hS=>⟨a,ns,rfl,hS,hl,fun _=>rfl⟩) fun _ _ _ _ _ z=>z
end Lw
open PySem PySem.W PyProof.Rows
set_option maxRecDepth 100000 in
set_option maxHeartbeats 0 in
theorem PySem.Challenge.cw_likefill_k18_whole_texts_of_no_term_holds : PySem.Challenge.rw_likefill_k18_whole_texts_of_no_term.Holds := by
 w_on
 refine holds_law (by kernel_rfl) fun said=>?_
 refine holds_open (q:=Lw.q0) (loose:=[]) (Xt:=Lw.LX) (XP:=XL Lw.q0 []) (YP:=InK Lw.K0) Lw.left0 (InK.of Lw.keys0) InK.keeps (fun s e=>xl_of s (Bool.and_eq_true_iff.mp e).1) XL.keeps (by rfl) (by rfl) (by rfl) (fun s e=>recFacts_of (Bool.and_eq_true_iff.mp e).2) (by rfl) said (by decide +kernel) ⟨rfl,rfl,rfl,rfl,rfl,by decide +kernel⟩ (by w_witness2) ?_
 k_fill
 refine Lw.walk (l:=PySem.Challenge.rw_likefill_k18_whole_texts_of_no_term) rfl rfl (fun w h Y=>Y) ?F
 case F =>
  intro w mg fa h KX G hmg
  refine' Lw.KC KX G hmg ?_ ?_ ?_ ?_ ?x2 ?_ ?x3 ?_ ?_ ?_ ?_ ?_ ?_ ?_ ?_ ?_ ?_ ?_ ?_ ?_ ?_ ?_ ?_ ?_ ?_ ?_ ?_ ?_ ?_ ?_ ?_ ?_ ?_ ?_ ?_ ?_ ?_ ?_ ?_ ?_ ?_ ?_ ?_ ?_ ?_ ?_ ?_ ?_ ?_ ?_ ?_ ?_ ?_ ?_ ?_ ?_ ?_ ?_ ?_ ?_ ?_ ?_ ?_ ?_ ?_ ?_ ?_ ?_ ?_ ?_ ?_ ?_ ?_ ?_ ?_ ?_ ?_ ?_ ?_ ?_ ?_ ?_ ?_ ?_ ?_ ?_ ?_ ?_ ?_ ?_ ?_ ?_ ?_ ?_ ?_ ?_ ?_ ?_ ?_ ?_ ?_ ?_ ?_ ?_ ?_ ?_ ?_ ?_ ?_ ?_ ?_ ?_ ?_ ?_ ?_ ?_ ?_ ?_ ?_ ?_ ?_ ?_ ?_ ?_ ?_ ?_ ?_ ?_ ?_ ?_ ?_ ?_ ?_ ?_ ?_ ?_ ?_ ?_ ?_ ?_ ?_ ?_ ?_ ?_ ?_ ?_ ?_ ?_ ?_ ?_ ?_ ?_ ?_ ?_ ?_ ?_ ?_ ?_ ?_ ?_ ?_ ?_ ?_ ?_ ?_ ?_ ?_ ?_ ?_ ?_ ?y0 ?y1 ?y2 ?_ ?_ ?_ ?_ ?_ ?_ ?_ ?_ ?_ ?_ ?_ ?_ ?_ ?_ ?_ ?_ ?_ ?_ ?_ ?_
  all_goals try k_is
  (case x2=>k_exc);(case x3=>k_exc);all_goals kernel_rfl
end
