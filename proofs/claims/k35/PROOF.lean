import PyProof.Rows.All
import Wide.All
import OpenK.AllK
import Wide.FinOn
import Lean
import PyProof.EqAt
import PyProof.EqKinds
import PyProof.TupleCall
import PyProof.NeKinds
import KE.LcSums
import PyProof.ZipIter
import PyProof.Rows.SumAny
import PyProof.ExcClass3
import PyProof.ExcBaseAll.ValueError
import OpenK.KOwn
import PyProof.EnumFor
import PyProof.EnumMake
import PyProof.TupleIter
import KE.KIsAll
import PyProof.ExcArgsOwn
import PyProof.NsDelKeeps
import KE.KDictOf
import PyProof.AttrMissHeap
import PyProof.AutoSeq1
import KE.KRevIter
import PyProof.TupleOfSeq
import PyProof.CollectIter
import PyProof.TupleOfStr
import PyProof.SliceStr2
import PyProof.StrWalks
import KE.KSortTup
import PyProof.Rows.SetFrom
import PyProof.SetRoads
import PyProof.Rows.SortStr
import PyProof.Walks
import PyProof.CollectWalk
import PyProof.ReprRoads
import PyProof.CallFns
import PyProof.StrCalls2
import PyProof.StrBlock
import PyProof.DictItemsLoops
import KE.KPairComp
import PyProof.FactsAll.range_2
import PyProof.Rows.Tup
import PyProof.DictWalks
import KE.KDictList
import KE.KEqDict
import PyProof.Rows.DictMethods
import PyProof.AutoListH
import PyProof.Rows.StrKeys3
import PyProof.Rows.CountFlat
import PyProof.Rows.MinMaxN
import KE.KLam
import PySem.Challenge.RW_likefill_k35_no_walks
set_option Elab.async false
set_option linter.all false
set_option maxRecDepth 100000
set_option compiler.extract_closed false
set_option maxHeartbeats 4000000
open Lean Parser.Term in
local macro_rules
  | `(fun $bs:funBinder* => $b) => do
    let c (x : Syntax) := x.isOfKind ``anonymousCtor
    let some i := bs.findIdx? (c ·.raw) | Macro.throwUnsupported
    let xs := bs[i]!.raw[1].getSepArgs
    let n := xs.size
    if n < 3 || xs.any (fun x => !(x.isIdent || x.isOfKind ``hole || c x) || x.getId == `rfl) then Macro.throwUnsupported
    let mut r := b
    if i + 1 < bs.size then r ← `(fun $(bs.extract (i+1) bs.size)* => $b)
    let mut g : TSyntax ``funBinder := ⟨xs[n-1]!⟩
    for k in [0:n-1] do
      let h := mkIdent (← Macro.addMacroScope (.mkSimple s!"h{k}"))
      r ← `(($h).elim fun $(⟨xs[n-2-k]!⟩) $g => clear% $h; $r)
      g := ⟨h⟩
    `(fun $(bs.extract 0 i)* $g => $r)
abbrev aa:=@PySem.wpAny_bind
abbrev ab:=@if_neg
abbrev ac:=@Nat.le_refl
abbrev ae:=@List.length_map
abbrev af:=@PySem.Heap.get?_push_of_some
abbrev ag:=@List.size_toArray
abbrev ai:=@if_pos
abbrev aj:=@Nat.lt_of_le_of_lt
abbrev ak:=@PySem.wpAny_pure
abbrev ao:=@Nat.le_trans
abbrev ap:=@List.length_cons
abbrev aq:=@List.length_append
abbrev ar:=@PySem.Heap.get?_push_size
abbrev au:=@Nat.zero_le
abbrev av:=@List.mem_cons_self
abbrev aw:=@List.getElem?_eq_getElem
abbrev ax:=@List.map_append
abbrev ay:=@List.mem_cons_of_mem
abbrev az:=@PySem.Heap.lt_size
abbrev bd:=@List.map_cons
abbrev bf:=@Nat.lt_of_lt_of_le
abbrev bg:=@PySem.wpAny_loadPart'
abbrev bh:=@decide_eq_true
abbrev bi:=@List.mem_of_getElem?
abbrev bj:=@decide_eq_false
abbrev bn:=@List.append_nil
abbrev bo:=@Nat.ne_of_lt
abbrev br:=@Array.length_toList
abbrev bu:=@of_decide_eq_true
abbrev bv:=@List.length_take
abbrev bw:=@List.take_length
abbrev bx:=@List.length_drop
abbrev bz:=@List.mem_append_right
abbrev bI:=@List.getElem?_map
abbrev bS:=@Nat.add_le_add_left
abbrev ca:=@List.lookup_cons
abbrev cf:=@Nat.lt_irrefl
abbrev cg:=@Bool.eq_iff_iff
abbrev ci:=@PySem.wpAny_newObj_type
abbrev cj:=@List.mem_append_left
abbrev ck:=@PySem.wpAny_holding
abbrev cm:=@List.length_singleton
abbrev cp:=@List.append_assoc
abbrev cq:=@Int.toNat_natCast
abbrev cr:=@List.getElem?_eq_some_iff
abbrev cs:=@List.mem_singleton
abbrev cu:=@List.mem_cons
abbrev cx:=@List.mem_append
abbrev cy:=@List.mem_map
abbrev cz:=@beq_eq_false_iff_ne
abbrev da:=@List.nodup_cons
abbrev db:=@List.mem_filter
abbrev dc:=@PySem.W.mg_of
abbrev de:=@PySem.W.mg_none_of
abbrev df:=@PySem.F.plainAttrs_list
abbrev dg:=@PySem.F.type_list_append
abbrev dh:=@PySem.F.slot_list_append
abbrev di:=@PySem.PassesOwn.never
noncomputable abbrev c9:=List (PySem.Addr×PySem.Obj)
noncomputable abbrev cL:=PySem.Value->PySem.Shared->Prop
noncomputable abbrev cH:=List (PySem.Str×Int)
noncomputable abbrev bH:=List (PySem.Str×PySem.Str)
noncomputable abbrev cA:=List PySem.Value
noncomputable abbrev aS:=List PySem.Str
noncomputable abbrev jF:=PySem.Str->Option PySem.Value
noncomputable abbrev lM:=List PySem.Expr
noncomputable abbrev iR:=Array PySem.Value
noncomputable abbrev LI:=Nat->PySem.Heap->Prop
theorem aI {a b:Prop}(x:a)(y:b):a/\b:=⟨x,y⟩
namespace L2
open PySem
noncomputable def yL (s:Stmt)(j:Nat):Stmt:=match s with
 | .ClassDef _ _ _ body _ _ _ _ _ _ _=>body.getD j (.Pass ⟨0,0,0,0⟩)
 | _=>.Pass ⟨0,0,0,0⟩
noncomputable def c6 (s:Stmt):Arguments:=match s with
 | .FunctionDef _ a _ _ _ _ _ _ _ _=>a
 | _=>{posonlyargs:=[],args:=[],vararg:=none,kwonlyargs:=[],kw_defaults:=[],kwarg:=none,defaults:=[]}
noncomputable def cP (s:Stmt):List Stmt:=match s with
 | .FunctionDef _ _ b _ _ _ _ _ _ _=>b
 | _=>[]
noncomputable def aJ (s:Stmt):Scope:=match s with
 | .FunctionDef _ _ _ _ _ _ a _ _ _=>a
 | _=>{kind:=.function,names:=[],isGenerator:=false,isCoroutine:=false}
end L2
namespace Lw
open PySem L2
noncomputable def top (i:Nat):Stmt:=PySem.Challenge.pw_likefill_k35_no_walks.main.body.getD i (.Pass ⟨0,0,0,0⟩)
noncomputable abbrev jI:Stmt:=top 43
noncomputable abbrev d8:Stmt:=top 44
noncomputable abbrev jJ:Stmt:=top 45
noncomputable abbrev fT:Stmt:=top 47
noncomputable abbrev rE:Stmt:=top 59
noncomputable abbrev j5:Stmt:=top 21
noncomputable abbrev kK:Stmt:=top 22
noncomputable abbrev fY:Stmt:=top 23
noncomputable abbrev pD:Stmt:=top 24
noncomputable abbrev iE:Stmt:=top 25
noncomputable abbrev gY:Stmt:=top 26
noncomputable abbrev pE:Stmt:=top 27
noncomputable abbrev kM:Stmt:=top 28
noncomputable abbrev fL:Stmt:=top 29
noncomputable abbrev fF:Stmt:=top 30
noncomputable abbrev j6:Stmt:=top 11
noncomputable abbrev kJ:Stmt:=top 12
noncomputable abbrev eE:Stmt:=top 13
noncomputable abbrev eG:Stmt:=top 14
noncomputable abbrev fG:Stmt:=top 15
noncomputable abbrev eF:Stmt:=top 16
noncomputable abbrev cD:Stmt:=yL (top 10) 0
noncomputable abbrev eA:Stmt:=yL (top 10) 3
noncomputable abbrev cY:Stmt:=yL (top 10) 4
noncomputable abbrev jK:Stmt:=top 42
noncomputable abbrev gZ:Stmt:=top 46
noncomputable abbrev fZ:Stmt:=top 49
noncomputable abbrev iG:Stmt:=top 50
noncomputable abbrev eZ:Stmt:=top 51
noncomputable abbrev dC:Stmt:=top 52
noncomputable abbrev eH:Stmt:=top 53
noncomputable abbrev eY:Stmt:=top 54
noncomputable abbrev iF:Stmt:=top 55
noncomputable abbrev dW:Stmt:=top 56
noncomputable abbrev eU:Stmt:=top 57
noncomputable abbrev gL:Stmt:=top 58
noncomputable abbrev kL:Stmt:=top 32
noncomputable abbrev cS:Stmt:=top 33
noncomputable abbrev tH:Stmt:=top 36
noncomputable abbrev fE:Stmt:=top 37
noncomputable abbrev lX:Stmt:=top 38
noncomputable abbrev eQ:Stmt:=top 39
noncomputable abbrev eT:Stmt:=top 40
end Lw
namespace Lw
open PySem PySem.W L2
noncomputable def eO (P:Params)(x:Str)(t:Tok)(v:Value):DictEntry:=⟨PyData.keyHash P x,.str x t,v⟩
noncomputable def eR (P:Params)(x:Str)(t:Tok)(a:Addr):DictEntry:=eO P x t (.ref a)
noncomputable def dO (es:List DictEntry)(n:Nat):Obj:=⟨.type "dict",none,.dict es.toArray n,#[]⟩
noncomputable def fO (x q:Str)(st:Stmt)(m:Str)(t:Tok)(c:Addr):Obj:=⟨.type "function",none,.func (fnOf x q (c6 st) (cP st) (aJ st) .none .none .none (.str m t) none (.ref c) .none),#[]⟩
noncomputable def cO (x q:Str)(t1 c t3:Tok)(l n f:Int)(r1:Addr)(b:Bool)(h:Int)(e:Addr)(u v w:Value)(d:Addr)(g:Int)(a:Tok):Obj :=
 ⟨.type "code",none,.fields #[.str x t1,.str q c,.str "/claim/cut.py" t3,.int l 0,.int n 0,.int 0 0,.int 0 0,.int f 0,.ref r1,.bool b,.int h 0,.ref e,u,v,w,.ref d,.int g 0,.int l 0,.str "/claim/cut.py" a],#[]⟩
noncomputable def gO (x:Str)(st:Stmt)(m:Str)(t:Tok)(c:Addr):Obj:=fO x x st m t c
noncomputable def hO (x:Str)(t1 c t3:Tok)(l n f:Int)(r1:Addr)(b:Bool)(h:Int)(e:Addr)(u v w:Value)(d:Addr)(g:Int)(a:Tok):Obj:=cO x x t1 c t3 l n f r1 b h e u v w d g a
noncomputable def mO0:Str:="law_likefill_k35_no_walks"
noncomputable def mO1:Str:="likefill.signs"
noncomputable def mO2:Str:="likefill.terms"
noncomputable def mO3:Str:="likefill.walks"
noncomputable def K0 (P:Params):PySem.W.Frag :=
 (nat_lit 3,dO [eO P "__name__" 165 (.str "law_likefill_k35_no_walks" 504),eO P "__doc__" 166 .none,eO P "__package__" 167 .none,eO P "__loader__" 168 (.builtin "__main__.__loader__#opaque"),eO P "__spec__" 169 .none,eR P "__annotations__" 170 6,eR P "__builtins__" 171 4,eO P "__file__" 173 (.str "/claim/cut.py" 172),eO P "__cached__" 174 .none,eR P "LikeError" 206 24,eR P "NoSigns" 222 37,eR P "NoTerm" 238 49,eO P "LETTERS" 242 (.str "abcdefghijklmnopqrstuvwxyz" 241),eO P "LONGEST_NAME" 244 (.int 6 243),eO P "MOST_FIXED" 246 (.int 12 245),eO P "MOST_SUMS" 248 (.int 3 247),eO P "MOST_PARTS" 250 (.int 3 249),eR P "Signs" 310 94,eR P "is_name" 316 103,eR P "is_whole" 323 110,eR P "checked_pairs" 329 115,eR P "check_names" 335 120,eR P "check_parts" 341 125,eR P "check_noughts" 347 130,eO P "WISH_SIGNS" 351 (.str "abcdefghijklmnopqrstuvwxyz0123456789" 350),eO P "LONGEST_WISH" 353 (.int 9 352),eO P "DEEPEST" 355 (.int 1000 354),eR P "is_wish" 361 135,eR P "is_built" 369 142,eR P "check_term" 375 147,eR P "walked" 385 154,eR P "order_mark" 392 161,eR P "order_key" 398 166,eR P "opened" 406 173,eR P "flat_sum" 417 180,eR P "flat_of_parts" 427 187,eR P "from_within" 433 192,eR P "in_pairs" 446 199,eR P "paired" 455 206,eR P "BACK" 473 207,eR P "walk" 479 212,eR P "led_to_flat" 485 217,eR P "placed" 491 222,eR P "steps_of_sum" 497 227,eR P "steps_inward" 503 232,eR P "_law_from" 513 239,eR P "_law_take" 522 246,eR P "_law_signs" 528 251,eR P "_law_leaf" 537 258,eR P "_law_head" 543 263,eR P "_law_term" 559 270,eR P "_law_paired" 565 275,eR P "_law_parts" 575 282,eR P "_law_mixed" 585 289,eR P "_law_bracketed" 595 296,eR P "_law_shuffled" 601 301,eR P "_law_leaves" 607 306,eR P "_law_depth" 613 311,eR P "_law_other" 623 318,eR P "_law_with_leaf" 635 325,eR P "_law_leaf_at" 645 332,eR P "_law_unlike" 661 339,eR P "law" 677 346] 63) ::
 (nat_lit 23,dO [eO P "__module__" 196 (.str "likefill.errors" 187),eO P "__firstlineno__" 200 (.int 2 199),eR P "__static_attributes__" 201 22,eR P "__weakref__" 203 25,eO P "__doc__" 204 .none] 3) ::
 (nat_lit 24,⟨.type "type",none,.cls ⟨"LikeError",[(.type "ValueError")],[(.ref 24),(.type "ValueError"),(.type "Exception"),(.type "BaseException"),(.type "object")],23,"LikeError",true,[],[(.ref 37),(.ref 49)],false,none,false⟩,#[some (.ref 15),none,some (.str "LikeError" 189),some (.str "LikeError" 197),some (.builtin "ValueError.__new__"),some (.bool true)]⟩) ::
 (nat_lit 36,dO [eO P "__module__" 214 (.str "likefill.errors" 187),eO P "__firstlineno__" 218 (.int 4 217),eR P "__static_attributes__" 219 35,eO P "__doc__" 220 .none] 2) ::
 (nat_lit 37,⟨.type "type",none,.cls ⟨"NoSigns",[(.ref 24)],[(.ref 37),(.ref 24),(.type "ValueError"),(.type "Exception"),(.type "BaseException"),(.type "object")],36,"NoSigns",true,[],[],false,none,false⟩,#[some (.ref 28),none,some (.str "NoSigns" 207),some (.str "NoSigns" 215),some (.builtin "ValueError.__new__"),some (.bool true)]⟩) ::
 (nat_lit 48,dO [eO P "__module__" 230 (.str "likefill.errors" 187),eO P "__firstlineno__" 234 (.int 6 233),eR P "__static_attributes__" 235 47,eO P "__doc__" 236 .none] 2) ::
 (nat_lit 49,⟨.type "type",none,.cls ⟨"NoTerm",[(.ref 24)],[(.ref 49),(.ref 24),(.type "ValueError"),(.type "Exception"),(.type "BaseException"),(.type "object")],48,"NoTerm",true,[],[],false,none,false⟩,#[some (.ref 40),none,some (.str "NoTerm" 223),some (.str "NoTerm" 231),some (.builtin "ValueError.__new__"),some (.bool true)]⟩) ::
 (nat_lit 62,cO "__init__" "Signs.__init__" 263 264 265 16 3 3 59 true 181 60 .none .none .none 61 266 267) ::
 (nat_lit 63,fO "__init__" "Signs.__init__" cD "likefill.signs" 239 62) ::
 (nat_lit 83,cO "many" "Signs.many" 283 284 285 33 2 3 78 true 181 79 .none (.ref 80) (.ref 81) 82 288 289) ::
 (nat_lit 84,fO "many" "Signs.many" eA "likefill.signs" 239 83) ::
 (nat_lit 90,cO "nought" "Signs.nought" 291 292 293 36 2 3 85 true 181 86 .none (.ref 87) (.ref 88) 89 296 297) ::
 (nat_lit 91,fO "nought" "Signs.nought" cY "likefill.signs" 239 90) ::
 (nat_lit 93,dO [eO P "__module__" 258 (.str "likefill.signs" 239),eO P "__firstlineno__" 262 (.int 14 261),eR P "__init__" 268 63,eR P "fixed" 275 70,eR P "sums" 282 77,eR P "many" 290 84,eR P "nought" 298 91,eR P "__static_attributes__" 303 92,eR P "__dict__" 305 95,eR P "__weakref__" 307 96,eO P "__doc__" 308 .none] 4) ::
 (nat_lit 94,⟨.type "type",none,.cls ⟨"Signs",[(.type "object")],[(.ref 94),(.type "object")],93,"Signs",true,[],[],false,none,false⟩,#[none,none,some (.str "Signs" 251),some (.str "Signs" 259),some (.builtin "object.__new__"),some (.bool true)]⟩) ::
 (nat_lit 102,hO "is_name" 311 312 313 38 1 3 99 true 181 100 .none .none .none 101 314 315) ::
 (nat_lit 103,gO "is_name" j6 mO1 239 102) ::
 (nat_lit 109,hO "is_whole" 317 318 319 42 1 3 104 true 181 105 .none (.ref 106) (.ref 107) 108 321 322) ::
 (nat_lit 110,gO "is_whole" kJ mO1 239 109) ::
 (nat_lit 114,hO "checked_pairs" 324 325 326 44 3 3 111 true 181 112 .none .none .none 113 327 328) ::
 (nat_lit 115,gO "checked_pairs" eE mO1 239 114) ::
 (nat_lit 119,hO "check_names" 330 331 332 51 1 3 116 true 181 117 .none .none .none 118 333 334) ::
 (nat_lit 120,gO "check_names" eG mO1 239 119) ::
 (nat_lit 124,hO "check_parts" 336 337 338 57 1 3 121 true 181 122 .none .none .none 123 339 340) ::
 (nat_lit 125,gO "check_parts" fG mO1 239 124) ::
 (nat_lit 129,hO "check_noughts" 342 343 344 63 2 3 126 true 181 127 .none .none .none 128 345 346) ::
 (nat_lit 130,gO "check_noughts" eF mO1 239 129) ::
 (nat_lit 134,hO "is_wish" 356 357 358 74 1 3 131 true 181 132 .none .none .none 133 359 360) ::
 (nat_lit 135,gO "is_wish" j5 mO2 348 134) ::
 (nat_lit 141,hO "is_built" 362 363 364 78 2 3 136 true 181 137 .none (.ref 138) (.ref 139) 140 367 368) ::
 (nat_lit 142,gO "is_built" kK mO2 348 141) ::
 (nat_lit 146,hO "check_term" 370 371 372 86 2 3 143 true 181 144 .none .none .none 145 373 374) ::
 (nat_lit 147,gO "check_term" fY mO2 348 146) ::
 (nat_lit 153,hO "walked" 376 377 378 94 1 3 148 true 181 149 .none (.ref 150) (.ref 151) 152 383 384) ::
 (nat_lit 154,gO "walked" pD mO2 348 153) ::
 (nat_lit 160,hO "order_mark" 386 387 388 103 1 3 155 true 181 156 .none (.ref 157) (.ref 158) 159 390 391) ::
 (nat_lit 161,gO "order_mark" iE mO2 348 160) ::
 (nat_lit 165,hO "order_key" 393 394 395 107 1 3 162 true 181 163 .none .none .none 164 396 397) ::
 (nat_lit 166,gO "order_key" gY mO2 348 165) ::
 (nat_lit 172,hO "opened" 399 400 401 111 2 3 167 true 181 168 .none (.ref 169) (.ref 170) 171 404 405) ::
 (nat_lit 173,gO "opened" pE mO2 348 172) ::
 (nat_lit 179,hO "flat_sum" 407 408 409 115 3 3 174 true 181 175 .none (.ref 176) (.ref 177) 178 415 416) ::
 (nat_lit 180,gO "flat_sum" kM mO2 348 179) ::
 (nat_lit 186,hO "flat_of_parts" 418 419 420 125 3 3 181 true 181 182 .none (.ref 183) (.ref 184) 185 425 426) ::
 (nat_lit 187,gO "flat_of_parts" fL mO2 348 186) ::
 (nat_lit 191,hO "from_within" 428 429 430 130 3 3 188 true 181 189 .none .none .none 190 431 432) ::
 (nat_lit 192,gO "from_within" fF mO2 348 191) ::
 (nat_lit 198,hO "in_pairs" 436 437 438 140 3 3 193 true 181 194 .none (.ref 195) (.ref 196) 197 444 445) ::
 (nat_lit 199,gO "in_pairs" kL "likefill.steps" 434 198) ::
 (nat_lit 205,hO "paired" 447 448 449 147 2 3 200 true 181 201 .none (.ref 202) (.ref 203) 204 453 454) ::
 (nat_lit 206,gO "paired" cS "likefill.steps" 434 205) ::
 (nat_lit 207,dO [eO P "turn" 458 (.str "turn" 459),eO P "left" 460 (.str "right" 461),eO P "right" 462 (.str "left" 463),eO P "drop" 464 (.str "add" 465),eO P "add" 466 (.str "drop" 467)] 5) ::
 (nat_lit 211,hO "walk" 474 475 476 152 3 3 208 true 181 209 .none .none .none 210 477 478) ::
 (nat_lit 212,gO "walk" tH mO3 456 211) ::
 (nat_lit 216,hO "led_to_flat" 480 481 482 161 2 3 213 true 181 214 .none .none .none 215 483 484) ::
 (nat_lit 217,gO "led_to_flat" fE mO3 456 216) ::
 (nat_lit 221,hO "placed" 486 487 488 174 1 3 218 true 181 219 .none .none .none 220 489 490) ::
 (nat_lit 222,gO "placed" lX mO3 456 221) ::
 (nat_lit 226,hO "steps_of_sum" 492 493 494 184 4 3 223 true 181 224 .none .none .none 225 495 496) ::
 (nat_lit 227,gO "steps_of_sum" eQ mO3 456 226) ::
 (nat_lit 231,hO "steps_inward" 498 499 500 197 4 3 228 true 181 229 .none .none .none 230 501 502) ::
 (nat_lit 232,gO "steps_inward" eT mO3 456 231) ::
 (nat_lit 238,hO "_law_from" 506 507 508 209 1 3 233 true 181 234 .none (.ref 235) (.ref 236) 237 511 512) ::
 (nat_lit 239,gO "_law_from" jK mO0 504 238) ::
 (nat_lit 245,hO "_law_take" 514 515 516 212 2 3 240 true 181 241 .none (.ref 242) (.ref 243) 244 520 521) ::
 (nat_lit 246,gO "_law_take" jI mO0 504 245) ::
 (nat_lit 250,hO "_law_signs" 523 524 525 219 1 3 247 true 181 248 .none .none .none 249 526 527) ::
 (nat_lit 251,gO "_law_signs" d8 mO0 504 250) ::
 (nat_lit 257,hO "_law_leaf" 529 530 531 230 2 3 252 true 181 253 .none (.ref 254) (.ref 255) 256 535 536) ::
 (nat_lit 258,gO "_law_leaf" jJ mO0 504 257) ::
 (nat_lit 262,hO "_law_head" 538 539 540 235 3 3 259 true 181 260 .none .none .none 261 541 542) ::
 (nat_lit 263,gO "_law_head" gZ mO0 504 262) ::
 (nat_lit 269,hO "_law_term" 544 545 546 241 4 3 264 true 181 265 .none (.ref 266) (.ref 267) 268 557 558) ::
 (nat_lit 270,gO "_law_term" fT mO0 504 269) ::
 (nat_lit 281,hO "_law_parts" 566 567 568 264 2 3 276 true 181 277 .none (.ref 278) (.ref 279) 280 573 574) ::
 (nat_lit 282,gO "_law_parts" fZ mO0 504 281) ::
 (nat_lit 288,hO "_law_mixed" 576 577 578 271 2 3 283 true 181 284 .none (.ref 285) (.ref 286) 287 583 584) ::
 (nat_lit 289,gO "_law_mixed" iG mO0 504 288) ::
 (nat_lit 295,hO "_law_bracketed" 586 587 588 277 3 3 290 true 181 291 .none (.ref 292) (.ref 293) 294 593 594) ::
 (nat_lit 296,gO "_law_bracketed" eZ mO0 504 295) ::
 (nat_lit 300,hO "_law_shuffled" 596 597 598 283 4 3 297 true 181 298 .none .none .none 299 599 600) ::
 (nat_lit 301,gO "_law_shuffled" dC mO0 504 300) ::
 (nat_lit 305,hO "_law_leaves" 602 603 604 295 1 3 302 true 181 303 .none .none .none 304 605 606) ::
 (nat_lit 306,gO "_law_leaves" eH mO0 504 305) ::
 (nat_lit 310,hO "_law_depth" 608 609 610 299 1 3 307 true 181 308 .none .none .none 309 611 612) ::
 (nat_lit 311,gO "_law_depth" eY mO0 504 310) ::
 (nat_lit 317,hO "_law_other" 614 615 616 303 3 3 312 true 181 313 .none (.ref 314) (.ref 315) 316 621 622) ::
 (nat_lit 318,gO "_law_other" iF mO0 504 317) ::
 (nat_lit 324,hO "_law_with_leaf" 624 625 626 308 3 3 319 true 181 320 .none (.ref 321) (.ref 322) 323 633 634) ::
 (nat_lit 325,gO "_law_with_leaf" dW mO0 504 324) ::
 (nat_lit 331,hO "_law_leaf_at" 636 637 638 317 2 3 326 true 181 327 .none (.ref 328) (.ref 329) 330 643 644) ::
 (nat_lit 332,gO "_law_leaf_at" eU mO0 504 331) ::
 (nat_lit 338,hO "_law_unlike" 646 647 648 326 3 3 333 true 181 334 .none (.ref 335) (.ref 336) 337 659 660) ::
 (nat_lit 339,gO "_law_unlike" gL mO0 504 338) ::
 (nat_lit 345,hO "law" 662 663 664 342 1 3 340 true 181 341 .none (.ref 342) (.ref 343) 344 675 676) ::
 (nat_lit 346,gO "law" rE mO0 504 345)::[]
noncomputable def as0:List Addr:=[3,23,24,36,37,48,49,62,63,83,84,90,91,93,94,102,103,109,110,114,115,119,120,124,125,129,130,134,135,141,142,146,147,153,154,160,161,165,166,172,173,179,180,186,187,191,192,198,199,205,206,207,211,212,216,217,221,222,226,227,231,232,238,239,245,246,250,251,257,258,262,263,269,270,281,282,288,289,295,296,300,301,305,306,310,311,317,318,324,325,331,332,338,339,345,346]
noncomputable def without (ks:List Nat):Nat->List Stmt->List Stmt
 | _,[]=>[]
 | i,s::r=>if i∈ks then without ks (i+1) r else s::without ks (i+1) r
noncomputable def lo0:aS:=["BACK"]
noncomputable def q0:Program:={PySem.Challenge.pw_likefill_k35_no_walks with main:={PySem.Challenge.pw_likefill_k35_no_walks.main with body:=without [0,4,17,31,34,41] 0 PySem.Challenge.pw_likefill_k35_no_walks.main.body} }
noncomputable def SC:Shared->Bool:=λs=>xlAt q0 [] s && recOk (RowW.records PySem.Challenge.rw_likefill_k35_no_walks.row.toRowW) s
theorem NL {p q:Program}{a:aS}{Xt:Shared->Bool}{α:Type}{Yf:Shared->α}{Ya:World->α}{N:Nat}
  (e:opening p=plainProg p.main.scope.names) (n:Nat.ble 600 N=true) (b:∀s,fenceModules? p s=some s)
  (h:∀w os,(topFrom treeTable p w N ⟨boot_heap w.params,⟨[]⟩,boot_drawn,boot_toks,os⟩).map (λs=>(openSeen q a (importedModules p.main.body) Xt true s,Yf s))=some (openGood q a,Ya w)):LeftO p q a Xt Yf Ya N:=λw=>by
 obtain⟨s,d,c⟩:=Option.map_eq_some_iff.mp (boot_open e n b w);obtain⟨j,i,g,f,os⟩:=s;cases c;unfold openEnds;rw[d];exact h w os
theorem QT {Q:World->Prop}{a:String}(h:∀w:World,Q (w.withFollow a false))(k:∀w:World,Q (w.withFollow a true))(w:World):Q w:=by
 have back:=World.withFollow_self w a;cases b:w.params.followText a with
 | false=>rw[b]at back;exact back ▸ h w
 | true=>rw[b]at back;exact back ▸ k w
noncomputable def run0 (w:World)(os:OsState):Option Shared:=topFrom treeTable PySem.Challenge.rw_likefill_k35_no_walks.row.prog w 4864 ⟨boot_heap w.params,⟨[]⟩,boot_drawn,boot_toks,os⟩
noncomputable def seen0 (s:Shared):=openSeen q0 lo0 (importedModules PySem.Challenge.rw_likefill_k35_no_walks.row.prog.main.body) SC true s
def G9 (w:World)(os:OsState):Prop:=((run0 w os).map λs=>(seen0 s,as0.map s.heap.get?))=some (openGood q0 lo0,(K0 w.params).map λp=>some p.2)
theorem run1f (w:World)(os:OsState):G9 (w.withFollow "special-get-raises" false) os:=by unfold G9 run0 seen0 topFrom;rw[PySem.W.Fast.te14082659384304107361,PySem.W.Fast.te4187177175401517315,PySem.W.Fast.te14364793385576792824];kernel_rfl
theorem run1t (w:World)(os:OsState):G9 (w.withFollow "special-get-raises" true) os:=by unfold G9 run0 seen0 topFrom;rw[PySem.W.Fast.te14082659384304107361,PySem.W.Fast.te4187177175401517315,PySem.W.Fast.te14364793385576792824];kernel_rfl
theorem run1 (w:World)(os:OsState):G9 w os:=QT (Q:=λw=>G9 w os) (λw=>run1f w os) (λw=>run1t w os) w
theorem left0:LeftO PySem.Challenge.rw_likefill_k35_no_walks.row.prog q0 lo0 SC (λs=>as0.map s.heap.get?) (λw=>(K0 w.params).map λp=>some p.2) 4864 :=
 NL (by kernel_rfl) (by kernel_rfl) (λs=>by kernel_rfl) run1
theorem keys0:∀P,as0=(K0 P).map (·.1):=λP=>by kernel_rfl
end Lw
namespace Lw
open PySem PySem.W PyProof.Rows
set_option maxRecDepth 100000 in
set_option maxHeartbeats 0 in
theorem red:∃d:DefRec,d.params.defaults=[]/\d.name=("law" : Str)/\(WalkO q0 lo0 (XL q0 []) (InK K0) PySem.Challenge.rw_likefill_k35_no_walks.row.toRowW d [] (λf vs=>PySem.call f vs)->PySem.Challenge.rw_likefill_k35_no_walks.Holds):=by
 refine' ⟨?d,?a,?b,λh=>?c⟩
 case c =>
  w_on
  refine holds_law (by kernel_rfl) λg=>?_;refine holds_open (q:=q0) (loose:=lo0) (Xt:=SC) (XP:=XL q0 []) (YP:=InK K0) left0 (InK.of keys0) InK.keeps (λs e=>xl_of s (Bool.and_eq_true_iff.mp e).1) XL.keeps (by rfl) (by rfl) (by rfl) (λs e=>recFacts_of (Bool.and_eq_true_iff.mp e).2) (by rfl) g (by decide +kernel) ⟨rfl,rfl,rfl,rfl,rfl,by decide +kernel⟩ (by w_witness2) ?_
  k_fill
  exact h
 case a=>rfl
 case b=>rfl
end Lw
namespace L2
open PySem PySem.Spec PyProof.Rows
abbrev fR:=Sum Int Str
noncomputable def keyIs:fR->Value->Bool
 | .inl k,v=>Value.isInt k v
 | .inr x,v=>Value.isStrOf x v
noncomputable def keyH (w:World):fR->Int
 | .inl k=>hashInt k
 | .inr x=>hashStr w x
theorem dJ:∀{k:fR} {v:Value},keyIs k v=true->(∃i t,k=Sum.inl i/\v=Value.int i t)∨(∃x t,k=Sum.inr x/\v=Value.str x t)
 | .inl i,v,h=>by
  obtain⟨t,e⟩:=Value.isInt_shape (k:=i) (v:=v) h;exact .inl ⟨i,t,rfl,e⟩
 | .inr x,v,h=>by obtain⟨t,e⟩:=Value.isStrOf_shape (x:=x) (v:=v) h;exact .inr ⟨x,t,rfl,e⟩
theorem GN (i:Int)(t:Tok):keyIs (.inl i) (.int i t)=true:=by simp[keyIs,Value.isInt]
theorem qU (x:Str)(t:Tok):keyIs (.inr x) (.str x t)=true:=by simp[keyIs,Value.isStrOf]
theorem QH (a b:Int):decide ((Sum.inl a:fR)=Sum.inl b)=(a == b):=by
 by_cases e:a=b
 ·subst e;simp
 ·have h:¬(Sum.inl a:fR)=Sum.inl b:=λq=>e (Sum.inl.inj q);rw[bj h];exact(cz.mpr e).symm
theorem QE (a b:Str):decide ((Sum.inr a:fR)=Sum.inr b)=decide (a=b):=by
 by_cases e:a=b
 ·subst e;simp
 ·have h:¬(Sum.inr a:fR)=Sum.inr b:=λq=>e (Sum.inr.inj q);rw[bj h,bj e]
theorem QG (a:Int)(b:Str):decide ((Sum.inl a:fR)=Sum.inr b)=false:=bj (λq=>nomatch q)
theorem QF (a:Str)(b:Int):decide ((Sum.inr a:fR)=Sum.inl b)=false:=bj (λq=>nomatch q)
noncomputable def cN (prog:Program)(w:World):PySem.KeyKind prog w fR where
 is:=keyIs
 hash:=keyH w
 inj:=λv a b l f=>by
  rcases dJ l with⟨i,t,rfl,rfl⟩|⟨x,t,rfl,rfl⟩
  ·rcases dJ f with⟨j,u,rfl,e⟩|⟨y,u,rfl,e⟩
   ·injection e with c _;rw[c]
   ·exact nomatch e
  ·rcases dJ f with⟨j,u,rfl,e⟩|⟨y,u,rfl,e⟩
   ·exact nomatch e
   ·injection e with c _;rw[c]
 byValue:=λk v h=>by rcases dJ h with⟨i,t,rfl,rfl⟩|⟨x,t,rfl,rfl⟩ <;> rfl
 pyHash:=λd h=>by
  rcases dJ d with⟨i,t,rfl,rfl⟩|⟨x,t,rfl,rfl⟩
  ·exact wpAny_pyHash_int h
  ·exact wpAny_pyHash_str h
 eqBool:=λg d h=>by
  rcases dJ g with⟨i,t,rfl,rfl⟩|⟨x,t,rfl,rfl⟩
  ·rcases dJ d with⟨j,u,rfl,rfl⟩|⟨y,u,rfl,rfl⟩
   ·rw[QH]at h;exact wpAny_eqBool_int h
   ·rw[QG]at h;exact SeqAt.EqAt.int_str i t y u _ _ _ _ h
  ·rcases dJ d with⟨j,u,rfl,rfl⟩|⟨y,u,rfl,rfl⟩
   ·rw[QF]at h;exact SeqAt.EqAt.str_int x t j u _ _ _ _ h
   ·rw[QE]at h;exact wpAny_eqBool_str h
 «strs»:=λk x t v h=>by
  rcases dJ h with⟨i,u,rfl,e⟩|⟨y,u,rfl,e⟩
  ·exact nomatch e
  ·injection e with c _;subst c;cases v <;> rfl
theorem AA (prog:Program)(w:World)(i:Int)(t:Tok):(cN prog w).is (.inl i) (.int i t)=true:=GN i t
theorem zZ (prog:Program)(w:World)(x:Str)(t:Tok):(cN prog w).is (.inr x) (.str x t)=true:=qU x t
inductive V where
 | non|bl (b:Bool)|int (i:Int)|str (x:Str)|byt (b:Array UInt8)|flt (b:UInt64)|ref (a:Addr)|ty (n:String)
 deriving DecidableEq
def aY:V->Value->Prop
 | .non,u=>u=Value.none
 | .bl b,u=>u=Value.bool b
 | .int i,u=>∃t,u=Value.int i t
 | .str x,u=>∃t,u=Value.str x t
 | .byt b,u=>∃t,u=Value.bytes b t
 | .flt b,u=>∃t,u=Value.float b t
 | .ref a,u=>u=Value.ref a
 | .ty n,u=>u=Value.type n
abbrev aW:List V->cA->Prop:=Paired aY
theorem aW.length {xs:List V}{us:cA}(r:aW xs us):xs.length=us.length:=Paired.length r
theorem aW.get:∀{xs:List V} {us:cA} {i:Nat} {x:V},aW xs us->xs[i]?=some x->∃u,us[i]?=some u/\aY x u
 | _,_,_,_,.nil,e=>by simp at e
 | _,_,0,_,.cons r _,e=>by simp at e;subst e;exact⟨_,rfl,r⟩
 | _,_,i+1,x,.cons _ t,e=>by obtain⟨u,b,a⟩:=aW.get (i:=i) (x:=x) t (by simpa using e);exact⟨u,by simpa using b,a⟩
theorem aW.set {x:V}{u:Value}(r:aY x u):∀{xs:List V} {us:cA} (i:Nat),aW xs us->aW (xs.set i x) (us.set i u)
 | _,_,_,.nil=>.nil
 | _,_,0,.cons _ t=>.cons r t
 | _,_,i+1,.cons q t=>.cons q (aW.set r i t)
theorem aW.append:∀{xs a:List V} {us ws:cA},aW xs us->aW a ws->aW (xs++a) (us++ws)
 | _,_,_,_,.nil,s=>s
 | _,_,_,_,.cons r t,s=>.cons r (aW.append t s)
theorem aW.take:∀{xs:List V} {us:cA} (n:Nat),aW xs us->aW (xs.take n) (us.take n)
 | _,_,0,_=>.nil
 | _,_,_+1,.nil=>.nil
 | _,_,n+1,.cons r t=>.cons r (aW.take n t)
theorem aW.drop:∀{xs:List V} {us:cA} (n:Nat),aW xs us->aW (xs.drop n) (us.drop n)
 | _,_,0,r=>r
 | _,_,_+1,.nil=>.nil
 | _,_,n+1,.cons _ t=>aW.drop n t
def kZ:Option V->Option Value->Prop
 | some v,some u=>aY v u
 | none,none=>True
 | _,_=>False
def KV {κ:Type}:List (κ×V)->List (κ×Value)->Prop:=Paired λ(p:κ×V) (q:κ×Value)=>p.1=q.1/\aY p.2 q.2
noncomputable def kV:fR->V
 | .inl i=>.int i
 | .inr x=>.str x
inductive HO where
 /-- a list -/
 | lst (xs:List V)
 /-- a tuple (never changes) -/
 | tup (xs:List V)
 /-- a dict whose keys are ints and texts;one whose keys are tuples of ints and texts (the empty one is both) -/
 | dK (kvs:List (fR×V))|dT (kvs:List (List fR×V))
 /-- a set of ints: its members,its size -/
 | set (S:Int->Bool) (n:Nat)
 /-- an instance of the class at C,its dict at dx,its attributes -/
 | ins (C dx:Addr) (fs:List (Str×V))
 /-- the dict of the instance at x -/
 | own (x:Addr)
 /-- the dict of an exception -/
 | xd (fs:List (Str×V))
 /-- a bound method,f of x -/
 | met (f x:Addr)
 /-- a range object lo,lo+1,.. below hi -/
 | rng (lo hi:Int)
 /-- a thing that is known to the object (the script;a dict while a loop walks it): read,never written while it is so -/
 | frz (o:Obj) (u:HO)
 /-- a code object's table -/
 | tbl (ps:iR)
 /-- any other thing,by what is true of its one object (a def of one's own: SetO a S n:=HO.ext λh=>..) -/
 | ext (φ:Heap->Prop)
abbrev Hp:=Addr->Option HO
noncomputable def upd (H:Hp)(a:Addr)(o:HO):Hp:=λb=>if b=a then some o else H b
theorem upd_same {H:Hp}{a:Addr}{o:HO}:upd H a o a=some o:=by unfold upd;rw[ai rfl]
theorem aE {H:Hp}{a b:Addr}{o:HO}(h:b≠a):upd H a o b=H b:=by unfold upd;rw[ab h]
theorem upd_upd {H:Hp}{a:Addr}{o u:HO}:upd (upd H a o) a u=upd H a u:=by funext b;unfold upd;split <;> rfl
theorem aG {H:Hp}{a b:Addr}{o:HO}(h:H a=some o)(h':H b=none):a≠b:=by intro e;subst e;rw[h]at h';cases h'
section
variable (P:Program)(w:World)
def cK (H:Hp)(h:Heap)(a:Addr):HO->Prop
 | .lst xs=>xs.length<=sizeLine/\∃(its:cA) (n:Nat),aW xs its/\h.get? a=some {cls:=.type "list",data:=.seq its.toArray n}
 | .tup xs=>xs.length<=sizeLine/\∃its:cA,aW xs its/\IsTup h a its.toArray
 | .dK b=>b.length<=sizeLine/\(a == sysModules)=false/\∃vs,KV b vs/\h.DictOf (cN P w) a vs
 | .dT b=>b.length<=sizeLine/\(a == sysModules)=false/\∃xs:List (List fR×Addr×Value),
   Paired (λ(p:List fR×V) (q:List fR×Addr×Value)=>p.1=q.1/\H q.2.1=some (.tup (p.1.map kV))/\aY p.2 q.2.2) b xs /\
   ∃o es l,h.get? a=some o/\o.ExactDict/\o.data = .dict es l/\es.toList=xs.map (entryOfKey (tupleKind (cN P w)))/\(xs.map (·.1)).Nodup
 | .set S n=>h.SetOf (intKind P w) a S n
 | .ins C d fs=>H d=some (.own a)/\fs.length<=1000/\d≠a/\h.get? a=some (PySem.W.instObj C d) /\
   ∃c,h.Ns1 d c/\(∀f,kZ (fs.lookup f) (c f))/\PySem.Within c (fs.map (·.1))
 | .own _=>∃o,h.get? a=some o
 | .xd fs=>∃c,h.Ns1 a c/\∀f,kZ (fs.lookup f) (c f)
 | .rng i j=>∃t u v,h.get? a=some {cls:=.type "range",data:=.fields #[.int i t,.int j u,.int 1 v]}
 | .frz o u=>h.get? a=some o/\cK H h a u
 | .tbl ps=>h.get? a=some {cls:=.none,data:=.fields ps}
 | .met f x=>h.get? a=some (PySem.W.methodObj (.ref f) (.ref x))
 | .ext φ=>φ h/\(∃o,h.get? a=some o)/\∀g e:Heap,φ g->(∀o,g.get? a=some o->e.get? a=some o)->φ e
def gX (H:Hp)(h:Heap):Prop:=∀a o,H a=some o->cK P w H h a o
end
section
variable {P:Program}{w:World}{H H':Hp}{h h':Heap}{a:Addr}{o:HO}
theorem cK.lt (x:cK P w H h a o):a<h.objs.size:=by
 cases o with
 | lst xs=>obtain⟨_,_,_,_,e⟩:=x;exact az e
 | tup xs=>obtain⟨_,_,_,p⟩:=x;exact p.lt
 | dK b=>obtain⟨_,_,_,_,o,_,_,e,_⟩:=x;exact az e
 | dT b=>obtain⟨_,_,_,_,o,_,_,e,_⟩:=x;exact az e
 | set S n=>obtain⟨o,_,_,_,e,_⟩:=x;exact az e
 | ins C g fs=>obtain⟨_,_,_,e,_⟩:=x;exact az e
 | own y=>obtain⟨_,e⟩:=x;exact az e
 | xd fs=>obtain⟨_,⟨_,_,_,e,_⟩,_⟩:=x;exact az e
 | rng c d=>obtain⟨_,_,_,e⟩:=x;exact az e
 | frz ob u=>obtain⟨e,_⟩:=x;exact az e
 | tbl ps=>exact az (show h.get? a=some _ from x)
 | met f y=>exact az (show h.get? a=some _ from x)
 | ext φ=>obtain⟨_,⟨_,e⟩,_⟩:=x;exact az e
theorem Paired.mapP {α β:Type}{F G:α->β->Prop}{d:List α}{c:List β}(h:Paired F d c)(f:∀a b,F a b->G a b):Paired G d c:=by
 induction h with
 | nil=>exact .nil
 | cons r t e=>exact .cons (f _ _ r) e
theorem cK.stay (x:cK P w H h a o)(k:∀b u,(b=a∨H b=some (.own a))->h.get? b=some u->h'.get? b=some u)
  (ho:∀b,H b=some (.own a)->H' b=some (.own a)) (m:∀b xs,H b=some (.tup xs)->H' b=some (.tup xs)):cK P w H' h' a o:=by
 induction o with
 | lst xs=>obtain⟨z,its,n,r,e⟩:=x;exact⟨z,its,n,r,k _ _ (.inl rfl) e⟩
 | tup xs=>obtain⟨z,its,r,ob,e,c⟩:=x;exact⟨z,its,r,ob,k _ _ (.inl rfl) e,c⟩
 | dK j=>obtain⟨z,y,vs,r,ob,es,g,e,c⟩:=x;exact⟨z,y,vs,r,ob,es,g,k _ _ (.inl rfl) e,c⟩
 | dT j =>
  obtain⟨z,y,xs,r,ob,es,g,e,c⟩:=x;exact⟨z,y,xs,Paired.mapP r λp q z=>⟨z.1,m _ _ z.2.1,z.2.2⟩,ob,es,g,k _ _ (.inl rfl) e,c⟩
 | set S n=>obtain⟨ob,es,g,t,e,c⟩:=x;exact⟨ob,es,g,t,k _ _ (.inl rfl) e,c⟩
 | ins C E fs =>
  obtain⟨d,z,ne,e,i,⟨od,es,g,s,c⟩,r⟩:=x;exact⟨ho _ d,z,ne,k _ _ (.inl rfl) e,i,⟨od,es,g,k _ _ (.inr d) s,c⟩,r⟩
 | own y=>obtain⟨ob,e⟩:=x;exact⟨ob,k _ _ (.inl rfl) e⟩
 | xd fs=>obtain⟨i,⟨od,es,g,e,c⟩,r⟩:=x;exact⟨i,⟨od,es,g,k _ _ (.inl rfl) e,c⟩,r⟩
 | rng A B=>obtain⟨t,u,v,e⟩:=x;exact⟨t,u,v,k _ _ (.inl rfl) e⟩
 | frz ob u l=>obtain⟨e,q⟩:=x;exact⟨k _ _ (.inl rfl) e,l q⟩
 | tbl ps =>
  have e:h.get? a=some {cls:=.none,data:=.fields ps}:=x;show h'.get? a=some {cls:=.none,data:=.fields ps};exact k a _ (.inl rfl) e
 | met f y =>
  have e:h.get? a=some (PySem.W.methodObj (.ref f) (.ref y)):=x;show h'.get? a=some (PySem.W.methodObj (.ref f) (.ref y));exact k a _ (.inl rfl) e
 | ext φ=>obtain⟨p,⟨o,e⟩,st⟩:=x;exact⟨st _ _ p λo q=>k _ _ (.inl rfl) q,⟨o,k _ _ (.inl rfl) e⟩,st⟩
theorem gX.lt (x:gX P w H h)(e:H a=some o):a<h.objs.size:=(x a o e).lt
theorem gX.fresh (x:gX P w H h)(e:h.objs.size<=a):H a=none:=by
 cases q:H a with
 | none=>rfl
 | some u=>exact absurd (bf (x.lt q) e) (cf _)
theorem gX.kept (x:gX P w H h)(k:∀b u,h.get? b=some u->h'.get? b=some u):gX P w H h':=λa o e =>
 (x a o e).stay (λb u _ q=>k b u q) (λ_ q=>q) λ_ _ q=>q
theorem gX.laid (x:gX P w H h)(k:∀b u,h.get? b=some u->h'.get? b=some u)(g:h.objs.size<=a)(new:cK P w (upd H a o) h' a o):gX P w (upd H a o) h':=λb u e=>by
 have d:=x.fresh g;by_cases f:b=a
 ·subst f;rw[upd_same]at e;cases e;exact new
 ·rw[aE f]at e;exact(x b u e).stay (λc v _ q=>k c v q) (λc q=>by rw[aE (aG q d)];exact q) λc xs q=>by rw[aE (aG q d)];exact q
end
def Rd (H:Hp)(a:Addr)(u:HO):Prop:=H a=some u∨∃o,H a=some (.frz o u)
theorem Rd.ok {P:Program}{w:World}{H:Hp}{h:Heap}{a:Addr}{u:HO}(r:Rd H a u)(x:gX P w H h):cK P w H h a u:=by
 rcases r with r|⟨o,r⟩
 ·exact x a u r
 ·obtain⟨_,q⟩:=x a _ r;exact q
def R7:Option HO->Prop
 | some (.lst _)=>True
 | some (.dK _)=>True
 | some (.dT _)=>True
 | some (.set _ _)=>True
 | some (.ins _ _ _)=>True
 | some (.ext _)=>True
 | _=>False
section
variable {P:Program}{w:World}{H:Hp}{h h':Heap}{x e:Addr}{o':HO}
theorem gX.write (ok:gX P w H h)(g:R7 (H x))(m:e=x∨H e=some (.own x))(k:∀b u,b≠e->h.get? b=some u->h'.get? b=some u)(l:∃u,h'.get? e=some u)
  (new:cK P w (upd H x o') h' x o'):gX P w (upd H x o') h':=λb u q=>by
 have d:∀c y,H c=some (.own y)->c≠x:=λc y r z=>by subst z;rw[r]at g;exact g
 have f:∀c xs,H c=some (.tup xs)->c≠x:=λc xs r z=>by subst z;rw[r]at g;exact g
 by_cases j:b=x
 ·subst j;rw[upd_same]at q;cases q;exact new
 ·rw[aE j]at q;by_cases a:b=e
  ·have q':H b=some (.own x):=by
    rcases m with z|z
    ·exact absurd (a.trans z) j
    ·rw[a];exact z
   rw[q]at q';cases q';obtain⟨v,o⟩:=l;exact⟨v,by rw[a];exact o⟩
  ·refine(ok b u q).stay (λc v i r=>k c v ?_ r) (λc r=>by rw[aE (d c b r)];exact r) λc xs r=>by rw[aE (f c xs r)];exact r
   rcases i with rfl|i
   ·exact a
   ·rintro rfl;rcases m with z|z
    ·exact d c b i z
    ·rw[i]at z;cases z;exact j rfl
end
structure Un (fs ex:List Addr)(H H':Hp)(h h':Heap):Prop where
 keep:∀b o,h.get? b=some o->H b=none->b∉fs->b∉ex->h'.get? b=some o
 slot:∀b o,h.get? b=some o->H b=none->b∈fs->b∉ex->∃sl,h'.get? b=some {o with slots:=sl}
 free:∀b o,h.get? b=some o->H b=none->b∉ex->H' b=none
 there:∀b o,h.get? b=some o->b∉ex->∃o',h'.get? b=some o'
 tups:∀b xs,H b=some (.tup xs)->H' b=some (.tup xs)
 frzs:∀b o u,H b=some (.frz o u)->H' b=some (.frz o u)
 tbls:∀b ps,H b=some (.tbl ps)->∃more,H' b=some (.tbl (ps++more))
section
variable {fs fs' ex ex':List Addr}{H H1 H2:Hp}{h h1 h2 h':Heap}{a x e:Addr}{o:HO}
theorem Un.any (u:Un fs ex H H1 h h1){b:Addr}{ob:Obj}(q:h.get? b=some ob)(n:H b=none)(a:b∉ex):∃d,h1.get? b=some {ob with slots:=d}:=by
 by_cases c:b∈fs
 ·exact u.slot b ob q n c a
 ·exact⟨ob.slots,u.keep b ob q n c a⟩
theorem Un.kept (k:∀b u,h.get? b=some u->h'.get? b=some u):Un fs ex H H h h' :=
 ⟨λb ob q _ _ _=>k b ob q,λb ob q _ _ _=>⟨ob.slots,k b ob q⟩,λ_ _ _ n _=>n,λb ob q _=>⟨ob,k b ob q⟩,λ_ _ q=>q,λ_ _ _ q=>q,λ_ ps q=>⟨#[],by rw[q];simp⟩⟩
theorem Un.refl:Un fs ex H H h h:=Un.kept λ_ _ q=>q
theorem Un.laid (k:∀b u,h.get? b=some u->h'.get? b=some u)(d:h.objs.size<=a)(c:H a=none):Un fs ex H (upd H a o) h h' where
 keep:=λb u q _ _ _=>k b u q
 slot:=λb u q _ _ _=>⟨u.slots,k b u q⟩
 free:=λb u q n _=>by rw[aE (bo (bf (az q) d))];exact n
 there:=λb u q _=>⟨u,k b u q⟩
 tups:=λb xs q=>by rw[aE (aG q c)];exact q
 frzs:=λb u xs q=>by rw[aE (aG q c)];exact q
 tbls:=λb ps q=>⟨#[],by rw[aE (aG q c),q];simp⟩
theorem Un.write (c:R7 (H x))(i:e=x∨H e=some (.own x))(k:∀b u,b≠e->h.get? b=some u->h'.get? b=some u)(d:∃u,h'.get? e=some u):Un fs ex H (upd H x o) h h':=by
 have f:∀b,H b=none->b≠x:=λb n z=>by subst z;rw[n]at c;exact c
 have g:∀b,H b=none->b≠e:=λb n z=>by
  subst z;rcases i with r|r
  ·exact f b n r
  ·rw[n]at r;cases r
 have hm:∀b u,H b=some u->¬R7 (some u)->b≠x:=λb u q nm z=>by subst z;rw[q]at c;exact nm c
 refine⟨λb u q n _ _=>k b u (g b n) q,λb u q n _ _=>⟨u.slots,k b u (g b n) q⟩,λb u q n _=>by rw[aE (f b n)];exact n,λb u q _=>?_,
  λb xs q=>by rw[aE (hm b _ q λz=>z)];exact q,λb u xs q=>by rw[aE (hm b _ q λz=>z)];exact q,λb ps q=>⟨#[],by rw[aE (hm b _ q λz=>z),q];simp⟩⟩
 by_cases a:b=e
 ·subst a;exact d
 ·exact⟨u,k b u a q⟩
end
noncomputable def trk (h:Heap)(H:Hp):List Addr:=(List.range h.objs.size).filter λa=>(H a).isSome
noncomputable def hidT (h:Heap)(H:Hp):Heap:=PySem.W.hideAll h (trk h H)
theorem GP (h:Heap)(H:Hp):(hidT h H).objs.size=h.objs.size:=PySem.W.hideAll_size _ _
theorem uC {h:Heap}{H:Hp}{b:Addr}{o:Obj}(e:h.get? b=some o)(n:H b=none):(hidT h H).get? b=some o :=
 PySem.W.hideAll_get _ e λhm=>by have q:(H b).isSome=true:=(db.mp hm).2;rw[n]at q;simp at q
theorem NH {h:Heap}{H:Hp}{b:Addr}{o:Obj}(e:(hidT h H).get? b=some o):h.get? b=some o/\H b=none:=by
 have e':h.get? b=some o:=PySem.W.of_hideAll (trk h H) e;refine⟨e',?_⟩;cases q:H b with
 | none=>rfl
 | some x =>
  have hm:b∈trk h H:=db.mpr ⟨List.mem_range.mpr (az e'),by simp[q]⟩;have z:(hidT h H).get? b=none:=PySem.W.hideAll_none (trk h H) hm;rw[z]at e;cases e
noncomputable def N1 (g h:Heap)(L:Addr):c9:=(List.range h.objs.size).filterMap λa=>if a=L∨(g.get? a).isSome=true then none else(h.get? a).map λo=>(a,o)
noncomputable def rest (g h:Heap)(L d:Addr):c9:=(N1 g h L).filter λp=>decide (p.1≠d)
structure Mod (K:PySem.W.Frag)(mg:jF)(base:Heap):Prop where
 kin:K.In base
 glob:base.Ns mainGlobals mg
 blt:∃mb,base.Ns builtinsNs mb/\∀x:Str,x≠"__name__"->mb x=bootBuiltins x
 nolimit:base.NoLimit
structure Cx where
 prog:Program
 w:World
 K:PySem.W.Frag
 mg:jF
 base:Heap
 A:Around
 N:aS
 s₀:Shared
 H₀:Hp
 env:Env
 outer:List Env
 stack:List Env
 ex:List Addr
 fn:Str->Bool
 calm:Bool
 pn:c9
 xe:cL
noncomputable def frs (l:List Env):List Addr:=l.filterMap (·.frame)
noncomputable abbrev Cx.fs (X:Cx):List Addr:=frs X.outer
def R5 (a:Scope)(x:Str):Prop:=a.names.lookup x=some .local∨a.names.lookup x=some .cell∨a.names.lookup x=some .free
def R8 (a:Scope)(x:Str):Prop:=a.names.lookup x=some .local∨a.names.lookup x=some .cell
def SL (env:Env)(h:Heap)(m:jF)(x:Str)(u:Value):Prop :=
 (env.kindOf x=some .local/\m x=some u)∨((env.kindOf x=some .cell∨env.kindOf x=some .free)/\∃c,env.cells.lookup x=some c/\h.IsCell c (some u))
structure Cx.Ok (X:Cx):Prop where
 mod:Mod X.K X.mg X.base
 kind:X.env.scope.kind = .function
 glob:X.env.globals=mainGlobals
 blt:X.env.builtins=builtinsNs
 above:X.s₀.heap.objs.size<=X.env.locals
 inj:∀x y c,X.env.cells.lookup x=some c->X.env.cells.lookup y=some c->x=y
 has:∀x,(X.env.kindOf x=some .cell∨X.env.kindOf x=some .free)->∃c,X.env.cells.lookup x=some c
 cab:∀x c,X.fn x=true->X.env.cells.lookup x=some c->X.s₀.heap.objs.size<=c
 hd:X.calm=true->X.A.handled=none
 frames:X.A.frames=some X.stack
 stk:X.stack=X.outer∨(X.stack=X.env::X.outer/\X.env.frame=some X.env.locals)
 exf:∀b∈X.ex,b≠X.env.locals/\∀x c,X.env.cells.lookup x=some c->c≠b
 bs:∀b o,X.base.get? b=some o->X.s₀.heap.get? b=some o/\X.H₀ b=none
 bsz:X.base.objs.size<=X.s₀.heap.objs.size
 noex:∀b o,X.base.get? b=some o->b∉X.ex
 exfs:∀b∈X.ex,b∉X.fs
 funs:X.s₀.heap.FunFrames X.base X.outer
 frf:∀b∈X.fs,X.H₀ b=none
structure aO (X:Cx)(pins:c9)(σ:List (Option V))(H:Hp)(s:Shared):Prop where
 ok:X.Ok
 os:s.os=X.s₀.os
 bare:AllBare s.gens
 base:Un X.fs X.ex X.H₀ H X.s₀.heap s.heap
 loc:∃m,s.heap.Ns X.env.locals m/\∀(i:Nat) (x:Str) (v:V),X.N[i]?=some x->σ[i]?=some (some v)->R5 X.env.scope x->∃u,aY v u/\SL X.env s.heap m x u
 cell:∀x c,X.env.cells.lookup x=some c->∃v,s.heap.IsCell c v
 free:H X.env.locals=none
 freeC:∀x c,X.env.cells.lookup x=some c->H c=none
 pin:∀p∈X.pn++pins,s.heap.get? p.1=some p.2/\H p.1=none/\p.1≠X.env.locals/\p.1∉X.fs/\∀v,p.2.data≠.cell v
 hok:gX X.prog X.w H s.heap
 len:σ.length=X.N.length
section
variable {X:Cx}{pins:c9}{σ:List (Option V)}{H H':Hp}{s:Shared}{h':Heap}
theorem Cx.Ok.nofr (ok:X.Ok){b:Addr}{o:Obj}(e:X.base.get? b=some o):b∉X.fs:=λa=>by have:=(ok.funs.mem a).1;rw[e]at this;cases this
theorem aO.bs (I:aO X pins σ H s):∀b o,X.base.get? b=some o->s.heap.get? b=some o/\H b=none:=λb o e =>
 ⟨I.base.keep b o (I.ok.bs b o e).1 (I.ok.bs b o e).2 (I.ok.nofr e) (I.ok.noex b o e),I.base.free b o (I.ok.bs b o e).1 (I.ok.bs b o e).2 (I.ok.noex b o e)⟩
theorem aO.bk (I:aO X pins σ H s):∀b o,X.base.get? b=some o->s.heap.get? b=some o:=λb o e=>(I.bs b o e).1
theorem aO.mod (I:aO X pins σ H s):Mod X.K X.mg X.base:=I.ok.mod
theorem aO.kIn (I:aO X pins σ H s):X.K.In s.heap:=I.ok.mod.kin.keeps I.bk
theorem aO.lt (I:aO X pins σ H s):X.env.locals<s.heap.objs.size:=let⟨_,hn,_⟩:=I.loc;hn.lt
theorem aO.sz (I:aO X pins σ H s):X.s₀.heap.objs.size<=s.heap.objs.size:=ao I.ok.above (Nat.le_of_lt I.lt)
theorem aO.nofs (I:aO X pins σ H s){a:Addr}(h:s.heap.objs.size<=a):a∉X.fs:=λb=>by obtain⟨_,o,ho,_⟩:=I.ok.funs.mem b;exact absurd (bf (az ho) (ao I.sz h)) (cf _)
theorem aO.cne (I:aO X pins σ H s):∀x c,X.env.cells.lookup x=some c->c≠X.env.locals:=λx c e z=>by obtain⟨v,o,ho,hd⟩:=I.cell x c e;obtain⟨m,⟨d,es,f,a,b,_⟩,_⟩:=I.loc;rw[z,a]at ho;cases ho;rw[b]at hd;cases hd
theorem aO.funs (I:aO X pins σ H s):s.heap.FunFrames X.base X.outer:=by
 have all:∀(l:List Env),(∀b∈frs l,b∈X.fs)->X.s₀.heap.FunFrames X.base l->s.heap.FunFrames X.base l:=by
  intro l
  induction l with
  | nil=>intro _ _;trivial
  | cons env r g =>
   intro f hl;obtain⟨j,⟨L,o,a,i,ho,hd⟩,h⟩:=hl;have d:L∈X.fs:=f L (by unfold frs;rw[List.filterMap_cons,a];exact av);obtain⟨m,e⟩:=I.base.slot L o ho (I.ok.frf L d) d λz=>I.ok.exfs L z d;exact⟨j,⟨L,_,a,i,e,hd⟩,g (λb c=>f b (by unfold frs;rw[List.filterMap_cons,a];exact ay _ c)) h⟩
 exact all X.outer (λ_ c=>c) I.ok.funs
theorem aO.stack (I:aO X pins σ H s):s.heap.FunFrames X.base X.stack:=by
 rcases I.ok.stk with e|⟨e,b⟩
 ·rw[e];exact I.funs
 ·rw[e];obtain⟨m,a,_⟩:=I.loc;refine .cons (by rw[I.ok.kind];decide) b a ?_ I.funs;exact Heap.get?_none_of_le (ao I.ok.bsz I.ok.above)
theorem aO.stkSub (I:aO X pins σ H s):∀b∈frs X.stack,b∈X.env.locals::X.fs:=λb a=>by
 rcases I.ok.stk with e|⟨e,c⟩
 ·rw[e]at a;exact ay _ a
 ·rw[e]at a;unfold frs at a;rw[List.filterMap_cons,c]at a;exact a
theorem aO.stkFree (I:aO X pins σ H s):∀b∈frs X.stack,H b=none:=λb a=>by
 rcases cu.mp (I.stkSub b a)with e|a
 ·rw[e];exact I.free
 ·obtain⟨_,o,ho,_⟩:=I.ok.funs.mem a;exact I.base.free b o ho (I.ok.frf b a) λz=>I.ok.exfs b z a
theorem aO.step {g':Array GenState}{t':Nat}{d':Drawn}{ch:List Addr}(I:aO X pins σ H s)
  (g:∀b∈ch,(b∈X.ex∨X.s₀.heap.objs.size<=b)/\b≠X.env.locals/\(∀x c,X.env.cells.lookup x=some c->c≠b)/\∀p∈X.pn++pins,p.1≠b)
  (keep:∀b o,b≠X.env.locals->b∉X.fs->b∉ch->s.heap.get? b=some o->H b=none->h'.get? b=some o)
  (slot:∀b o,b≠X.env.locals->b∈X.fs->b∉ch->s.heap.get? b=some o->H b=none->∃G,h'.get? b=some {o with slots:=G}) (free:∀b o,b∉ch->s.heap.get? b=some o->H b=none->H' b=none)
  (there:∀b o,b∉ch->s.heap.get? b=some o->∃B,h'.get? b=some B)
  (tups:∀b xs,H b=some (.tup xs)->H' b=some (.tup xs)) (frzs:∀b o u,H b=some (.frz o u)->H' b=some (.frz o u)) (tbls:∀b ps,H b=some (.tbl ps)->∃more,H' b=some (.tbl (ps++more)))
  (ns:∀m,s.heap.Ns X.env.locals m->h'.Ns X.env.locals m) (hok:gX X.prog X.w H' h') (Q:AllBare g') :
  aO X pins σ H' {s with heap:=h',gens:=g',drawn:=d',toks:=t'}:=by
 have C:∀b o,X.s₀.heap.get? b=some o->b≠X.env.locals:=λb o e=>bo (bf (az e) I.ok.above);have j:∀b o,X.s₀.heap.get? b=some o->b∉X.ex->b∉ch:=λb o e a A=>by
  rcases(g b A).1 with z|z
  ·exact a z
  ·exact absurd (bf (az e) z) (cf _)
 have h:∀x c,X.env.cells.lookup x=some c->∀v,s.heap.IsCell c v->h'.IsCell c v:=λx c e v ⟨o,ho,hd⟩=>by
  have f:c∉ch:=λz=>(g c z).2.2.1 x c e rfl;by_cases L:c∈X.fs
  ·obtain⟨G,q⟩:=slot c o (I.cne x c e) L f ho (I.freeC x c e);exact⟨_,q,hd⟩
  ·exact⟨o,keep c o (I.cne x c e) L f ho (I.freeC x c e),hd⟩
 refine⟨I.ok,I.os,Q,⟨λb o e n A a=>?_,λb o e n A a=>?_,λb o e n a=>?_,λb o e a=>?_,λb xs e=>tups b xs (I.base.tups b xs e),λb o xs e=>frzs b o xs (I.base.frzs b o xs e),λb ps e=>?_⟩,?_,λx c e=>?_,?_,λx c e=>?_,λp K=>?_,hok,I.len⟩
 ·exact keep b o (C b o e) A (j b o e a) (I.base.keep b o e n A a) (I.base.free b o e n a)
 ·obtain⟨G,t⟩:=I.base.slot b o e n A a;obtain⟨F,E⟩:=slot b _ (C b o e) A (j b o e a) t (I.base.free b o e n a);exact⟨F,E⟩
 ·obtain⟨B,t⟩:=I.base.there b o e a;exact free b B (j b o e a) t (I.base.free b o e n a)
 ·obtain⟨B,t⟩:=I.base.there b o e a;exact there b B (j b o e a) t
 ·obtain⟨O,t⟩:=I.base.tbls b ps e;obtain⟨N,E⟩:=tbls b _ t;exact⟨O++N,by rw[E,Array.append_assoc]⟩
 ·obtain⟨m,P,hl⟩:=I.loc;refine⟨m,ns m P,λi x v t E R=>?_⟩;obtain⟨u,r,l⟩:=hl i x v t E R;refine⟨u,r,?_⟩;rcases l with l|⟨k,c,e,z⟩
  ·exact .inl l
  ·exact .inr ⟨k,c,e,h x c e _ z⟩
 ·obtain⟨v,z⟩:=I.cell x c e;exact⟨v,h x c e v z⟩
 ·obtain⟨m,⟨o,_,_,ho,_⟩,_⟩:=I.loc;exact free _ o (λz=>(g _ z).2.1 rfl) ho I.free
 ·obtain⟨v,o,ho,hd⟩:=I.cell x c e;exact free c o (λz=>(g c z).2.2.1 x c e rfl) ho (I.freeC x c e)
 ·obtain⟨e,n,ne,J,d⟩:=I.pin p K;have f:p.1∉ch:=λz=>(g p.1 z).2.2.2 p K rfl;exact⟨keep p.1 p.2 ne J f e n,free p.1 p.2 f e n,ne,J,d⟩
theorem aO.un {t':Nat}(I:aO X pins σ H s)(u:Un X.fs [] H H' s.heap h')(hok:gX X.prog X.w H' h'):aO X pins σ H' {s with heap:=h',toks:=t'}:=by
 obtain⟨m,⟨o,es,p,ho,r⟩,_⟩:=id I.loc;obtain⟨i,h⟩:=u.any ho I.free (by simp)
 exact I.step (g':=s.gens) (d':=s.drawn) (ch:=[]) (λ_ z=>nomatch z) (λb o _ c _ e n=>u.keep b o e n c (by simp)) (λb o _ c _ e n=>u.slot b o e n c (by simp)) (λb o _ e n=>u.free b o e n (by simp)) (λb o _ e=>u.there b o e (by simp)) u.tups u.frzs u.tbls (λl hm=>by
  obtain⟨j,d,f,a,g⟩:=hm;rw[ho]at a;cases a
  exact⟨_,d,f,h,g⟩) hok I.bare
theorem aO.call {g':Array GenState}{t':Nat}{d':Drawn}{ch:List Addr}(I:aO X pins σ H s)(u:Un (frs X.stack) ch H H' s.heap h')(hok:gX X.prog X.w H' h')(l:AllBare g')
  (f:∀b∈ch,(b∈X.ex∨X.s₀.heap.objs.size<=b)/\b≠X.env.locals/\(∀x c,X.env.cells.lookup x=some c->c≠b)/\∀p∈X.pn++pins,p.1≠b) :
  aO X pins σ H' {s with heap:=h',gens:=g',drawn:=d',toks:=t'}:=by
 obtain⟨m,⟨o,es,B,ho,r⟩,_⟩:=id I.loc;obtain⟨t,g⟩:=u.any ho I.free λz=>(f _ z).2.1 rfl
 exact I.step (ch:=ch) f (λb o g q a e n=>u.keep b o e n (λz=>(cu.mp (I.stkSub b z)).elim g q) a) (λb o _ _ a e n=>u.any e n a) (λb o a e n=>u.free b o e n a) (λb o a e=>u.there b o e a) u.tups u.frzs u.tbls (λA hm=>by
  obtain⟨v,h,i,d,j⟩:=hm;rw[ho]at d;cases d
  exact⟨_,h,i,g,j⟩) hok l
theorem aO.turned {t':Nat}{it:Addr}(I:aO X pins σ H s)(k:∀b o,b≠it->s.heap.get? b=some o->h'.get? b=some o)(g:H it=none)(f:it≠X.env.locals)
  (l:it∈X.ex∨X.s₀.heap.objs.size<=it) (j:∀x c,X.env.cells.lookup x=some c->c≠it) (i:∀p∈X.pn++pins,p.1≠it):aO X pins σ H {s with heap:=h',toks:=t'}:=by
 have d:∀b u,H b=some u->b≠it:=λb u e z=>by rw[z,g]at e;cases e
 refine I.step (g':=s.gens) (d':=s.drawn) (ch:=[it]) (λb h=>?_) (λb o _ _ a e _=>k b o (λz=>a (by simp[z])) e) (λb o _ _ a e _=>⟨o.slots,k b o (λz=>a (by simp[z])) e⟩) (λ_ _ _ _ n=>n)
  (λb o a e=>⟨o,k b o (λz=>a (by simp[z])) e⟩) (λ_ _ e=>e) (λ_ _ _ e=>e) (λb ps e=>⟨#[],by rw[e];simp⟩) (λm hm=>?_) (λb u e=>?_) I.bare
 ·have e:b=it:=by simpa using h
  subst e;exact⟨l,f,j,i⟩
 ·obtain⟨o,es,t,ho,r⟩:=hm;exact⟨o,es,t,k _ o (Ne.symm f) ho,r⟩
 ·refine(I.hok b u e).stay (λc v a q=>k c v ?_ q) (λ_ q=>q) λ_ _ q=>q;rcases a with z|z
  ·rw[z];exact d b u e
  ·exact d c _ z
theorem aO.tok (I:aO X pins σ H s)(t:Nat):aO X pins σ H {s with toks:=t}:=I.un (h':=s.heap) (t':=t) Un.refl I.hok
theorem aO.kept {t':Nat}(I:aO X pins σ H s)(k:∀b u,s.heap.get? b=some u->h'.get? b=some u):aO X pins σ H {s with heap:=h',toks:=t'}:=I.un (Un.kept k) (I.hok.kept k)
theorem aO.laid {a:Addr}{o:HO}{t':Nat}(I:aO X pins σ H s)(k:∀b u,s.heap.get? b=some u->h'.get? b=some u)(c:s.heap.objs.size<=a)(new:cK X.prog X.w (upd H a o) h' a o) :
  aO X pins σ (upd H a o) {s with heap:=h',toks:=t'}:=I.un (Un.laid k c (I.hok.fresh c)) (I.hok.laid k c new)
theorem aO.write {x e:Addr}{o:HO}{t':Nat}(I:aO X pins σ H s)(c:R7 (H x))(d:e=x∨H e=some (.own x))(k:∀b u,b≠e->s.heap.get? b=some u->h'.get? b=some u)(a:∃u,h'.get? e=some u)
  (new:cK X.prog X.w (upd H x o) h' x o):aO X pins σ (upd H x o) {s with heap:=h',toks:=t'}:=I.un (Un.write c d k a) (I.hok.write c d k a new)
theorem aO.pins_of {a:c9}(I:aO X pins σ H s)(h:∀p∈a,s.heap.get? p.1=some p.2/\H p.1=none/\p.1≠X.env.locals/\p.1∉X.fs/\∀v,p.2.data≠.cell v):aO X a σ H s :=
 ⟨I.ok,I.os,I.bare,I.base,I.loc,I.cell,I.free,I.freeC,λp b=>(cx.mp b).elim (λz=>I.pin p (cj _ z)) (h p),I.hok,I.len⟩
theorem zV {N:aS}(c:N.Nodup){i j:Nat}{x:Str}(a:N[i]?=some x)(b:N[j]?=some x):i=j:=by obtain⟨g,e⟩:=cr.mp a;obtain⟨f,d⟩:=cr.mp b;exact(List.getElem_inj c).mp (e.trans d.symm)
theorem vP {M:Model}{A:Around}{E:cL}{i:Nat}{x:Str}{v:V}{u:Value}{Q:Unit->Shared->Prop}(I:aO X pins σ H s)(hN:X.N.Nodup)(S:X.N[i]?=some x)(B:R8 X.env.scope x)(r:aY v u)
  (h:∀s',aO X pins (σ.set i (some v)) H s'->(∃a,Heap.SameBut a s.heap s'.heap/\(a=X.env.locals∨X.env.cells.lookup x=some a))->Q () s') (hf:X.fn x=true∨X.env.scope.names.lookup x=some .local:=by first|exact .inl rfl|exact .inr rfl|assumption):wpAny M A (storeName X.env x u) Q E s:=by
 obtain⟨m,hn,hl⟩:=id I.loc;have T:(X.env.scope.kind == .class || (X.env.scope.kind == .module && X.env.locals != X.env.globals))=false:=by rw[I.ok.kind];rfl
 have R:i<σ.length:=by rw[I.len];exact(cr.mp S).1
 have cne:=I.cne;have g:∀{a:Addr} {h':Heap},(∃o,s.heap.get? a=some o/\H a=none)->Heap.SameBut a s.heap h'->gX X.prog X.w H h':=λ{a h'} ha f b ob e=>by
  obtain⟨_,_,C⟩:=ha;refine(I.hok b ob e).stay (λc Y t q=>(f.2 c ?_).trans q) (λ_ q=>q) λ_ _ q=>q;rintro rfl;rcases t with rfl|t
  ·rw[C]at e;cases e
  ·rw[C]at t;cases t
 rcases B with G|G
 ·refine wpAny_storeName_local G hn (λh' hn' f=>?_) T;obtain⟨oL,_,_,hoL,_⟩:=id hn;refine h _ ⟨I.ok,I.os,I.bare,⟨λb o e n L B=>?_,λb o e n L B=>?_,I.base.free,λb o e B=>?_,I.base.tups,I.base.frzs,I.base.tbls⟩,⟨_,hn',λj y v' l F e3=>?_⟩,λy c e=>?_,I.free,I.freeC,λp hp=>?_,g ⟨oL,hoL,I.free⟩ f,by simpa using I.len⟩ ⟨_,f,.inl rfl⟩
  ·exact(f.2 b (bo (bf (az e) I.ok.above))).trans (I.base.keep b o e n L B)
  ·obtain⟨sl,l⟩:=I.base.slot b o e n L B;exact⟨sl,(f.2 b (bo (bf (az e) I.ok.above))).trans l⟩
  ·obtain⟨o',l⟩:=I.base.there b o e B;exact⟨o',(f.2 b (bo (bf (az e) I.ok.above))).trans l⟩
  ·by_cases J:j=i
   ·subst J;rw[S]at l;cases l;rw[List.getElem?_set_self R]at F;cases F;exact⟨u,r,.inl ⟨G,by simp⟩⟩
   ·rw[List.getElem?_set_ne (Ne.symm J)]at F;obtain⟨u',r',q⟩:=hl j y v' l F e3;refine⟨u',r',?_⟩;rcases q with⟨k,e⟩|⟨k,c,e,z⟩
    ·refine .inl ⟨k,?_⟩;have:y≠x:=λe=>J (zV hN l (e ▸ S));simp[this,e]
    ·exact .inr ⟨k,c,e,z.sameBut f (cne y c e)⟩
  ·obtain⟨Y,z⟩:=I.cell y c e;exact⟨Y,z.sameBut f (cne y c e)⟩
  ·obtain⟨e,n,ne,nf,d⟩:=I.pin p hp;exact⟨(f.2 p.1 ne).trans e,n,ne,nf,d⟩
 ·have K:X.fn x=true:=by
   rcases hf with z|z
   ·exact z
   ·rw[z]at G;cases G
  obtain⟨c,t⟩:=I.ok.has x (.inl G);obtain⟨Y,z⟩:=I.cell x c t;refine wpAny_storeName_cell I.ok.kind G t z (λh' W f=>?_);obtain⟨oc,P,O⟩:=id z;refine h {s with heap:=h'} ⟨I.ok,I.os,I.bare,⟨λb o e n L B=>?_,λb o e n L B=>?_,I.base.free,λb o e B=>?_,I.base.tups,I.base.frzs,I.base.tbls⟩,⟨m,hn.sameBut f (Ne.symm (cne x c t)),λj y v' l F e3=>?_⟩,λy Z e=>?_,I.free,I.freeC,λp hp=>?_,g ⟨oc,P,I.freeC x c t⟩ f,by simpa using I.len⟩ ⟨c,f,.inr t⟩
  ·exact(f.2 b (bo (bf (az e) (I.ok.cab x c K t)))).trans (I.base.keep b o e n L B)
  ·obtain⟨sl,l⟩:=I.base.slot b o e n L B;exact⟨sl,(f.2 b (bo (bf (az e) (I.ok.cab x c K t)))).trans l⟩
  ·obtain⟨o',l⟩:=I.base.there b o e B;exact⟨o',(f.2 b (bo (bf (az e) (I.ok.cab x c K t)))).trans l⟩
  ·by_cases J:j=i
   ·subst J;rw[S]at l;cases l;rw[List.getElem?_set_self R]at F;cases F;exact⟨u,r,.inr ⟨.inl G,c,t,W⟩⟩
   ·rw[List.getElem?_set_ne (Ne.symm J)]at F;obtain⟨u',r',q⟩:=hl j y v' l F e3;refine⟨u',r',?_⟩;rcases q with q|⟨k,Z,e,z'⟩
    ·exact .inl q
    ·refine .inr ⟨k,Z,e,z'.sameBut f ?_⟩;rintro rfl;exact J (zV hN l (I.ok.inj _ _ _ e t ▸ S))
  ·by_cases U:Z=c
   ·subst U;exact⟨_,W⟩
   ·obtain⟨w2,z2⟩:=I.cell y Z e;exact⟨w2,z2.sameBut f U⟩
  ·obtain⟨e,n,ne,nf,d⟩:=I.pin p hp;refine⟨(f.2 p.1 ?_).trans e,n,ne,nf,d⟩;intro q;rw[q,P]at e;have q':oc=p.2:=Option.some.inj e;exact d Y (by rw[←q'];exact O)
theorem zA {M:Model}{A:Around}{E:cL}{i:Nat}{x:Str}{v:V}{u:Value}{Q:Unit->Shared->Prop}(I:aO X pins σ H s)(e:X.N.Nodup)(c:X.N[i]?=some x)(b:R8 X.env.scope x)(r:aY v u)
  (h:∀a,aO X pins (σ.set i (some v)) H a->Q () a) (d:X.fn x=true∨X.env.scope.names.lookup x=some .local:=by first|exact .inl rfl|exact .inr rfl|assumption):wpAny M A (storeName X.env x u) Q E s :=
 vP I e c b r (λa f _=>h a f) d
theorem aO.call' {a:Shared}{ch:List Addr}(I:aO X pins σ H s)(ho:a.os=s.os)(u:Un (frs X.stack) ch H H' s.heap a.heap)(hok:gX X.prog X.w H' a.heap)(g:AllBare a.gens)
  (d:∀b∈ch,(b∈X.ex∨X.s₀.heap.objs.size<=b)/\b≠X.env.locals/\(∀x c,X.env.cells.lookup x=some c->c≠b)/\∀p∈X.pn++pins,p.1≠b):aO X pins σ H' a:=by
 obtain⟨h',g',d',t',f⟩:=a;have e:f=s.os:=ho;subst e;exact I.call (g':=g') (t':=t') (d':=d') u hok g d
end
abbrev XK:=Value->Option Addr->Hp->Prop
abbrev St:=List (Option V)
abbrev VK:=V->Hp->Prop
abbrev TE:=St->Hp->VK->Prop
abbrev TT:=St->Hp->(Bool->Hp->Prop)->Prop
abbrev TA:=St->Hp->(List V->Hp->Prop)->Prop
structure hZ where
 nx:St->Hp->Prop
 rt:VK
 bk:St->Hp->Prop:=λ_ _=>False
 ct:St->Hp->Prop:=λ_ _=>False
abbrev TS:=hZ->St->Hp->Prop
def EP (X:Cx)(a:c9)(σ:St)(Q:VK)(u:Value)(b:Shared):Prop:=∃v H',aO X a σ H' b/\aY v u/\Q v H'
def TP (X:Cx)(a:c9)(σ:St)(Q:Bool->Hp->Prop)(b:Bool)(c:Shared):Prop:=∃H',aO X a σ H' c/\Q b H'
def AP (X:Cx)(a:c9)(σ:St)(Q:List V->Hp->Prop)(us:cA)(b:Shared):Prop:=∃vs H',aO X a σ H' b/\aW vs us/\Q vs H'
def SP (X:Cx)(a:c9)(D:hZ)(f:Flow)(c:Shared):Prop :=
 match f with
 | .next=>∃b H',aO X a b H' c/\D.nx b H'
 | .brk=>∃b H',aO X a b H' c/\D.bk b H'
 | .cont=>∃b H',aO X a b H' c/\D.ct b H'
 | .ret u=>∃v b H',aO X a b H' c/\aY v u/\D.rt v H'
def PE (X:Cx)(e:Expr)(t:TE):Prop :=
 ∀(a:c9) (s:Shared) (σ:St) (H:Hp) (Q:VK),aO X a σ H s->t σ H Q->wpAny (model X.prog X.w) X.A (eval e X.env) (EP X a σ Q) X.xe s
def PT (X:Cx)(e:Expr)(t:TT):Prop :=
 ∀(a:c9) (s:Shared) (σ:St) (H:Hp) (Q:Bool->Hp->Prop),aO X a σ H s->t σ H Q->wpAny (model X.prog X.w) X.A (isTrue e X.env (eval e X.env)) (TP X a σ Q) X.xe s
def PW (X:Cx)(e:Expr)(t:TT):Prop :=
 ∀(a:Sem Value) (pins:c9) (s:Shared) (σ:St) (H:Hp) (Q:Bool->Hp->Prop),aO X pins σ H s->t σ H Q->wpAny (model X.prog X.w) X.A (isTrue e X.env a) (TP X pins σ Q) X.xe s
theorem PW.pt {X:Cx}{e:Expr}{t:TT}(h:PW X e t):PT X e t:=h _
def PA (X:Cx)(es:lM)(t:TA):Prop :=
 ∀(a:Pos) (pins:c9) (s:Shared) (σ:St) (H:Hp) (Q:List V->Hp->Prop),aO X pins σ H s->t σ H Q->wpAny (model X.prog X.w) X.A (spliced (backTo a (starEach es X.env))) (AP X pins σ Q) X.xe s
def PS (X:Cx)(st:Stmt)(t:TS):Prop :=
 ∀(a:c9) (s:Shared) (σ:St) (H:Hp) (D:hZ),aO X a σ H s->t D σ H->wpAny (model X.prog X.w) X.A (exec st X.env) (SP X a D) X.xe s
def FC (X:Cx)(st:List Stmt)(t:TS):Prop :=
 ∀(a:c9) (s:Shared) (σ:St) (H:Hp) (D:hZ),aO X a σ H s->t D σ H->wpAny (model X.prog X.w) X.A (execs st X.env) (SP X a D) X.xe s
theorem thn {α:Type}{t:Sem α}{Q b:α->Shared->Prop}{M:Model}{A:Around}{E:cL}{s:Shared}(h:wpAny M A t Q E s)(c:∀a s,Q a s->b a s):wpAny M A t b E s:=wpAny_mono h c λ_ _ x=>x
section
variable {X:Cx}
theorem bin {a b:Expr}{i g:TE}(z:PE X a i)(t:PE X b g){c:c9}{s:Shared}{σ:St}{H:Hp}{R:V->V->Hp->Prop}(I:aO X c σ H s)(h:i σ H λx e=>g σ e λy d=>R x y d)
  {α:Type} {Q:α->Shared->Prop} {f:Value->Value->Sem α}
  (r:∀v u s2 x y d,aO X c σ d s2->aY x v->aY y u->R x y d->wpAny (model X.prog X.w) X.A (f v u) Q X.xe s2) :
  wpAny (model X.prog X.w) X.A (eval a X.env) (λv l=>wpAny (model X.prog X.w) X.A (eval b X.env) (λu j=>wpAny (model X.prog X.w) X.A (f v u) Q X.xe j) X.xe l) X.xe s:=by
 refine thn (z c s σ H _ I h) λv m ⟨x,e,C,r1,q⟩=>?_;refine thn (t c m σ e _ C q) λu s2 ⟨y,d,B,o,p⟩=>?_;exact r v u s2 x y d B r1 o p
def tVar (i:Nat):TE:=λσ H Q=>∃v,σ[i]?=some (some v)/\Q v H
def tC (v:V):TE:=λ_ H Q=>Q v H
theorem IY {i:Nat}{x:Str}{f:Pos}(q:X.N[i]?=some x)(o:R5 X.env.scope x)(hd:(x == ("__debug__" : Str))=false:=by decide)(g:(x == ("__classdict__" : Str))=false:=by decide):PE X (.Name x f) (tVar i):=by
 intro d s σ H Q I h;obtain⟨v,e,h⟩:=h;obtain⟨m,p,hl⟩:=I.loc;obtain⟨u,r,l⟩:=hl i x v q e o;have fin:EP X d σ Q u s:=⟨v,H,I,r,h⟩
 rcases l with⟨b,hm⟩|⟨b,c,j,a⟩
 ·exact wpAny_Name (wpAny_loadName_local I.ok.kind b p hm fin) hd
 ·rcases b with b|b
  ·exact wpAny_Name (wpAny_loadName_cell I.ok.kind b j a fin) hd
  ·exact wpAny_Name (wpAny_loadName_free I.ok.kind b j a fin g) hd
theorem aF {i j pos}:PE X (.Constant (.int i) j pos) (tC (.int i)):=λ_ _ _ H _ I h=>wpAny_Constant_int ⟨.int i,H,I.tok _,⟨_,rfl⟩,h⟩
theorem vV {b j pos}:PE X (.Constant (.bool b) j pos) (tC (.bl b)):=λ_ _ _ H _ I h=>Constant_bool ⟨.bl b,H,I,rfl,h⟩
theorem iZ {j pos}:PE X (.Constant .none j pos) (tC .non):=λ_ _ _ H _ I h=>Constant_none ⟨.non,H,I,rfl,h⟩
theorem cJ {x j pos}:PE X (.Constant (.str x) j pos) (tC (.str x)):=λ_ _ _ H _ I h=>Calls.Constant_str ⟨.str x,H,I.tok _,⟨_,rfl⟩,h⟩
def Gl (X:Cx)(x:Str):Prop:=X.env.kindOf x=some .globalImplicit
theorem sR {E:cL}{a:c9}{s:Shared}{σ:St}{H:Hp}{x:Str}{u:Value}{b:Pos}{Q:cL}(I:aO X a σ H s)(c:Gl X x)(hm:X.mg x=some u)(h:Q u s)
  (hd:(x == ("__debug__" : Str))=false:=by decide):wpAny (model X.prog X.w) X.A (eval (.Name x b) X.env) Q E s :=
 Calls.Name_function_global I.ok.kind c (Calls.loadGlobal_global (by rw[I.ok.glob];exact I.mod.glob.keeps I.bk) hm h) hd
theorem kR {E:cL}{a:c9}{s:Shared}{σ:St}{H:Hp}{x:Str}{u:Value}{b:Pos}{Q:cL}(I:aO X a σ H s)(e:Gl X x)(hm:X.mg x=none)(c:bootBuiltins x=some u)(h:Q u s)
  (d:x≠"__name__":=by decide) (hd:(x == ("__debug__" : Str))=false:=by decide):wpAny (model X.prog X.w) X.A (eval (.Name x b) X.env) Q E s:=by
 obtain⟨i,g,f⟩:=I.mod.blt;exact Calls.Name_function_global I.ok.kind e (Calls.loadGlobal_builtin (by rw[I.ok.glob];exact I.mod.glob.keeps I.bk) hm (by rw[I.ok.blt];exact g.keeps I.bk) ((f x d).trans c) h) hd
theorem MN {x:Str}{v:V}{u:Value}{a:Pos}(b:Gl X x)(hm:X.mg x=some u)(r:aY v u)(hd:(x == ("__debug__" : Str))=false:=by decide):PE X (.Name x a) (tC v) :=
 λ_ _ _ H _ I h=>sR I b hm ⟨v,H,I,r,h⟩ hd
theorem bR {x:Str}{v:V}{u:Value}{a:Pos}(d:Gl X x)(hm:X.mg x=none)(b:bootBuiltins x=some u)(r:aY v u)(c:x≠"__name__":=by decide)(hd:(x == ("__debug__" : Str))=false:=by decide):PE X (.Name x a) (tC v) :=
 λ_ _ _ H _ I h=>kR I d hm b ⟨v,H,I,r,h⟩ c hd
variable {a b:Expr}{ta tb:TE}{pos:Pos}
variable {tA tB':TT}{rest:lM}
def tAnd (t u:TT):TT:=λσ H Q=>t σ H λc a=>if c=true then u σ a Q else Q false a
def tOr (t u:TT):TT:=λσ H Q=>t σ H λc a=>if c=true then Q true a else u σ a Q
def tNot (t:TT):TT:=λσ H Q=>t σ H λc a=>Q (!c) a
theorem jL (d:PT X a tA):PW X (.BoolOp .And [a] pos) tA:=by
 intro f b s σ H Q I h;refine isTrue_and (thn (d b s σ H Q I h) λc g e=>?_);cases c with
 | true=>exact isTrue_and_nil e
 | false=>exact e
theorem iW (d:PT X a tA):PW X (.BoolOp .Or [a] pos) tA:=by
 intro f b s σ H Q I h;refine isTrue_or (thn (d b s σ H Q I h) λc g e=>?_);cases c with
 | false=>exact isTrue_or_nil e
 | true=>exact e
theorem jR (m:PT X a tA)(l:PW X (.BoolOp .And (b::rest) pos) tB'):PW X (.BoolOp .And (a::b::rest) pos) (tAnd tA tB'):=by
 intro i d s σ H Q I h;refine isTrue_and (thn (m d s σ H _ I h) λc j ⟨g,f,e⟩=>?_);cases c with
 | true=>exact l i d j σ g Q f e
 | false=>exact⟨g,f,e⟩
theorem lY (m:PT X a tA)(l:PW X (.BoolOp .Or (b::rest) pos) tB'):PW X (.BoolOp .Or (a::b::rest) pos) (tOr tA tB'):=by
 intro i d s σ H Q I h;refine isTrue_or (thn (m d s σ H _ I h) λc j ⟨g,f,e⟩=>?_);cases c with
 | true=>exact⟨g,f,e⟩
 | false=>exact l i d j σ g Q f e
theorem eK (d:PT X a tA):PT X (.UnaryOp .Not a pos) (tNot tA):=by intro b s σ H Q I h;exact isTrue_not (d b s σ H (λc e=>Q (!c) e) I h)
def tAndV (d b:TE):TE:=λσ H Q=>d σ H λx a=>∃c,x = .bl c/\if c=true then b σ a Q else Q (.bl false) a
def tOrV (d b:TE):TE:=λσ H Q=>d σ H λx a=>∃c,x = .bl c/\if c=true then Q (.bl true) a else b σ a Q
def tNotV (a:TE):TE:=λσ H Q=>a σ H λx b=>∃c,x = .bl c/\Q (.bl (!c)) b
theorem xU {op}{t:TE}(h:PE X a t):PE X (.BoolOp op [a] pos) t:=λb s σ H Q I c=>BoolOp_one (h b s σ H Q I c)
theorem JB (l:PE X a ta)(j:PE X (.BoolOp .And (b::rest) pos) tb):PE X (.BoolOp .And (a::b::rest) pos) (tAndV ta tb):=by
 intro d s σ H Q I h;refine BoolOp_and (thn (l d s σ H _ I h) λv i ⟨x,g,f,r1,e⟩=>?_);obtain⟨c,rfl,e⟩:=e;cases r1;refine wpAny_truthy_bool ?_;cases c with
 | true=>exact j d i σ g Q f e
 | false=>exact⟨.bl false,g,f,rfl,e⟩
theorem RO (l:PE X a ta)(j:PE X (.BoolOp .Or (b::rest) pos) tb):PE X (.BoolOp .Or (a::b::rest) pos) (tOrV ta tb):=by
 intro d s σ H Q I h;refine BoolOp_or (thn (l d s σ H _ I h) λv i ⟨x,g,f,r1,e⟩=>?_);obtain⟨c,rfl,e⟩:=e;cases r1;refine wpAny_truthy_bool ?_;cases c with
 | false=>exact j d i σ g Q f e
 | true=>exact⟨.bl true,g,f,rfl,e⟩
theorem PC (e:PE X a ta):PE X (.UnaryOp .Not a pos) (tNotV ta):=by intro b s σ H Q I h;refine UnaryOp_ (thn (e b s σ H _ I h) λv i ⟨x,g,f,r1,d⟩=>?_);obtain⟨c,rfl,d⟩:=d;cases r1;exact not_of (wpAny_truthy_bool ⟨.bl (!c),g,f,rfl,d⟩)
def tIf (t:TT)(d b:TE):TE:=λσ H Q=>t σ H λc a=>if c=true then d σ a Q else b σ a Q
theorem mC {c:Expr}(l:PT X c tA)(o:PE X a ta)(m:PE X b tb):PE X (.IfExp c a b pos) (tIf tA ta tb):=by
 intro e s σ H Q I h;refine wpAny_IfExp (thn (l e s σ H _ I h) λd f ⟨j,i,g⟩=>?_);cases d with
 | true=>exact o e f σ j Q i g
 | false=>exact m e f σ j Q i g
end
def dN (K:PySem.W.Frag)(H:Hp)(a:Addr)(xs:List V):Prop :=
 Rd H a (.lst xs) ∨
  ∃(o:Obj) (its:iR) (n:Nat),K.lookup a=some o/\o.cls = .type "list"/\o.dict=none/\o.data = .seq its n/\its.size<=sizeLine/\aW xs its.toList
def gF (K:PySem.W.Frag)(H:Hp)(a:Addr)(xs:List V):Prop :=
 Rd H a (.tup xs) ∨
  ∃(o:Obj) (its:iR) (n:Nat),K.lookup a=some o/\o.cls = .type "tuple"/\o.data = .seq its n/\its.size<=sizeLine/\aW xs its.toList
noncomputable def absV:Value->Option V
 | .none=>some .non
 | .bool b=>some (.bl b)
 | .int i _=>some (.int i)
 | .str x _=>some (.str x)
 | .bytes b _=>some (.byt b)
 | .float b _=>some (.flt b)
 | .ref a=>some (.ref a)
 | .type n=>some (.ty n)
 | _=>none
theorem aY.abs {x:V}{u:Value}(r:aY x u):absV u=some x:=by
 cases x with
 | non=>cases r;rfl
 | bl _=>cases r;rfl
 | int _=>obtain⟨t,rfl⟩:=r;rfl
 | str _=>obtain⟨t,rfl⟩:=r;rfl
 | byt _=>obtain⟨t,rfl⟩:=r;rfl
 | flt _=>obtain⟨t,rfl⟩:=r;rfl
 | ref _=>cases r;rfl
 | ty _=>cases r;rfl
theorem aY.inj {x y:V}{u:Value}(r:aY x u)(q:aY y u):x=y:=Option.some.inj (r.abs.symm.trans q.abs)
theorem aW.inj {xs a:List V}{us:cA}(h:aW xs us)(g:aW a us):xs=a:=by
 induction h generalizing a with
 | nil=>cases g;rfl
 | cons r t b=>cases g with|cons r' t'=>rw[r.inj r',b t']
section
variable {X:Cx}{pins:c9}{σ:St}{H:Hp}{s:Shared}{a:Addr}{xs ys:List V}
theorem dN.of {K:PySem.W.Frag}(h:H a=some (.lst xs)):dN K H a xs:=.inl (.inl h)
theorem gF.of {K:PySem.W.Frag}(h:H a=some (.tup xs)):gF K H a xs:=.inl (.inl h)
theorem aO.list (I:aO X pins σ H s)(h:dN X.K H a xs):∃its:cA,aW xs its/\PlainL s.heap a its.toArray/\xs.length<=sizeLine:=by
 rcases h with h|⟨o,its,n,c,d,hd,b,hz,r⟩
 ·obtain⟨z,its,n,r,e⟩:=h.ok I.hok;exact⟨its,r,⟨_,n,e,rfl,rfl,rfl⟩,z⟩
 ·refine⟨its.toList,r,⟨o,n,I.kIn a o c,d,hd,by simpa using b⟩,?_⟩;have e:=r.length;simp only[br]at e;omega
theorem aO.tuple (I:aO X pins σ H s)(h:gF X.K H a xs):∃its:cA,aW xs its/\IsTup s.heap a its.toArray/\xs.length<=sizeLine:=by
 rcases h with h|⟨o,its,n,c,d,b,hz,r⟩
 ·obtain⟨z,its,r,p⟩:=h.ok I.hok;exact⟨its,r,p,z⟩
 ·refine⟨its.toList,r,⟨o,I.kIn a o c,d,n,by simpa using b⟩,?_⟩;have e:=r.length;simp only[br]at e;omega
theorem aO.list_inj (I:aO X pins σ H s)(h:dN X.K H a xs)(h':dN X.K H a ys):xs=ys:=by
 obtain⟨its,r,⟨o,n,e,_,_,d⟩,_⟩:=I.list h;obtain⟨its',c,⟨g,i,b,_,_,d'⟩,_⟩:=I.list h';rw[e]at b;cases b;rw[d]at d';injection d' with f _;have:its=its':=by simpa using congrArg Array.toList f
 subst this;exact r.inj c
theorem aO.tuple_inj (I:aO X pins σ H s)(h:gF X.K H a xs)(h':gF X.K H a ys):xs=ys:=by
 obtain⟨its,r,⟨o,e,_,n,d⟩,_⟩:=I.tuple h;obtain⟨its',c,⟨g,b,_,i,d'⟩,_⟩:=I.tuple h';rw[e]at b;cases b;rw[d]at d';injection d' with f _;have:its=its':=by simpa using congrArg Array.toList f
 subst this;exact r.inj c
end
noncomputable abbrev Cx.wish (X:Cx)(E:cL):Cx:={X with xe:=E}
noncomputable abbrev Cx.nox (X:Cx):Cx:=X.wish λ_ _=>False
theorem Cx.Ok.wish {X:Cx}(ok:X.Ok)(E:cL):(X.wish E).Ok :=
 ⟨ok.mod,ok.kind,ok.glob,ok.blt,ok.above,ok.inj,ok.has,ok.cab,ok.hd,ok.frames,ok.stk,ok.exf,ok.bs,ok.bsz,ok.noex,ok.exfs,ok.funs,ok.frf⟩
theorem Cx.Ok.unwish {X:Cx}{E:cL}(ok:(X.wish E).Ok):X.Ok :=
 ⟨ok.mod,ok.kind,ok.glob,ok.blt,ok.above,ok.inj,ok.has,ok.cab,ok.hd,ok.frames,ok.stk,ok.exf,ok.bs,ok.bsz,ok.noex,ok.exfs,ok.funs,ok.frf⟩
section
variable {X:Cx}{pins:c9}{σ:St}{H:Hp}{s:Shared}{E:cL}
theorem aO.wish (I:aO X pins σ H s)(E:cL):aO (X.wish E) pins σ H s:=⟨I.ok.wish E,I.os,I.bare,I.base,I.loc,I.cell,I.free,I.freeC,I.pin,I.hok,I.len⟩
theorem aO.unwish (I:aO (X.wish E) pins σ H s):aO X pins σ H s:=⟨I.ok.unwish,I.os,I.bare,I.base,I.loc,I.cell,I.free,I.freeC,I.pin,I.hok,I.len⟩
theorem SP.unwish {D:hZ}{f:Flow}{b:Shared}(h:SP (X.wish E) pins D f b):SP X pins D f b:=by
 cases f with
 | next=>obtain⟨a,H',I,q⟩:=h;exact⟨a,H',I.unwish,q⟩
 | brk=>obtain⟨a,H',I,q⟩:=h;exact⟨a,H',I.unwish,q⟩
 | cont=>obtain⟨a,H',I,q⟩:=h;exact⟨a,H',I.unwish,q⟩
 | ret u=>obtain⟨v,a,H',I,r,q⟩:=h;exact⟨v,a,H',I.unwish,r,q⟩
theorem FC.nox {st:List Stmt}{t:TS}(h:FC X.nox st t):FC X st t:=λa s σ H D I b =>
 wpAny_mono (h a s σ H D (I.wish _) b) (λ_ _ q=>q.unwish) λ_ _ z=>False.elim z
end
section
variable {X:Cx}{st:Stmt}{rest:List Stmt}{t u:TS}{e:Expr}{te:TE}{pos:Pos}
def tNext:TS:=λD σ H=>D.nx σ H
def tSeq (t u:TS):TS:=λD σ H=>t {D with nx:=u D} σ H
theorem aR:FC X [] tNext:=λ_ _ σ H _ I h=>wpAny_execs_nil ⟨σ,H,I,h⟩
theorem aC (e:PS X st t)(d:FC X rest u):FC X (st::rest) (tSeq t u):=by
 intro a s σ H D I h;refine wpAny_execs_cons (thn (e a s σ H {D with nx:=u D} I h) λf c q=>?_);cases f with
 | next =>
  obtain⟨b,H',g,q⟩:=q;exact d a c b H' D g q
 | ret v=>exact q
 | brk=>exact q
 | cont=>exact q
theorem aH (b:PS X st t):FC X [st] t:=by
 intro a s σ H D I h;refine wpAny_execs_cons (thn (b a s σ H D I h) λf c q=>?_);cases f with
 | next=>exact wpAny_execs_nil q
 | ret v=>exact q
 | brk=>exact q
 | cont=>exact q
theorem aO.quiet {a:c9}{σ:St}{H:Hp}{s:Shared}(I:aO X a σ H s):interactive X.env=false:=by simp[interactive,I.ok.kind]
def tDrop (a:TE):TS:=λD σ H=>a σ H λ_ b=>D.nx σ b
theorem bZ (d:PE X e te)(c:swapsWith e none pos.line X.env=pure false:=by rfl):PS X (.Expr e pos) (tDrop te):=by intro a s σ H D I h;exact wpAny_Expr_any (thn (d a s σ H _ I h) λv i ⟨x,g,f,r1,b⟩=>⟨σ,g,f,b⟩) I.quiet c
def tRet (a:TE):TS:=λD σ H=>a σ H D.rt
theorem aN (c:PE X e te):PS X (.Return (some e) pos) (tRet te):=by intro a s σ H D I h;exact wpAny_Return_some (thn (c a s σ H _ I h) λv g ⟨x,f,d,r1,b⟩=>⟨x,σ,f,d,r1,b⟩)
def tIfS (c:TT)(t u:TS):TS:=λD σ H=>c σ H λb a=>if b=true then t D σ a else u D σ a
theorem bL {c:Expr}{a b:List Stmt}{f:TT}(m:PT X c f)(p:FC X a t)(o:FC X b u):PS X (.If c a b pos) (tIfS f t u):=by
 intro e s σ H D I h;refine wpAny_If (thn (m e s σ H _ I h) λd g ⟨l,j,i⟩=>?_);cases d with
 | true=>exact p e g σ l D j i
 | false=>exact o e g σ l D j i
def tNever:TS:=λ_ _ _=>False
theorem gA:PS X st tNever:=λ_ _ _ _ _ _ h=>h.elim
end
abbrev TG:=V->St->Hp->(St->Hp->Prop)->Prop
abbrev LO:=List V->St->Hp->(St->Hp->Prop)->Prop
def PG (X:Cx)(a:Expr)(t:TG):Prop :=
 ∀(b:c9) (s:Shared) (σ:St) (H:Hp) (v:V) (u:Value) (Q:St->Hp->Prop),aO X b σ H s->aY v u->t v σ H Q ->
  wpAny (model X.prog X.w) X.A (assign a X.env u) (λ_ d=>∃c H',aO X b c H' d/\Q c H') X.xe s
def RE (X:Cx)(c:lM)(t:LO):Prop :=
 ∀(a:c9) (s:Shared) (σ:St) (H:Hp) (vs:List V) (us:cA) (Q:St->Hp->Prop),aO X a σ H s->aW vs us->t vs σ H Q ->
  wpAny (model X.prog X.w) X.A (assignInOrder ((assignEach c X.env).map (·.2)) us) (λ_ d=>∃b H',aO X a b H' d/\Q b H') X.xe s
abbrev QY:=V->V->V->Hp->(Hp->Prop)->Prop
def R0 (X:Cx)(t:QY):Prop :=
 ∀(a:c9) (s:Shared) (σ:St) (H:Hp) (o i v:V) (ov iv u:Value) (Q:Hp->Prop),aO X a σ H s->aY o ov->aY i iv->aY v u->t o i v H Q ->
  wpAny (model X.prog X.w) X.A (setItem ov iv u) (λ_ b=>∃H',aO X a σ H' b/\Q H') X.xe s
section
variable {X:Cx}{pos:Pos}
def gName (i:Nat):TG:=λv σ H Q=>Q (σ.set i (some v)) H
theorem bA {i:Nat}{x:Str}(e:X.N.Nodup)(c:X.N[i]?=some x)(b:R8 X.env.scope x)(d:X.fn x=true∨X.env.scope.names.lookup x=some .local:=by first|exact .inl rfl|exact .inr rfl|assumption):PG X (.Name x pos) (gName i):=by intro a s σ H v u Q I r h;exact wpAny_assign_Name (zA I e c b r (λg f=>⟨_,H,f,h⟩) d)
def gNil:LO:=λvs σ H Q=>vs=[]/\Q σ H
def gCons (t:TG)(u:LO):LO:=λvs σ H Q=>∃v r,vs=v::r/\t v σ H λa H'=>u r a H' Q
theorem pH:RE X [] gNil:=by intro a s σ H vs us Q I r h;obtain⟨e,h⟩:=h;subst e;cases r;exact assignInOrder_nil ⟨σ,H,I,h⟩
theorem eV {e:Expr}{es:lM}{t:TG}{u:LO}(j:PG X e t)(i:RE X es u)
  (g:(assignEach (e::es) X.env).map (·.2)=assign e X.env::(assignEach es X.env).map (·.2):=by rfl):RE X (e::es) (gCons t u):=by
 intro a s σ H vs us Q I r h;obtain⟨v,p,l,h⟩:=h;subst l;cases r with
 | cons r d =>
  rw[g];refine assignInOrder_cons (thn (j a s σ H _ _ _ I r h) λ_ c ⟨b,o,m,f⟩=>?_);exact i a c b o _ _ Q m d f
def gTup (K:PySem.W.Frag)(n:Nat)(t:LO):TG:=λv σ H Q=>∃a xs,v = .ref a/\gF K H a xs/\xs.length=n/\t xs σ H Q
theorem tK {es:lM}{k:Nat}{t:LO}{n:Nat}(p:X.calm=true)(h:RE X es t)
  (m:(assignEach es X.env).length=n:=by rfl) (f:(assignEach es X.env).findIdx? (·.1)=none:=by rfl):PG X (.Tuple es k pos) (gTup X.K n t):=by
 intro c s σ H v u Q I r d;obtain⟨a,xs,q,l,hl,d⟩:=d;subst q;cases r;obtain⟨its,g,j,hz⟩:=I.tuple l;refine assign_Tuple_tuple (I.ok.hd p) j (by simp[m,←hl,g.length]) f λh' i=>?_;have w:aO X c σ H {s with heap:=h'}:=I.kept (t':=s.toks) λb o e=>i b o (bo (az e)) e;exact h c _ σ H xs _ Q w (by simpa using g) d
def gSub (a b:TE)(t:QY):TG:=λv σ H Q=>a σ H λo e=>b σ e λi d=>t o i v d λc=>Q σ c
theorem xT {o i:Expr}{d e:TE}{t:QY}(ho:PE X o d)(q:PE X i e)(p:R0 X t)
  (w:∀v,assign (.Subscript o i pos) X.env v=(do
   let b ←holding [v] (eval o X.env)
   let c ←holding [v,b] (eval i X.env)
   standAt pos
   holding [v,b,c] (setItem b c v)
   release [v,b,c] []):=by intro _;rfl):PG X (.Subscript o i pos) (gSub d e t):=by
 intro a s σ H v u Q I r h;rw[w];refine aa (ck (thn (ho a s σ H _ I h) λb f ⟨x,F,B,r1,m⟩=>?_));refine aa (ck (thn (q a f σ F _ B m) λc s2 ⟨y,E,A,g,l⟩=>?_));refine aa (wpAny_standAt (aa (ck (thn (p a s2 σ E x y v b c u _ A r1 g r l) λ_ G ⟨C,z,j⟩=>?_))));exact wpAny_release ⟨σ,C,z,j⟩
def tAsg (a:TE)(g:TG):TS:=λD σ H=>a σ H λx b=>g x σ b D.nx
theorem gB {b e:Expr}{c:TE}{g:TG}(m:PE X e c)(l:PG X b g)(j:swapsWithSole [b] e pos.line X.env=pure false:=by rfl)(i:swappedStores [b] e X.env=pure none:=by rfl)
  (o:(assignEach [b] X.env).map (·.2)=[assign b X.env]:=by rfl):PS X (.Assign [b] e pos) (tAsg c g):=by
 intro a s σ H D I h;refine wpAny_Assign_stores (thn (m a s σ H _ I h) λv d ⟨x,r,p,r1,f⟩=>?_) j i;rw[o];exact thn (l a d σ r x v _ p r1 f) λ_ s2 q=>q
theorem aU {i:Nat}{x:Str}{e:Expr}{c:TE}{a:Pos}(o:X.N.Nodup)(j:X.N[i]?=some x)(f:R8 X.env.scope x)(m:PE X e c)(g:swapsWith e (some (.Name x a)) pos.line X.env=pure false:=by rfl)(l:X.fn x=true∨X.env.scope.names.lookup x=some .local:=by first|exact .inl rfl|exact .inr rfl|assumption) :
  PS X (.Assign [.Name x a] e pos) (tAsg c (gName i)):=by
 intro b s σ H D I h;refine wpAny_Assign_Name (thn (m b s σ H _ I h) λv t ⟨y,r,q,r1,d⟩=>?_) g;exact zA q o j f r1 (λs2 p=>⟨_,r,p,d⟩) l
def BS (c:TT)(f:TS):TS:=λD σ H=>∃W:Nat->St->Hp->Prop,(∃m,W m σ H)/\∀m σ H,W m σ H ->
 c σ H λb e=>if b=true then ∃N:St->Hp->Prop,(∀a H',N a H'->∃d,d<m/\W d a H')/\f {D with nx:=N,ct:=N,bk:=D.nx} σ e else D.nx σ e
theorem iX {c:Expr}{body:List Stmt}{q:TT}{r:TS}(t:PassesOwn (model X.prog X.w) X.A X.env X.xe)(K:PT X c q)(L:FC X body r):PS X (.While c body [] pos) (BS q r):=by
 intro a s σ H D I h;obtain⟨W,⟨J,E⟩,turn⟩:=h;refine wpAny_While (codeAny_whileLoop (λn G=>∃p H',aO X a p H' G/\W n p H') ?_ J ⟨σ,H,I,E⟩);rintro n F ⟨g,B,O,C⟩;refine wpAny_passesOwn t (thn (K a F g B _ O (turn n g B C)) λb s2 ⟨z,x,j⟩=>?_);cases b with
 | true =>
  obtain⟨N,u,j⟩:=j;rw[ai rfl];refine wpAny_passesOwn t (thn (L a s2 g z _ x j) λf P i=>?_);cases f with
  | next =>
   obtain⟨d,e,o,n3⟩:=i;obtain⟨m,hm,l⟩:=u d e n3;exact⟨m,hm,d,e,o,l⟩
  | cont =>
   obtain⟨d,e,o,n3⟩:=i;obtain⟨m,hm,l⟩:=u d e n3;exact⟨m,hm,d,e,o,l⟩
  | brk=>exact i
  | ret v=>exact i
 | false =>
  rw[ab Bool.false_ne_true];exact wpAny_execs_nil ⟨g,z,x,j⟩
end
structure It where
 go:Nat->Hp->Prop
 yld:Nat->Hp->V->Hp->Prop
 stop:Nat->Hp->Prop
def fS (X:Cx)(a:c9)(H:Hp)(b:Addr):Prop :=
 H b=none/\b≠X.env.locals/\b∉X.fs/\(b∈X.ex∨X.s₀.heap.objs.size<=b)/\(∀x c,X.env.cells.lookup x=some c->c≠b)/\∀p∈X.pn++a,p.1≠b
theorem aO.fpOk {X:Cx}{a:c9}{σ:St}{H H':Hp}{s:Shared}{b:Addr}(I:aO X a σ H s)(d:s.heap.objs.size<=b)(g:H' b=none):fS X a H' b:=by
 refine⟨g,Nat.ne_of_gt (bf I.lt d),I.nofs d,.inr (ao I.sz d),λx c e z=>?_,λp f z=>?_⟩
 ·obtain⟨v,q⟩:=I.cell x c e;exact absurd (bf q.lt (by rw[z];exact d)) (cf _)
 ·exact absurd (bf (az (I.pin p f).1) (by rw[z];exact d)) (cf _)
structure q8 (P:Program)(w:World)(K:PySem.W.Frag)(tg:Expr)(J:It)(fp:List Addr)(it:Addr)(tn:LI):Prop where
 mem:it∈fp
 obj:∀i h,tn i h->∀b∈fp,∃o,h.get? b=some o/\∀v,o.data≠.cell v
 keep:∀i h h',tn i h->(∀b∈fp,∀o,h.get? b=some o->h'.get? b=some o)->tn i h'
 item:∀(X:Cx),X.prog=P->X.w=w->X.K=K->X.calm=true->∀(i:Nat) (pins:c9) (s:Shared) (σ:St) (H:Hp) (E:cL),aO X pins σ H s->(∀b∈fp,fS X pins H b)->tn i s.heap->J.go i H ->
  wpAny (model P w) X.A (pyNext (.ref it)) (λr s1=>∃u,r=some u /\
   wpAny (model P w) X.A (letOwnedTupleGo tg (.ref it) u) (λ_ s2=>∃x H',aO X pins σ H' s2/\aY x u/\J.yld i H x H'/\tn (i+1) s2.heap/\∀b∈fp,H' b=none) E s1) E s
 done:∀(X:Cx),X.prog=P->X.w=w->X.K=K->X.calm=true->∀(i:Nat) (pins:c9) (s:Shared) (σ:St) (H:Hp) (E:cL),aO X pins σ H s->(∀b∈fp,fS X pins H b)->tn i s.heap->J.stop i H ->
  wpAny (model P w) X.A (pyNext (.ref it)) (λr s1=>r=none/\aO X pins σ H s1) E s
 self:∀(A:Around) (i:Nat) (s:Shared) (Q:cL) (E:cL),tn i s.heap->Q (.ref it) s->wpAny (model P w) A (pyIter (.ref it)) Q E s
abbrev TI:=St->Hp->(It->Hp->Prop)->Prop
def SX (X:Cx)(a:c9)(σ:St)(d:Expr)(R:It->Hp->Prop)(c:Value)(s2:Shared):Prop :=
 ∃(it:Addr) (fp:List Addr) (tn:LI) (J:It) (H':Hp),c = .ref it/\aO X a σ H' s2/\q8 X.prog X.w X.K d J fp it tn/\tn 0 s2.heap/\(∀b∈fp,fS X a H' b)/\R J H'
def PI (X:Cx)(c iter:Expr)(b:TI):Prop :=
 ∀(a:c9) (s:Shared) (σ:St) (H:Hp) (R:It->Hp->Prop),aO X a σ H s->b σ H R ->
  wpAny (model X.prog X.w) X.A (eval iter X.env) (λv d=>wpAny (model X.prog X.w) X.A (pyIter v) (SX X a σ c R) X.xe d) X.xe s
theorem wF {M:Model}{A:Around}{E:cL}{s:Shared}{b:Expr}{it:Addr}{u:Value}{o:Obj}{n:String}{vs:iR}{Q:Unit->Shared->Prop}(ho:s.heap.get? it=some o)(d:o.cls = .type n)(hd:o.data = .fields vs)
  (c:["enumerate","zip","dict_itemiterator","dict_reverseitemiterator","odict_iterator","itertools.zip_longest","itertools.pairwise"].contains n=false) (a:Q () s):wpAny M A (letOwnedTupleGo b (.ref it) u) Q E s:=by
 unfold letOwnedTupleGo;cases b <;> first
  | exact ak a
  | (cases u <;> first
    | exact ak a
    | (refine aa (wpAny_load ho ?_);rw[d,hd];show wpAny M A (if (["enumerate","zip","dict_itemiterator","dict_reverseitemiterator","odict_iterator","itertools.zip_longest","itertools.pairwise"].contains n && vs[0]? == some (rawInt _))=true then _ else _) Q E s;rw[ab (by intro h;rw[c,Bool.false_and]at h;cases h)];exact ak a))
noncomputable def OL (K:PySem.W.Frag)(a:Addr):It :=
 ⟨λi H=>∃xs x,dN K H a xs/\xs[i]?=some x,λi H x H'=>H'=H/\∀xs,dN K H a xs->xs[i]?=some x,λi H=>∃xs,dN K H a xs/\xs.length<=i⟩
noncomputable def OK (K:PySem.W.Frag)(a:Addr):It :=
 ⟨λi H=>∃xs x,gF K H a xs/\xs[i]?=some x,λi H x H'=>H'=H/\∀xs,gF K H a xs->xs[i]?=some x,λi H=>∃xs,gF K H a xs/\xs.length<=i⟩
noncomputable def N7 (a:Int)(n:Nat):It:=⟨λi _=>i<n,λi H x H'=>H'=H/\x = .int (a+i),λi _=>n<=i⟩
theorem FG {P:Program}{w:World}{K:PySem.W.Frag}{O:Expr}(a it:Addr):q8 P w K O (OL K a) [it] it (λi h=>h.IsListIter it a i) where
 mem:=by simp
 obj:=λi h st b g=>by
  have e:b=it:=by simpa using g
  subst e;obtain⟨o,e,c,d⟩:=st;exact⟨o,e,λv z=>by rw[d]at z;cases z⟩
 keep:=λi h h' st k=>st.at λo e=>k it (by simp) o e
 item:=by intro X B t C N i f s σ H E I m st A;subst B t C;obtain⟨xs,x,l,r⟩:=A;obtain⟨its,q,p,hz⟩:=I.list l;obtain⟨u,T,R⟩:=q.get r;obtain⟨L,f1,f2,J,G,F⟩:=m it (by simp);refine wpAny_pyNext_list_item st p.isList (x:=u) (by simpa using T) λh' j Q=>?_;have Y:aO X f σ H {s with heap:=h'}:=I.turned (t':=s.toks) (λb o g e=>(Q.2 b g).trans e) L f1 J G F;obtain⟨o,e,c,d⟩:=id j;exact⟨u,rfl,wF (s:={s with heap:=h'}) e c d (by decide) ⟨x,H,Y,R,⟨rfl,λZ S=>by rw[I.list_inj S l];exact r⟩,j,λb g=>(m b g).1⟩⟩
 done:=by intro X B t C N i f s σ H E I m st A;subst B t C;obtain⟨xs,l,r⟩:=A;obtain⟨its,q,p,hz⟩:=I.list l;obtain⟨L,f1,f2,J,G,F⟩:=m it (by simp);have hl:=q.length;exact wpAny_pyNext_list_end (I.ok.hd N) st p.isList (by simp;omega) λh' U=>⟨rfl,I.turned (t':=s.toks) (λb o g e=>U b o g e) L f1 J G F⟩
 self:=λ_ _ _ _ _ st h=>wpAny_pyIter_listiter st h
theorem BM {P:Program}{w:World}{K:PySem.W.Frag}{O:Expr}(a it:Addr):q8 P w K O (OK K a) [it] it (λi h=>h.IsTupleIter it a i) where
 mem:=by simp
 obj:=λi h st b g=>by
  have e:b=it:=by simpa using g
  subst e;obtain⟨o,e,c,d⟩:=st;exact⟨o,e,λv z=>by rw[d]at z;cases z⟩
 keep:=λi h h' st k=>st.at λo e=>k it (by simp) o e
 item:=by intro X B t C N i f s σ H E I m st A;subst B t C;obtain⟨xs,x,l,r⟩:=A;obtain⟨its,q,p,hz⟩:=I.tuple l;obtain⟨u,T,R⟩:=q.get r;obtain⟨L,f1,f2,J,G,F⟩:=m it (by simp);refine wpAny_pyNext_tuple_item st (show s.heap.IsTuple a its.toArray from p) (x:=u) (by simpa using T) λh' j Q=>?_;have Y:aO X f σ H {s with heap:=h'}:=I.turned (t':=s.toks) (λb o g e=>(Q.2 b g).trans e) L f1 J G F;obtain⟨o,e,c,d⟩:=id j;exact⟨u,rfl,wF (s:={s with heap:=h'}) e c d (by decide) ⟨x,H,Y,R,⟨rfl,λZ S=>by rw[I.tuple_inj S l];exact r⟩,j,λb g=>(m b g).1⟩⟩
 done:=by intro X B t C N i f s σ H E I m st A;subst B t C;obtain⟨xs,l,r⟩:=A;obtain⟨its,q,p,hz⟩:=I.tuple l;obtain⟨L,f1,f2,J,G,F⟩:=m it (by simp);have hl:=q.length;exact wpAny_pyNext_tuple_end (I.ok.hd N) st (show s.heap.IsTuple a its.toArray from p) (by simp;omega) λh' U=>⟨rfl,I.turned (t':=s.toks) (λb o g e=>U b o g e) L f1 J G F⟩
 self:=λ_ _ _ _ _ st h=>wpAny_pyIter_tupleiter st h
theorem BN {P:Program}{w:World}{K:PySem.W.Frag}{B:Expr}(it:Addr)(f:Int)(n:Nat):q8 P w K B (N7 f n) [it] it (λi h=>IsRangeIter h it (f+(i:Nat) * 1) ((n:Int) - (i:Nat)) 1) where
 mem:=by simp
 obj:=λi h st b c=>by
  have e:b=it:=by simpa using c
  subst e
  exact⟨_,st,λv z=>by
   have z':Data.fields _=Data.cell v:=z
   cases z'⟩
 keep:=λi h h' st k=>k it (by simp) _ st
 item:=by intro X p j q m i a s σ H E I g st l;subst p j q;obtain⟨A,f1,f2,x,u,r⟩:=g it (by simp);have W:=Walks.range (prog:=X.prog) (w:=X.w) (I.ok.hd m) it f 1 n;refine W.item i s _ _ l st λv h' tk F d C=>?_;obtain⟨t,rfl⟩:=F;have J:aO X a σ H {s with heap:=h',toks:=tk}:=I.turned (λb o c e=>C b o (by simpa using c) e) A f1 x u r;refine⟨_,rfl,wF (s:={s with heap:=h',toks:=tk}) (n:="range_iterator") d rfl rfl (by decide) ⟨.int (f+i),H,J,⟨t,?_⟩,⟨rfl,rfl⟩,d,λb c=>(g b c).1⟩⟩;rw[Int.mul_one]
 done:=by intro X p j q m i a s σ H E I g st l;subst p j q;obtain⟨A,f1,f2,x,u,r⟩:=g it (by simp);exact wpAny_pyNext_range_end (I.ok.hd m) st (by have:n<=i:=l;omega) λh' G=>⟨rfl,I.turned (t':=s.toks) (λb o c e=>G b o c e) A f1 x u r⟩
 self:=λ_ _ _ _ _ st h=>wpAny_pyIter_rangeiter st h
section
variable {X:Cx}{tg:Expr}
theorem IQ {d:c9}{σ:St}{H:Hp}{s:Shared}{R:It->Hp->Prop}{E:cL}{a c:Int}{t u v:Tok}{tk:Nat}(I:aO X d σ H s)(l : -(2 ^ 62)<=a)(j:a<2 ^ 62)(i : -(2 ^ 62)<=c)(h:c<2 ^ 62)
  (q:R (N7 a (c - a).toNat) H):wpAny (model X.prog X.w) X.A (pyIter (.ref s.heap.objs.size)) (SX X d σ tg R) E {s with heap:=s.heap.push {cls:=.type "range",data:=.fields #[.int a t,.int c u,.int 1 v]},toks:=tk}:=by
 refine wpAny_pyIter_range (IsRange.new ..) (small_one l j i h) ?_;have f:aO X d σ H {s with heap:=s.heap.push {cls:=.type "range",data:=.fields #[.int a t,.int c u,.int 1 v]},toks:=tk}:=I.kept λb o e=>af _ e
 refine⟨(s.heap.push {cls:=.type "range",data:=.fields #[.int a t,.int c u,.int 1 v]}).objs.size,[(s.heap.push {cls:=.type "range",data:=.fields #[.int a t,.int c u,.int 1 v]}).objs.size],_,_,H,rfl,
  f.kept (t':=tk) λb o e=>af _ e,BN _ a (c - a).toNat,?_,λb g=>?_,q⟩
 ·have p:a+((0:Nat):Int) * 1=a:=by simp
  have m:(((c - a).toNat:Nat):Int) - ((0:Nat):Int)=Builtin.Range.rangeSize a c 1:=by rw[rangeSize_one];split <;> omega
  show IsRangeIter _ _ (a+((0:Nat):Int) * 1) ((((c - a).toNat:Nat):Int) - ((0:Nat):Int)) 1;rw[p,m];exact ar _ rfl
 ·have e:b=(s.heap.push {cls:=.type "range",data:=.fields #[.int a t,.int c u,.int 1 v]}).objs.size:=by simpa using g
  subst e;exact f.fpOk (ac _) (f.hok.fresh (ac _))
def iRng1 (a:TA):TI:=λσ H R=>a σ H λvs b=>∃j:Int,vs=[.int j]/\-(2 ^ 62)<=j/\j<2 ^ 62/\R (N7 0 j.toNat) b
def iRng2 (a:TA):TI:=λσ H R=>a σ H λvs b=>∃i j:Int,vs=[.int i,.int j]/\(-(2 ^ 62)<=i/\i<2 ^ 62/\-(2 ^ 62)<=j/\j<2 ^ 62)/\R (N7 i (j - i).toNat) b
theorem iO {a:Expr}{f:TA}{p b:Pos}(m:Gl X "range")(hm:X.mg "range" = none)(o:PA X [a] f)(l:starEach [a] X.env=[(false,eval a X.env)]:=by rfl):PI X tg (.Call (.Name "range" p) [a] [] b) (iRng1 f):=by
 intro c s σ H R I h;refine Call_ (kR I m hm boot_range (PyProof.Rows.callWith_type1 (thn (o b c s σ H _ I h) λus v ⟨vs,w,u,r1,d⟩=>?_) l rfl));obtain⟨j,e,d,i,q⟩:=d;subst e;cases r1 with
 | cons r g =>
  cases g;obtain⟨t,rfl⟩:=r;exact call_range_1 (IQ u (by omega) (by omega) d i (by simpa using q))
def tFor (d:TI)(g:TG)(e:TS):TS:=λD σ H=>d σ H λJ h=>∃W:Nat->Nat->St->Hp->Prop,(∃m,W 0 m σ h)/\∀i m σ H,W i m σ H ->
 (J.stop i H/\D.nx σ H)∨(J.go i H/\∃N:St->Hp->Prop,(∀a H',N a H'->∃b,b<m/\W (i+1) b a H')/\∀x H',J.yld i H x H'->g x σ H' λc f=>e {D with nx:=N,ct:=N,bk:=D.nx} c f)
noncomputable def tJ (a:List Addr)(h:Heap):c9:=a.filterMap λb=>(h.get? b).map λo=>(b,o)
theorem oH {a:List Addr}{h:Heap}{b:Addr}{o:Obj}(c:b∈a)(e:h.get? b=some o):(b,o)∈tJ a h:=List.mem_filterMap.mpr ⟨b,c,by rw[e];rfl⟩
theorem vW {a:List Addr}{h:Heap}{p:Addr×Obj}(c:p∈tJ a h):p.1∈a/\h.get? p.1=some p.2:=by
 obtain⟨b,d,e⟩:=List.mem_filterMap.mp c;cases q:h.get? b with
 | none=>rw[q]at e;cases e
 | some o =>
  rw[q]at e;have e':(b,o)=p:=Option.some.inj e;subst e';exact⟨d,q⟩
theorem aO.pinned {a:c9}{σ:St}{H:Hp}{s:Shared}{c:List Addr}(I:aO X a σ H s)(i:∀b∈c,fS X a H b)(ho:∀b∈c,∃o,s.heap.get? b=some o/\∀v,o.data≠.cell v):aO X (a++tJ c s.heap) σ H s :=
 I.pins_of λp h=>(cx.mp h).elim (λz=>I.pin p (bz _ z)) λz=>by obtain⟨f,e⟩:=vW z;obtain⟨j,f1,f2,_⟩:=i p.1 f;obtain⟨o,g,d⟩:=ho p.1 f;rw[e]at g;cases g;exact⟨e,j,f1,f2,d⟩
theorem aO.unpinned {a pl:c9}{σ:St}{H:Hp}{s:Shared}(I:aO X (a++pl) σ H s):aO X a σ H s:=I.pins_of λp b=>I.pin p (bz _ (cj _ b))
theorem fB {iter:Expr}{body:List Stmt}{Z:TI}{g:TG}{tb:TS}{S:Pos}(K:PassesOwn (model X.prog X.w) X.A X.env X.xe)(hc:X.calm=true)(hi:PI X tg iter Z)(hg:PG X tg g)(l:FC X body tb)
  (hs:∀x,foldedSetIterable iter X.env x=pure x:=by intro _;rfl):PS X (.For tg iter body [] S) (tFor Z g tb):=by
 intro a s σ H D I h;refine wpAny_For (thn (hi a s σ H _ I h) λv s1 h1=>thn h1 λitv s2 h2=>?_) hs;obtain⟨it,O,tn,J,H2,e,I2,T,Q,f2,W,⟨m0,w0⟩,turn⟩:=h2;subst e
 -- what stays true of the iterator's objects through the loop
 have j:∀{H':Hp},(∀b∈O,H' b=none)->∀b∈O,fS X a H' b:=λhn b l=>⟨hn b l,(f2 b l).2⟩
 refine codeAny_forLoop_any (λn s'=>∃i E H',aO X a E H' s'/\tn i s'.heap/\(∀b∈O,H' b=none)/\W i n E H') ?_ m0 ⟨0,σ,H2,I2,Q,λb l=>(f2 b l).1,w0⟩;rintro n s3 ⟨i,C,P,I3,F,L,w3⟩;rcases turn i n C P w3 with⟨stop,qn⟩|⟨go,N,hN,step⟩
 ·refine wpAny_passesOwn K (thn (T.done X rfl rfl rfl hc i a s3 C P X.xe I3 (j L) F stop) λr s4 ⟨U,I4⟩=>?_);subst U;exact wpAny_execs_nil ⟨C,P,I4,qn⟩
 ·refine wpAny_passesOwn K (thn (T.item X rfl rfl rfl hc i a s3 C P X.xe I3 (j L) F go) λr s4 ⟨u,U,h4⟩=>?_);subst U;refine wpAny_passesOwn K (thn h4 λ_ s5 ⟨x,H5,I5,r5,y5,B,Y⟩=>?_);have I5':=I5.pinned (j Y) (T.obj _ _ B);refine wpAny_passesOwn K (thn (hg _ s5 C H5 x u _ I5' r5 (step x H5 y5)) λ_ s6 ⟨σ6,H6,I6,q6⟩=>?_);refine wpAny_passesOwn K (thn (l _ s6 σ6 H6 _ I6 q6) λf R z=>?_);have p:∀{c:St} {t:Hp},aO X (a++tJ O s5.heap) c t R->N c t->∃m,m<n/\∃i E H',aO X a E H' R/\tn i R.heap/\(∀b∈O,H' b=none)/\W i m E H':=λ{c t} q G=>by obtain⟨m',hm,w7⟩:=hN c t G;refine⟨m',hm,i+1,c,t,q.unpinned,T.keep _ _ _ B λb l o e=>(q.pin (b,o) (bz _ (bz _ (oH l e)))).1,λb l=>?_,w7⟩;obtain⟨o,e,d⟩:=T.obj _ _ B b l;exact(q.pin (b,o) (bz _ (bz _ (oH l e)))).2.1
  cases f with
  | next=>obtain⟨c,t,q,G⟩:=z;exact p q G
  | cont=>obtain⟨c,t,q,G⟩:=z;exact p q G
  | brk=>obtain⟨c,t,q,z⟩:=z;exact⟨c,t,q.unpinned,z⟩
  | ret v=>obtain⟨x7,c,t,q,r7,z⟩:=z;exact⟨x7,c,t,q.unpinned,r7,z⟩
end
theorem KG {K:PySem.W.Frag}{a:Addr}{xs:List V}{g:TG}{h:TS}{D:hZ}{σ:St}{H:Hp}(Pv:Nat->St->Hp->Prop)(s:Pv 0 σ H)(hl:∀i σ H,i<=xs.length->Pv i σ H->dN K H a xs)
  (o:∀i x σ H,xs[i]?=some x->Pv i σ H->g x σ H λc f=>h {D with nx:=Pv (i+1),ct:=Pv (i+1),bk:=D.nx} c f) (hd:∀σ H,Pv xs.length σ H->D.nx σ H) :
  ∃W:Nat->Nat->St->Hp->Prop,(∃m,W 0 m σ H)/\∀i m σ H,W i m σ H ->
   ((OL K a).stop i H/\D.nx σ H)∨((OL K a).go i H/\∃N:St->Hp->Prop,(∀d H',N d H'->∃j,j<m/\W (i+1) j d H')/\∀x H',(OL K a).yld i H x H'->g x σ H' λc f=>h {D with nx:=N,ct:=N,bk:=D.nx} c f):=by
 refine⟨λi m σ H=>m=xs.length - i/\i<=xs.length/\Pv i σ H,⟨xs.length,by simp,au _,s⟩,?_⟩;rintro i m σ H ⟨rfl,r,p⟩;have q:=hl i σ H r p;by_cases b:i<xs.length
 ·refine .inr ⟨⟨xs,xs[i],q,by simp[b]⟩,Pv (i+1),λd H' l=>⟨xs.length - (i+1),by omega,rfl,b,l⟩,λx H' y=>?_⟩;obtain⟨e,y⟩:=y;subst e;exact o i x σ _ (y xs q) p
 ·have e:i=xs.length:=by omega
  subst e;exact .inl ⟨⟨xs,q,ac _⟩,hd σ H p⟩
theorem NQ {K:PySem.W.Frag}{a:Addr}{xs:List V}{g:TG}{h:TS}{D:hZ}{σ:St}{H:Hp}(Pv:Nat->St->Hp->Prop)(s:Pv 0 σ H)(hl:∀i σ H,i<=xs.length->Pv i σ H->gF K H a xs)
  (o:∀i x σ H,xs[i]?=some x->Pv i σ H->g x σ H λc f=>h {D with nx:=Pv (i+1),ct:=Pv (i+1),bk:=D.nx} c f) (hd:∀σ H,Pv xs.length σ H->D.nx σ H) :
  ∃W:Nat->Nat->St->Hp->Prop,(∃m,W 0 m σ H)/\∀i m σ H,W i m σ H ->
   ((OK K a).stop i H/\D.nx σ H)∨((OK K a).go i H/\∃N:St->Hp->Prop,(∀d H',N d H'->∃j,j<m/\W (i+1) j d H')/\∀x H',(OK K a).yld i H x H'->g x σ H' λc f=>h {D with nx:=N,ct:=N,bk:=D.nx} c f):=by
 refine⟨λi m σ H=>m=xs.length - i/\i<=xs.length/\Pv i σ H,⟨xs.length,by simp,au _,s⟩,?_⟩;rintro i m σ H ⟨rfl,r,p⟩;have q:=hl i σ H r p;by_cases b:i<xs.length
 ·refine .inr ⟨⟨xs,xs[i],q,by simp[b]⟩,Pv (i+1),λd H' l=>⟨xs.length - (i+1),by omega,rfl,b,l⟩,λx H' y=>?_⟩;obtain⟨e,y⟩:=y;subst e;exact o i x σ _ (y xs q) p
 ·have e:i=xs.length:=by omega
  subst e;exact .inl ⟨⟨xs,q,ac _⟩,hd σ H p⟩
theorem GR {b:Int}{n:Nat}{g:TG}{h:TS}{D:hZ}{σ:St}{H:Hp}(Pv:Nat->St->Hp->Prop)(q:Pv 0 σ H)
  (o:∀i σ H,i<n->Pv i σ H->g (.int (b+i)) σ H λc f=>h {D with nx:=Pv (i+1),ct:=Pv (i+1),bk:=D.nx} c f) (hd:∀σ H,Pv n σ H->D.nx σ H) :
  ∃W:Nat->Nat->St->Hp->Prop,(∃m,W 0 m σ H)/\∀i m σ H,W i m σ H ->
   ((N7 b n).stop i H/\D.nx σ H)∨((N7 b n).go i H/\∃N:St->Hp->Prop,(∀d H',N d H'->∃j,j<m/\W (i+1) j d H')/\∀x H',(N7 b n).yld i H x H'->g x σ H' λc f=>h {D with nx:=N,ct:=N,bk:=D.nx} c f):=by
 refine⟨λi m σ H=>m=n - i/\i<=n/\Pv i σ H,⟨n,by simp,au _,q⟩,?_⟩;rintro i m σ H ⟨rfl,r,p⟩;by_cases a:i<n
 ·refine .inr ⟨a,Pv (i+1),λd H' l=>⟨n - (i+1),by omega,rfl,a,l⟩,λx H' y=>?_⟩;obtain⟨e,y⟩:=y;subst e y;exact o i σ _ a p
 ·have e:i=n:=by omega
  subst e;exact .inl ⟨ac _,hd σ H p⟩
abbrev R2:=V->V->Hp->VK->Prop
def iQ (X:Cx)(f:Value->Value->Sem Value)(r:R2):Prop :=
 ∀(a:c9) (s:Shared) (σ:St) (H:Hp) (x y:V) (v u:Value) (Q:VK),aO X a σ H s->aY x v->aY y u->r x y H Q ->
  wpAny (model X.prog X.w) X.A (f v u) (EP X a σ Q) X.xe s
def SE (X:Cx)(f:Value->Sem Value)(r:V->Hp->VK->Prop):Prop :=
 ∀(a:c9) (s:Shared) (σ:St) (H:Hp) (x:V) (v:Value) (Q:VK),aO X a σ H s->aY x v->r x H Q ->
  wpAny (model X.prog X.w) X.A (f v) (EP X a σ Q) X.xe s
def dR (X:Cx)(f:Value)(r:List V->Hp->VK->Prop):Prop :=
 ∀(a:c9) (s:Shared) (σ:St) (H:Hp) (xs:List V) (us:cA) (Q:VK),aO X a σ H s->aW xs us->r xs H Q ->
  wpAny (model X.prog X.w) X.A (call f us) (EP X a σ Q) X.xe s
def SF (X:Cx)(r:V->Hp->(Bool->Hp->Prop)->Prop):Prop :=
 ∀(a:c9) (s:Shared) (σ:St) (H:Hp) (x:V) (v:Value) (Q:Bool->Hp->Prop),aO X a σ H s->aY x v->r x H Q ->
  wpAny (model X.prog X.w) X.A (truthy v) (TP X a σ Q) X.xe s
def tOp (r:R2)(b a:TE):TE:=λσ H Q=>b σ H λx d=>a σ d λy c=>r x y c Q
def tUn (r:V->Hp->VK->Prop)(a:TE):TE:=λσ H Q=>a σ H λx b=>r x b Q
def rI (C:Int->Int->Prop)(g:Int->Int->V):R2:=λx y H Q=>∃i j,x = .int i/\y = .int j/\C i j/\Q (g i j) H
def rI0 (g:Int->Int->V):R2:=λx y H Q=>∃i j,x = .int i/\y = .int j/\Q (g i j) H
def rU (g:Int->V):V->Hp->VK->Prop:=λx H Q=>∃i,x = .int i/\Q (g i) H
section
variable {X:Cx}{a b c:Expr}{ta tb tc:TE}{pos:Pos}
theorem binT (r:PE X a ta)(q:PE X b tb){c:c9}{s:Shared}{σ:St}{H:Hp}{R:V->V->Hp->Prop}(I:aO X c σ H s)
  (h:ta σ H λx e=>tb σ e λy d=>R x y d) {Q:cL} {f:Value->Value->Sem Value}
  (p:∀v u s2 x y d,aO X c σ d s2->aY x v->aY y u->R x y d->wpAny (model X.prog X.w) X.A (f v u) Q X.xe s2) :
  wpAny (model X.prog X.w) X.A (eval a X.env) (λv i=>wpAny (model X.prog X.w) X.A (eval b X.env) (λu g=>wpAny (model X.prog X.w) X.A (f v u) Q X.xe g) X.xe i) X.xe s:=by
 refine thn (r c s σ H _ I h) λv j ⟨x,e,z,r1,o⟩=>?_;refine thn (q c j σ e _ z o) λu s2 ⟨y,d,t,l,m⟩=>?_;exact p v u s2 x y d t r1 l m
theorem bG {op:Operator}{r:R2}(ho:iQ X (binaryOp op) r)(g:PE X a ta)(f:PE X b tb):PE X (.BinOp a op b pos) (tOp r ta tb):=by intro c s σ H Q I h;exact wpAny_BinOp (binT g f I h λv u s2 x y j i e d q=>ho c s2 σ j x y v u Q i e d q)
theorem rF {op:UnaryOp}{r:V->Hp->VK->Prop}(ho:SE X (unaryOp op) r)(e:PE X a ta):PE X (.UnaryOp op a pos) (tUn r ta):=by intro b s σ H Q I h;exact UnaryOp_ (thn (e b s σ H _ I h) λv c ⟨x,g,f,r1,d⟩=>ho b c σ g x v Q f r1 d)
theorem opI {f:Value->Value->Sem Value}{C:Int->Int->Prop}{g:Int->Int->Int}
  (a:∀(i j:Int) (t u:Tok) (s:Shared) (Q:cL) (E:cL),C i j->Q (.int (g i j) s.toks) {s with toks:=s.toks+1}->wpAny (model X.prog X.w) X.A (f (.int i t) (.int j u)) Q E s) :
  iQ X f (rI C λi j=>.int (g i j)):=by
 intro b s σ H x y v u Q I d c h;obtain⟨i,j,rfl,rfl,e,q⟩:=h;obtain⟨t,rfl⟩:=d;obtain⟨t',rfl⟩:=c;exact a i j t t' s _ _ e ⟨.int (g i j),H,I.tok _,⟨_,rfl⟩,q⟩
theorem opI0 {f:Value->Value->Sem Value}{g:Int->Int->Int}
  (a:∀(i j:Int) (t u:Tok) (s:Shared) (Q:cL) (E:cL),Q (.int (g i j) s.toks) {s with toks:=s.toks+1}->wpAny (model X.prog X.w) X.A (f (.int i t) (.int j u)) Q E s) :
  iQ X f (rI0 λi j=>.int (g i j)):=by
 intro b s σ H x y v u Q I d c h;obtain⟨i,j,rfl,rfl,q⟩:=h;obtain⟨t,rfl⟩:=d;obtain⟨t',rfl⟩:=c;exact a i j t t' s _ _ ⟨.int (g i j),H,I.tok _,⟨_,rfl⟩,q⟩
theorem opB0 {f:Value->Value->Sem Value}{g:Int->Int->Bool}
  (a:∀(i j:Int) (t u:Tok) (s:Shared) (Q:cL) (E:cL),Q (.bool (g i j)) s->wpAny (model X.prog X.w) X.A (f (.int i t) (.int j u)) Q E s) :
  iQ X f (rI0 λi j=>.bl (g i j)):=by
 intro b s σ H x y v u Q I d c h;obtain⟨i,j,rfl,rfl,q⟩:=h;obtain⟨t,rfl⟩:=d;obtain⟨t',rfl⟩:=c;exact a i j t t' s _ _ ⟨.bl (g i j),H,I,rfl,q⟩
def SU (i j:Int):Prop:=0<j/\j<1073741824
def SS (i j:Int):Prop:=0<=j/\j<=1000000/\i.natAbs<2 ^ 64
def RA (i j:Int):Prop:=(-(2 ^ 64)<i/\i<2 ^ 64)∨(-(2 ^ 64)<j/\j<2 ^ 64)
theorem RA.ok {i j:Int}(h:RA i j):IntMulOk i j:=by
 rcases h with⟨b,a⟩|⟨b,a⟩
 ·exact .of_left (intBits_le_64 b a)
 ·exact .of_right (intBits_le_64 b a)
theorem PR:iQ X (binaryOp .Add) (rI0 λi j=>.int (i+j)):=opI0 λ_ _ _ _ _ _ _ q=>add_int q
theorem fC:iQ X (binaryOp .Sub) (rI0 λi j=>.int (i - j)):=opI0 λ_ _ _ _ _ _ _ q=>sub_int q
theorem mE:iQ X (binaryOp .Mult) (rI RA λi j=>.int (i * j)):=opI λ_ _ _ _ _ _ _ a q=>mul_int q a.ok
theorem D4:iQ X (binaryOp .FloorDiv) (rI SU λi j=>.int (i / j)):=opI λi j _ _ _ _ _ a q=>by have c:(0:Int)<j:=a.1;have b:j<1073741824:=a.2;exact floordiv_int (by omega) (by rw[Int.fdiv_eq_ediv_of_nonneg i (by omega)];exact q) (.inl (PyProof.noPylong_small (by omega)))
theorem oC:iQ X (binaryOp .Mod) (rI (λ_ j=>0<j) λi j=>.int (i % j)):=opI λi j _ _ _ _ _ a q=>by have b:(0:Int)<j:=a;exact mod_int' (by omega) (by rw[Int.fmod_eq_emod_of_nonneg i (by omega)];exact q)
theorem PN:iQ X (binaryOp .Pow) (rI SS λi j=>.int (i ^ j.toNat)):=opI λ_ _ _ _ _ _ _ a q=>pow_int_small a.1 a.2.1 a.2.2 q
theorem unI {f:Value->Sem Value}{g:Int->Int}
  (a:∀(i:Int) (t:Tok) (s:Shared) (Q:cL) (E:cL),Q (.int (g i) s.toks) {s with toks:=s.toks+1}->wpAny (model X.prog X.w) X.A (f (.int i t)) Q E s) :
  SE X f (rU λi=>.int (g i)):=by
 intro b s σ H x v Q I c h;obtain⟨i,rfl,q⟩:=h;obtain⟨t,rfl⟩:=c;exact a i t s _ _ ⟨.int (g i),H,I.tok _,⟨_,rfl⟩,q⟩
theorem lO:SE X (unaryOp .USub) (rU λi=>.int (-i)):=unI λ_ _ _ _ _ q=>neg_int q
theorem yO {a:c9}{σ:St}{H:Hp}{s:Shared}{Q:VK}{k b:Bool}(I:aO X a σ H s)(q:Q (.bl k) H)(e:k=b):EP X a σ Q (.bool b) s:=by subst e;exact⟨.bl k,H,I,rfl,q⟩
theorem RQ:iQ X (compareOp .Lt) (rI0 λi j=>.bl (decide (i<j))):=opB0 λ_ _ _ _ _ _ _ q=>lt_int q
theorem mF:iQ X (compareOp .LtE) (rI0 λi j=>.bl (decide (i<=j))):=opB0 λ_ _ _ _ _ _ _ q=>le_int q
theorem tO:iQ X (compareOp .Gt) (rI0 λi j=>.bl (decide (j<i))):=opB0 λ_ _ _ _ _ _ _ q=>gt_int q
theorem OD:iQ X (compareOp .GtE) (rI0 λi j=>.bl (decide (j<=i))):=opB0 λ_ _ _ _ _ _ _ q=>ge_int q
theorem F0:iQ X (compareOp .Lt) (λx y H Q=>∃i j,x = .str i/\y = .str j/\Q (.bl (decide (i.cps.toList<j.cps.toList))) H):=by intro a s σ H x y v u Q I c b h;obtain⟨i,j,rfl,rfl,q⟩:=h;obtain⟨t,rfl⟩:=c;obtain⟨t',rfl⟩:=b;exact lt_str (yO I q rfl)
theorem qO:iQ X (compareOp .In) (λx y H Q=>∃i j,x = .str i/\y = .str j/\Q (.bl (!(Builtin.Str.occurrences j i 0 j.length 1).isEmpty)) H):=by intro a s σ H x y v u Q I c b h;obtain⟨i,j,rfl,rfl,q⟩:=h;obtain⟨t,rfl⟩:=c;obtain⟨t',rfl⟩:=b;exact in_str (yO I q rfl)
theorem xY:iQ X (compareOp .Is) (λx y H Q=>y = .non/\Q (.bl (decide (x = .non))) H):=by
 intro b s σ H x y v u Q I a c h;obtain⟨rfl,q⟩:=h;cases c;refine is_none_gen (yO I q ?_);cases x <;> first
  | (cases a;rfl)
  | (obtain⟨t,rfl⟩:=a;rfl)
theorem sJ:iQ X (compareOp .IsNot) (λx y H Q=>y = .non/\Q (.bl (!decide (x = .non))) H):=by
 intro b s σ H x y v u Q I a c h;obtain⟨rfl,q⟩:=h;cases c;refine isnot_none_gen (yO I q ?_);cases x <;> first
  | (cases a;rfl)
  | (obtain⟨t,rfl⟩:=a;rfl)
theorem iQ.or {f:Value->Value->Sem Value}{r d:R2}(h:iQ X f r)(h':iQ X f d):iQ X f (λx y H Q=>r x y H Q∨d x y H Q):=by
 intro a s σ H x y v u Q I c b q;rcases q with q|q
 ·exact h a s σ H x y v u Q I c b q
 ·exact h' a s σ H x y v u Q I c b q
theorem nomark (b:Expr){op:CmpOp}(h:op≠.In:=by decide)(a:op≠.NotIn:=by decide):behindInMarks op b=false:=by
 have d:(op == CmpOp.In)=false:=by cases op <;> first|rfl|exact absurd rfl h
 have c:(op == CmpOp.NotIn)=false:=by cases op <;> first|rfl|exact absurd rfl a
 cases b <;> simp[behindInMarks,d,c]
theorem jN {op:CmpOp}{r:R2}(ho:iQ X (compareOp op) r)(g:PE X a ta)(f:PE X b tb)(hm:behindInMarks op b=false):PE X (.Compare a [op] [b] pos) (tOp r ta tb):=by intro c s σ H Q I h;exact wpAny_Compare1 (binT g f I h λv u s2 x y j i e d q=>ho c s2 σ j x y v u Q i e d q) hm
def tTest (t:TE):TT:=λσ H Q=>t σ H λx H'=>∃k,x = .bl k/\Q k H'
theorem aQ {op:CmpOp}{r:R2}(ho:iQ X (compareOp op) r)(p:PE X a ta)(o:PE X b tb)(hm:behindInMarks op b=false):PT X (.Compare a [op] [b] pos) (tTest (tOp r ta tb)):=by
 intro d s σ H Q I h
 refine wpAny_isTrue_Compare1 (thn (p d s σ H _ I h) λv f ⟨x,C,w,r1,m⟩=>thn (o d f σ C _ w m) λu s2 ⟨y,B,t,i,l⟩ =>
  thn (ho d s2 σ B x y v u _ t r1 i l) λc E ⟨z,A,q,g,k,e,j⟩=>?_) hm
 subst e;cases g;exact wpAny_truthy_bool ⟨A,q,j⟩
def tChain (r f:R2)(e d c:TE):TE:=λσ H Q=>e σ H λx i=>d σ i λy h=>r x y h λz a=>∃k,z = .bl k /\
 (if k=true then c σ a λb g=>f y b g Q else Q (.bl false) a)
theorem j7 {op g:CmpOp}{r l:R2}(ho:iQ X (compareOp op) r)(i:iQ X (compareOp g) l)(R:PE X a ta)(P:PE X b tb)(O:PE X c tc)
  (hm:lastMarks [op,g] [b,c]=false:=by with_unfolding_all rfl):PT X (.Compare a [op,g] [b,c] pos) (tTest (tChain r l ta tb tc)):=by
 intro f s σ H Q I h
 refine isTrue_chain (thn (R f s σ H _ I h) λv B ⟨x,H1,Z,r1,L⟩=>test_link (thn (P f B σ H1 _ Z L) λu s2 ⟨y,H2,Y,j,K⟩ =>
  thn (ho f s2 σ H2 x y v u _ Y r1 j K) λd A ⟨z,p,o,F,k,e,m⟩=>?_)) hm
 subst e;cases F;refine wpAny_truthy_bool ?_;cases k with
 | false =>
  obtain⟨k',T,N⟩:=m;cases T;exact ite_ff ⟨p,o,N⟩
 | true =>
  refine ite_tt (test_last (thn (O f A σ p _ o m) λt w ⟨q,H4,W,E,J⟩=>thn (i f w σ H4 y q u t _ W j E J) λd' s5 ⟨z2,H5,U,C,k2,S,G⟩=>?_));subst S;cases C;exact wpAny_truthy_bool ⟨H5,U,G⟩
def LC (K:PySem.W.Frag)(x:V)(H:Hp)(k:Bool):Prop :=
 match x with
 | .non=>k=false
 | .bl b=>k=b
 | .int i=>k=(i != 0)
 | .str y=>y.length<=sizeLine/\k=((y.length:Int) != 0)
 | .byt y=>y.size<=sizeLine/\k=((y.size:Int) != 0)
 | .ref p=>(∃xs,dN K H p xs/\k=!xs.isEmpty)∨(∃xs,gF K H p xs/\k=!xs.isEmpty)∨∃a,H p=some (.dK a)/\k=!a.isEmpty
 | _=>False
theorem CM {κ:Type}{a:List (κ×V)}{vs:List (κ×Value)}(r:KV a vs):(!vs.isEmpty)=!a.isEmpty:=by cases r <;> rfl
theorem uA {xs:List V}{its:cA}(r:aW xs its):(!its.toArray.isEmpty)=!xs.isEmpty:=by cases r <;> simp
theorem line63:(sizeLine:Nat)<2 ^ 63:=by rw[sizeLine_eq];decide
theorem HR:SF X (λx H Q=>∃k,LC X.K x H k/\Q k H):=by
 intro j s σ H x v Q I f h;obtain⟨k,e,q⟩:=h;have hl:=line63;have l:sizeLine=16777216:=sizeLine_eq;cases x with
 | non =>
  cases f;have a:k=false:=e;subst a;exact truthy_none ⟨H,I,q⟩
 | bl b =>
  cases f;have a:k=b:=e;subst a;exact wpAny_truthy_bool ⟨H,I,q⟩
 | int i =>
  obtain⟨t,rfl⟩:=f;have a:k=(i != 0):=e;subst a;exact PySem.P.truthy_int ⟨H,I,q⟩
 | str y =>
  obtain⟨t,rfl⟩:=f;obtain⟨hy,a⟩:y.length<=sizeLine/\k=((y.length:Int) != 0):=e;subst a;exact PySem.P.truthy_str (by omega) ⟨H,I.tok _,q⟩
 | byt y =>
  obtain⟨t,rfl⟩:=f;obtain⟨hy,a⟩:y.size<=sizeLine/\k=((y.size:Int) != 0):=e;subst a;exact PySem.W.truthy_bytes (by omega) ⟨H,I.tok _,q⟩
 | ref p =>
  cases f;have a:(∃xs,dN X.K H p xs/\k=!xs.isEmpty)∨(∃xs,gF X.K H p xs/\k=!xs.isEmpty)∨∃c,H p=some (.dK c)/\k=!c.isEmpty:=e;rcases a with⟨xs,g,a⟩|⟨xs,g,a⟩|⟨c,g,a⟩
  ·subst a;obtain⟨its,r,pl,hz⟩:=I.list g;have d:=r.length;exact wpAny_truthy_list pl.isList (by simp only[ag];omega) ⟨H,I.tok _,by rw[uA r];exact q⟩
  ·subst a;obtain⟨its,r,pl,hz⟩:=I.tuple g;have d:=r.length;exact truthy_tuple pl (by simp only[ag];omega) ⟨H,I.tok _,by rw[uA r];exact q⟩
  ·subst a;obtain⟨hz,hS,vs,r,m⟩:c.length<=sizeLine/\(p == sysModules)=false/\∃vs,KV c vs/\s.heap.DictOf (cN X.prog X.w) p vs:=I.hok p _ g;have d:c.length=vs.length:=Paired.length r;exact wpAny_truthy_dict hS m (by omega) ⟨H,I.tok _,by rw[CM r];exact q⟩
 | _=>exact(show False from e).elim
theorem IR (g:PE X a ta)(f:∀b,isTrue a X.env b=(do let v ←b;standAt a.pos;holding [v] (truthy v))) :
  PT X a (λσ H Q=>ta σ H λx H'=>∃k,LC X.K x H' k/\Q k H'):=by
 intro c s σ H Q I h;exact isTrue_plain (thn (g c s σ H _ I h) λv d ⟨x,j,i,r1,e⟩=>HR c d σ j x v Q i r1 e) (f _)
theorem B4:iQ X (binaryOp .Add) (λx y H Q=>∃i j,x = .str i/\y = .str j/\i.length+j.length<=sizeLine/\Q (.str (i++j)) H):=by intro a s σ H x y v u Q I c b h;obtain⟨i,j,rfl,rfl,hz,q⟩:=h;obtain⟨t,rfl⟩:=c;obtain⟨t',rfl⟩:=b;exact add_str (λt' tk=>⟨.str (i++j),H,I.tok _,⟨_,rfl⟩,q⟩) hz
theorem vals1 {x:V}{us:cA}(r:aW [x] us):∃u,us=[u]/\aY x u:=by
 cases r with
 | cons r1 a=>cases a;exact⟨_,rfl,r1⟩
theorem vals2 {x y:V}{us:cA}(r:aW [x,y] us):∃u a,us=[u,a]/\aY x u/\aY y a:=by
 cases r with
 | cons r1 d =>
  cases d with
  | cons c b=>cases b;exact⟨_,_,rfl,r1,c⟩
theorem G6:dR X (.type "int") (λxs H Q=>(∃i,xs=[.int i]/\Q (.int i) H)∨∃k,xs=[.bl k]/\Q (.int (if k then 1 else 0)) H):=by
 intro a s σ H xs us Q I r h;rcases h with⟨i,rfl,q⟩|⟨k,rfl,q⟩
 ·obtain⟨u,rfl,t,rfl⟩:=vals1 r;exact call_int_int ⟨.int i,H,I,⟨_,rfl⟩,q⟩
 ·obtain⟨u,rfl,r1⟩:=vals1 r;cases r1;exact call_int_bool ⟨.int (if k then 1 else 0),H,I.tok _,⟨_,rfl⟩,q⟩
end
structure C7 (h:Heap)(x dx C:Addr)(mA:jF):Prop where
 obj:h.get? x=some (PySem.W.instObj C dx)
 ns:h.Ns1 dx mA
 ne:dx≠x
theorem GI {h:Heap}{d:Addr}{c:jF}(n:h.Ns1 d c):∃od,h.get? d=some od/\∀name,PySem.W.lookIn name od=some (c name):=by
 obtain⟨o,es,i,ho,hd,g,_,hm⟩:=n;refine⟨o,ho,λname=>?_⟩;have e:=hm name;unfold nsFind findBy at e;rw[←Array.find?_toList]at e;unfold PySem.W.lookIn;rw[hd];dsimp only;split
 ·rename_i y q;rw[q]at e;exact congrArg some e
 ·rename_i q;rw[q]at e;have a:es.toList.any (·.refKey)=false:=by rw[List.any_eq_false];intro y f;obtain⟨z,t,b⟩:=g y (Array.mem_toList_iff.mp f);simp[DictEntry.refKey,b]
  have a':¬es.toList.any (·.refKey)=true:=by rw[a];exact Bool.false_ne_true
  rw[ab a'];exact congrArg some e
theorem C7.look {h:Heap}{x b C:Addr}{a:jF}(I:C7 h x b C a):∃od,PySem.W.InstAt h x (PySem.W.instObj C b) C (some od)/\∀name,PySem.W.lookIn name od=some (a name) :=
 let⟨od,ho,hl⟩:=GI I.ns
 ⟨od,⟨I.obj,rfl,rfl,ho⟩,hl⟩
section
variable {prog:Program}{w:World}{A:Around}{E:cL}{s:Shared}{K:PySem.W.Frag}{x dx C f:Addr}{mA:jF}{name:Str}{v:Value}
theorem NO {a:Bool}{Q:cL}(X:K.In s.heap)(I:C7 s.heap x dx C mA)(e:PySem.W.plainGet K C name=true)(d:PySem.W.hasDictIn K C=true)
  (f:PySem.W.findIn K (.ref C) name=some none) (c:mA name=some v) (b:PySem.W.handedIn v=true) (h:Q v {s with toks:=s.toks+1}) :
  wpAny (model prog w) A (getAttr (.ref x) name a) Q E s:=by
 obtain⟨od,J,hl⟩:=I.look;exact PySem.W.get_value X J (PySem.W.plainGet_of e).1 (PySem.W.findObj_own d f rfl (by rw[hl,c])) b h
theorem KF {pl:Sem Bool}{Q:Value×cA->Shared->Prop}(X:K.In s.heap)(I:C7 s.heap x dx C mA)(a:PySem.W.plainGet K C name=true)
  (d:PySem.W.findIn K (.ref C) name=some (some (.ref f))) (c:PySem.W.isFn K (.ref f)=true) (b:mA name=none) (h:Q (.ref f,[.ref x]) s) :
  wpAny (model prog w) A (getMethod (.ref x) name pl) Q E s:=by
 obtain⟨od,J,hl⟩:=I.look;exact PySem.W.method_fn X J (PySem.W.plainGet_of a).1 (PySem.W.plainGet_of a).2 d (beq_iff_eq.mp c) (by show(PySem.W.lookIn name od).map (·.isSome)=some false;rw[hl,b];rfl) h
theorem L3 {ns:aS}{Q:Unit->Shared->Prop}(X:K.In s.heap)(I:C7 s.heap x dx C mA)
  (o:PySem.W.findIn K (.ref C) "__setattr__" = some (some (.builtin "object.__setattr__"))) (p:PySem.W.plainOver K C=true) (m:PySem.W.takerIn K C name=some none) (q:PySem.W.hasDictIn K C=true)
  (l:PySem.Within mA ns) (hsz:ns.length<=sizeLine)
  (h:∀h',C7 h' x dx C (λy=>if y=name then some v else mA y)->Heap.SameBut dx s.heap h'->Q () {s with heap:=h',toks:=s.toks+2}) :
  wpAny (model prog w) A (setAttr (.ref x) name v) Q E s:=by
 obtain⟨od,J,hl⟩:=I.look;refine PySem.W.set_plain X J o (PySem.W.osa_open (s:={s with toks:=s.toks+1}) (r:=none) X J p m λb=>?_);obtain⟨F,t,g⟩:=PySem.W.any_some q;have j:s.heap.get? x=some ⟨.ref C,some dx,.plain,#[]⟩:=I.obj;refine aa (ak (aa (aa (wpAny_loadPart j (aa (PySem.W.Looks.here (s:={s with toks:=s.toks+1}) (PySem.W.looks_clsIn X t) ?_))))));rw[g];refine ak (a:=some dx) (aa (ak (aa ?_)));refine wpAny_nsSet1 (s:={s with toks:=s.toks+1}) I.ns λh' d c=>?_;obtain⟨B,u,z,e,f,i⟩:=d.count (PySem.Within.cons name v l);refine aa (wpAny_lookBehind e (by rw[f];exact pastItsLine_dict (ao i (by rw[ap];omega))) ?_);exact ak (h _ ⟨(c.2 _ (Ne.symm I.ne)).trans I.obj,d,I.ne⟩ c)
theorem J0 {R:Result->Shared->Prop}{vs:cA}{a:List (Str×Value)}(X:K.In s.heap)(hm:PySem.W.makesIn K C=true)
  (b:PySem.W.findIn K (.ref C) "__init__" = some (some (.ref f))) (c:PySem.W.typeIn K (.ref f)=some (.type "function"))
  (h:codeAny (model prog w) (A.under (.builtin "type.__call__" ⟨.ref C::vs,a⟩)) (.call (.ref f) ⟨.ref (s.heap.objs.size+1)::vs,a⟩) (PySem.W.InitBack (s.heap.objs.size+1) R)
   {s with heap:=(s.heap.push PySem.W.emptyDict).push (PySem.W.instObj C s.heap.objs.size)}) :
  codeAny (model prog w) A (.call (.ref C) ⟨vs,a⟩) R s:=by
 obtain⟨e,g,d,t,os⟩:=s;exact PySem.W.make_core (PySem.W.makes_of X hm) (PySem.W.looks_findIn X b) (λself=>PySem.W.bind_fn X self c) (.inl rfl) h
end
noncomputable def putF (f:Str)(v:V):List (Str×V)->List (Str×V)
 | []=>[(f,v)]
 | (g,x)::r=>if g=f then(g,v)::r else(g,x)::putF f v r
theorem cF (f g:Str)(v:V):∀fs:List (Str×V),(putF f v fs).lookup g=if g=f then some v else fs.lookup g
 | []=>by
  show List.lookup g [(f,v)]=_;by_cases h:g=f
  ·have a:(g == f)=true:=beq_iff_eq.mpr h;simp only[List.lookup,a,ai h]
  ·have a:(g == f)=false:=cz.mpr h;simp only[List.lookup,a,ab h]
 | (k,x)::r=>by
  have c:=cF f g v r;rw[show putF f v ((k,x)::r)=(if k=f then(k,v)::r else(k,x)::putF f v r)from rfl];by_cases b:k=f
  ·rw[ai b];by_cases h:g=k
   ·have a:(g == k)=true:=beq_iff_eq.mpr h;simp only[List.lookup,a,ai (h.trans b)]
   ·have a:(g == k)=false:=cz.mpr h;simp only[List.lookup,a,ab (λe:g=f=>h (e.trans b.symm))]
  ·rw[ab b];by_cases h:g=k
   ·have a:(g == k)=true:=beq_iff_eq.mpr h;simp only[List.lookup,a,ab (λe:g=f=>b (h.symm.trans e))]
   ·have a:(g == k)=false:=cz.mpr h;simp only[List.lookup,a];exact c
theorem qT (f:Str)(v:V):∀fs:List (Str×V),f∈(putF f v fs).map (·.1)/\∀g,g∈fs.map (·.1)->g∈(putF f v fs).map (·.1)
 | []=>⟨by simp[putF],λg h=>by simp at h⟩
 | (k,x)::r=>by
  obtain⟨c,b⟩:=qT f v r;rw[show putF f v ((k,x)::r)=(if k=f then(k,v)::r else(k,x)::putF f v r)from rfl];by_cases a:k=f
  ·rw[ai a];subst a;exact⟨by simp,λg h=>by simpa using h⟩
  ·rw[ab a];refine⟨?_,λg h=>?_⟩
   ·rw[bd];exact ay _ c
   ·rw[bd]at h⊢;rcases cu.mp h with e|e
    ·exact cu.mpr (.inl e)
    ·exact ay _ (b g e)
theorem fU (f:Str)(v:V):∀fs:List (Str×V),(putF f v fs).length<=fs.length+1
 | []=>by simp[putF]
 | (k,x)::r=>by
  have b:=fU f v r;rw[show putF f v ((k,x)::r)=(if k=f then(k,v)::r else(k,x)::putF f v r)from rfl];by_cases a:k=f
  ·rw[ai a,ap,ap];omega
  ·rw[ab a,ap,ap];omega
theorem kZ.some_of {v:V}{o:Option Value}(r:kZ (some v) o):∃u,o=some u/\aY v u:=by
 cases o with
 | none=>exact(show False from r).elim
 | some u=>exact⟨u,rfl,r⟩
theorem kZ.none_of {o:Option Value}(r:kZ none o):o=none:=by
 cases o with
 | none=>rfl
 | some u=>exact(show False from r).elim
theorem GQ {v:V}{u:Value}(r:aY v u):PySem.W.handedIn u=true:=by
 cases v with
 | non=>cases (show u=Value.none from r);rfl
 | bl b=>cases (show u=Value.bool b from r);rfl
 | int i=>obtain⟨t,e⟩:=(show ∃t,u=Value.int i t from r);cases e;rfl
 | str x=>obtain⟨t,e⟩:=(show ∃t,u=Value.str x t from r);cases e;rfl
 | byt b=>obtain⟨t,e⟩:=(show ∃t,u=Value.bytes b t from r);cases e;rfl
 | flt b=>obtain⟨t,e⟩:=(show ∃t,u=Value.float b t from r);cases e;rfl
 | ref a=>cases (show u=Value.ref a from r);rfl
 | ty n=>cases (show u=Value.type n from r);rfl
section
variable {P:Program}{w:World}{H H':Hp}{h h':Heap}{a C dx:Addr}{fs fs':List (Str×V)}
theorem yK (hok:gX P w H h)(e:H a=some (.ins C dx fs)):∃b,C7 h a dx C b/\(∀f,kZ (fs.lookup f) (b f))/\PySem.Within b (fs.map (·.1))/\fs.length<=1000/\H dx=some (.own a):=by
 obtain⟨d,z,ne,ob,b,n,r,q⟩:=(show cK P w H h a (.ins C dx fs)from hok a _ e)
 exact⟨b,⟨ob,n,ne⟩,r,q,z,d⟩
end
structure HA (K:PySem.W.Frag)(C:Addr):Prop where
 pg:PySem.W.plainGet K C Str.empty=true
 hd:PySem.W.hasDictIn K C=true
 po:PySem.W.plainOver K C=true
 sa:PySem.W.findIn K (.ref C) "__setattr__" = some (some (.builtin "object.__setattr__"))
theorem HA.get {K:PySem.W.Frag}{C:Addr}(c:HA K C)(f:Str):PySem.W.plainGet K C f=true:=c.pg
def iA (K:PySem.W.Frag)(C:Addr)(f:Str):Prop:=PySem.W.findIn K (.ref C) f=some none
theorem iA.taker {K:PySem.W.Frag}{C:Addr}{f:Str}(n:iA K C f):PySem.W.takerIn K C f=some none:=by unfold PySem.W.takerIn;rw[show PySem.W.findIn K (.ref C) f=some none from n];rfl
structure N5 (K:PySem.W.Frag)(C:Addr)(m:Str)(f:Addr):Prop where
 at_:PySem.W.findIn K (.ref C) m=some (some (.ref f))
 fn:PySem.W.isFn K (.ref f)=true
 kp:PySem.W.keepIn K (.ref f)=true
section
variable {X:Cx}{pins:c9}{σ:St}{H:Hp}{s:Shared}{a C dx:Addr}{fs:List (Str×V)}{f:Str}{v:V}{A:Around}{E:cL}
theorem CN {b:Bool}{Q:cL}(I:aO X pins σ H s)(e:H a=some (.ins C dx fs))(c:HA X.K C)(n:iA X.K C f)(l:fs.lookup f=some v)
  (h:∀u d,aO X pins σ H d->aY v u->Q u d):wpAny (model X.prog X.w) A (getAttr (.ref a) f b) Q E s:=by
 obtain⟨i,O,r,_,_,_⟩:=yK I.hok e;obtain⟨u,j,g⟩:=kZ.some_of (v:=v) (o:=i f) (by rw[←l];exact r f);exact NO I.kIn O (c.get f) c.hd n j (GQ g) (h u _ (I.tok _) g)
theorem uE {m:Str}{g:Addr}{pl:Sem Bool}{Q:Value×cA->Shared->Prop}(I:aO X pins σ H s)(e:H a=some (.ins C dx fs))(c:HA X.K C)(k:N5 X.K C m g)(l:fs.lookup m=none)
  (h:Q (.ref g,[.ref a]) s):wpAny (model X.prog X.w) A (getMethod (.ref a) m pl) Q E s:=by
 obtain⟨b,O,r,_,_,_⟩:=yK I.hok e;have d:b m=none:=kZ.none_of (by rw[←l];exact r m);exact KF I.kIn O (c.get m) k.at_ k.fn d h
theorem BW {y:V}{u:Value}{Q:Unit->Shared->Prop}(I:aO X pins σ H s)(e:H a=some (.ins C dx fs))(c:HA X.K C)(n:iA X.K C f)(hl:fs.length<1000)(p:aY y u)
  (h:∀j,aO X pins σ (upd H a (.ins C dx (putF f y fs))) j->Q () j):wpAny (model X.prog X.w) A (setAttr (.ref a) f u) Q E s:=by
 obtain⟨l,O,r,i,_,ho⟩:=yK I.hok e;have hz:(fs.map (·.1)).length<=sizeLine:=by rw[ae,sizeLine_eq];omega
 refine L3 I.kIn O c.sa c.po n.taker c.hd i hz λh' d m=>h _ ?_;have hd:∃o,h'.get? dx=some o:=let⟨o,_,_,e',_⟩:=d.ns;⟨o,e'⟩;refine I.write (x:=a) (e:=dx) (by rw[e];exact True.intro) (.inr ho) (λb q v z=>(m.2 b v).trans z) hd ?_;refine⟨by rw[aE O.ne];exact ho,?_,O.ne,d.obj,_,d.ns,λg=>?_,λg t=>?_⟩
 ·have:=fU f y fs;omega
 ·show kZ ((putF f y fs).lookup g) (if g=f then some u else l g);rw[cF];by_cases q:g=f
  ·rw[ai q,ai q];exact p
  ·rw[ab q,ab q];exact r g
 ·by_cases q:g=f
  ·rw[q];exact(qT f y fs).1
  ·refine(qT f y fs).2 g (i g λz=>t ?_);show(if g=f then some u else l g)=none;rw[ab q];exact z
theorem aO.made (I:aO X pins σ H s):aO X pins σ (upd (upd H s.heap.objs.size (.own (s.heap.objs.size+1))) (s.heap.objs.size+1) (.ins C s.heap.objs.size []))
  {s with heap:=(s.heap.push PySem.W.emptyDict).push (PySem.W.instObj C s.heap.objs.size)}:=by
 have c:(s.heap.push PySem.W.emptyDict).get? s.heap.objs.size=some PySem.W.emptyDict:=ar s.heap rfl;have h:((s.heap.push PySem.W.emptyDict).push (PySem.W.instObj C s.heap.objs.size)).get? (s.heap.objs.size+1)=some (PySem.W.instObj C s.heap.objs.size):=by
  have:=ar (s.heap.push PySem.W.emptyDict) (o:=PySem.W.instObj C s.heap.objs.size) rfl
  rwa [Heap.size_push]at this
 have g:(s.heap.push PySem.W.emptyDict).Ns s.heap.objs.size (λ_=>none):=⟨PySem.W.emptyDict,#[],_,c,rfl,(λe f=>absurd f (by simp)),λ_=>rfl⟩
 have i:=I.laid (a:=s.heap.objs.size) (o:=.own (s.heap.objs.size+1)) (h':=s.heap.push PySem.W.emptyDict) (t':=s.toks) (λb u q=>af _ q) (ac _) ⟨_,c⟩;refine i.laid (a:=s.heap.objs.size+1) (o:=.ins C s.heap.objs.size []) (t':=s.toks) (λb u q=>af _ q) (Nat.le_of_eq (Heap.size_push _ _)) ?_;have ne:s.heap.objs.size≠s.heap.objs.size+1:=bo (Nat.lt_succ_self _);refine⟨by rw[aE ne,upd_same],au _,ne,h,λ_=>none,(Heap.Ns1.of_empty g).at λo q=>af _ q,λ_=>True.intro,λy d=>absurd rfl d⟩
theorem NZ {prog:Program}{w:World}{env:Env}{e:Expr}{f:Str}{a:Pos}{s:Shared}{Q:cL}(c:attributeBase e f env (eval e env)=eval e env)
  (h:wpAny (model prog w) A (eval e env) (λo b=>wpAny (model prog w) A (getAttr o f true) Q E b) E s):wpAny (model prog w) A (eval (.Attribute e f a) env) Q E s :=
 Attribute_any_ h (by rw[arm_eval_Attribute,c])
end
def tFld (K:PySem.W.Frag)(c:TE)(f:Str):TE:=λσ H Q=>c σ H λx b=>∃a C d fs v,x = .ref a/\b a=some (.ins C d fs)/\HA K C/\iA K C f/\fs.lookup f=some v/\Q v b
def sFld (K:PySem.W.Frag)(e d:TE)(f:Str):TS:=λD σ H=>d σ H λy g=>e σ g λx c=>∃a C b fs,x = .ref a/\c a=some (.ins C b fs)/\HA K C/\iA K C f/\fs.length<1000 /\
 D.nx σ (upd c a (.ins C b (putF f y fs)))
section
variable {X:Cx}{o e value:Expr}{f:Str}{pos pos' tpos:Pos}{ta tv:TE}
theorem IZ (i:PE X e ta)(j:attributeBase e f X.env (eval e X.env)=eval e X.env):PE X (.Attribute e f pos) (tFld X.K ta f):=by intro b s σ H Q I h;refine NZ j (thn (i b s σ H _ I h) λu w ⟨x,r,p,d,a,C,z,fs,v,ex,m,c,n,l,q⟩=>?_);subst ex;obtain rfl:u=Value.ref a:=d;exact CN p m c n l λt s2 o g=>⟨v,r,o,g,q⟩
theorem xM (r:PE X o ta)(m:PE X value tv)(p:swapsWith value (some (.Attribute o f pos')) pos.line X.env=pure false):PS X (.Assign [.Attribute o f pos'] value pos) (sFld X.K ta tv f):=by intro b s σ H D I h;refine plainObj_wpAny_Assign_Attribute (thn (m b s σ H _ I h) λu d ⟨y,A,z,e,q⟩=>thn (r b d σ A _ z q) λj s2 ⟨x,F,w,g,a,C,E,fs,ex,t,c,n,l,i⟩=>?_) p;subst ex;obtain rfl:j=Value.ref a:=g;exact BW w t c n l e λB v=>⟨σ,_,v,i⟩
theorem OF {pl:Sem Bool}{m:Str}{d:Pos}{args:lM}{b:c9}{s:Shared}{σ:St}{H:Hp}{Q:cL}{o:TE}(z:PE X e o)(I:aO X b σ H s)
  (h:o σ H λx j=>∃a C p fs g,x = .ref a/\j a=some (.ins C p fs)/\HA X.K C/\N5 X.K C m g/\fs.lookup m=none /\
   ∀i,aO X b σ j i->wpAny (model X.prog X.w) X.A (callWith pos (.ref g) [.ref a] (backTo pos (starEach args X.env)) (backToKw pos (keywordEach [] X.env))) Q X.xe i)
  (v:eval (.Call (.Attribute e m d) args [] pos) X.env=(do
   let ov ←eval e X.env
   standAt d.atName
   let(f,first) ←holding [ov] (getMethod ov m pl)
   callWith pos f first (backTo pos (starEach args X.env)) (backToKw pos (keywordEach [] X.env)))) :
  wpAny (model X.prog X.w) X.A (eval (.Call (.Attribute e m d) args [] pos) X.env) Q X.xe s:=by
 refine PySem.W.methodCall_KW (pl:=pl) (thn (z b s σ H _ I h) λu i ⟨x,j,r,t,a,C,p,fs,g,ex,B,c,k,l,q⟩=>?_) v;subst ex;obtain rfl:u=Value.ref a:=t;exact uE r B c k l (q i r)
end
structure eP (k:Nat)(A:Around):Prop where
 hd:A.handled=none
 dp:A.depth+3 * k+5<recursionLimit
 un:A.units+16 * k+200<cLine
theorem eP.mono {j k:Nat}{A:Around}(r:eP k A)(h:j<=k):eP j A:=⟨r.hd,by have:=r.dp;omega,by have:=r.un;omega⟩
theorem eP.deeper {k:Nat}{A:Around}(r:eP (k+1) A)(env:Env):eP k (A.deeper env) :=
 ⟨r.hd,by have:=r.dp;show A.depth+1+3 * k+5<_;omega,by have:=r.un;show A.units+3+16 * k+200<_;omega⟩
theorem eP.in1 {k:Nat}{A:Around}(r:eP (k+1) A):eP k A.in1 :=
 ⟨r.hd,by have:=r.dp;show A.depth+3 * k+5<_;omega,by have:=r.un;show A.units+1+16 * k+200<_;omega⟩
theorem CH {A:Around}{C:Addr}{us:cA}{a:List (Str×Value)}:(A.under (.builtin "type.__call__" ⟨.ref C::us,a⟩)).depth=A.depth+1:=by
 first|rfl|simp[Around.under,Code.weight,Code.isCreation,Code.isGuard,Code.isCaller,Code.frames,Code.isFrame,guardIds]
theorem CG {A:Around}{C:Addr}{us:cA}{a:List (Str×Value)}:(A.under (.builtin "type.__call__" ⟨.ref C::us,a⟩)).units=A.units+1:=by
 first|rfl|simp[Around.under,Code.cUnits,Code.frames,Code.isFrame]
theorem eP.make {k:Nat}{A:Around}(r:eP (k+1) A)(C:Addr)(us:cA)(a:List (Str×Value)):eP k (A.under (.builtin "type.__call__" ⟨.ref C::us,a⟩)) :=
 ⟨r.hd,by have:=r.dp;rw[CH];omega,by have:=r.un;rw[CG];omega⟩
theorem eP.depth {k:Nat}{A:Around}(r:eP k A):A.depth<recursionLimit:=by have:=r.dp;omega
theorem eP.units {k:Nat}{A:Around}(r:eP k A):A.units+64<cLine:=by have:=r.un;omega
def tNil:TA:=λ_ H Q=>Q [] H
def tCons (a:TE)(tr:TA):TA:=λσ H Q=>a σ H λx c=>tr σ c λxs b=>Q (x::xs) b
section
variable {X:Cx}{e:Expr}{es:lM}{te:TE}{t:TA}{pos:Pos}
theorem aB:PA X [] tNil:=λ_ _ _ _ H Q I h=>Calls.spliced_nil ⟨[],H,I,.nil,h⟩
theorem aA (l:PE X e te)(j:PA X es t)(i:starEach (e::es) X.env=(false,eval e X.env)::starEach es X.env:=by rfl):PA X (e::es) (tCons te t):=by intro b a s σ H Q I h;rw[i];show wpAny _ _ (spliced ((false,eval e X.env)::backTo b (starEach es X.env))) _ _ s;refine Calls.spliced_cons (thn (l a s σ H _ I h) λu c ⟨x,q,o,r1,g⟩=>?_);exact thn (j b a c σ q _ o g) λus s2 ⟨xs,p,m,d,f⟩=>⟨x::xs,p,m,.cons r1 d,f⟩
def tTup (t:TA):TE:=λσ H Q=>t σ H λxs a=>xs.length<=sizeLine/\∀p,a p=none->Q (.ref p) (upd a p (.tup xs))
def tLst (t:TA):TE:=λσ H Q=>t σ H λxs a=>xs.length<=sizeLine/\∀p,a p=none->Q (.ref p) (upd a p (.lst xs))
theorem bE {x1}(h:PA X es t):PE X (.Tuple es x1 pos) (tTup t):=by intro a s σ H Q I g;refine wpAny_Tuple_spliced (thn (h pos a s σ H _ I g) λus c ⟨xs,f,d,r,z,q⟩=>⟨by rw[←r.length];exact z,?_⟩);have i:f c.heap.objs.size=none:=d.hok.fresh (ac _);refine⟨.ref c.heap.objs.size,upd f c.heap.objs.size (.tup xs),d.laid (t':=c.toks) (λb u e=>af _ e) (ac _) ?_,rfl,q _ i⟩;exact⟨z,us,r,⟨_,ar _ rfl,rfl,_,rfl⟩⟩
theorem bQ (h:PA X es t):PE X (.List es pos) (tLst t):=by intro a s σ H Q I g;refine wpAny_List_spliced (thn (h pos a s σ H _ I g) λus c ⟨xs,f,d,r,z,q⟩=>⟨by rw[←r.length];exact z,?_⟩);have i:f c.heap.objs.size=none:=d.hok.fresh (ac _);refine⟨.ref c.heap.objs.size,upd f c.heap.objs.size (.lst xs),d.laid (t':=c.toks) (λb u e=>af _ e) (ac _) ?_,rfl,q _ i⟩;exact⟨z,us,0,r,ar _ rfl⟩
end
abbrev Sp:=List V->Hp->VK->XK->Prop
abbrev BJ:=List Env->Hp->Shared->XK->cL
structure y3 (P:Program)(w:World)(K:PySem.W.Frag)(mg:jF)(base:Heap)(A:Around)(outer:List Env)(s:Shared)(H:Hp):Prop where
 frames:A.frames=some outer
 mod:Mod K mg base
 bs:∀b o,base.get? b=some o->s.heap.get? b=some o/\H b=none
 bsz:base.objs.size<=s.heap.objs.size
 funs:s.heap.FunFrames base outer
 frf:∀b∈frs outer,H b=none
 hok:gX P w H s.heap
 bare:AllBare s.gens
def CE (outer:List Env)(P:Program)(w:World)(H:Hp)(s:Shared)(Q:VK)(u:Value)(a:Shared):Prop :=
 ∃v H',a.os=s.os/\AllBare a.gens/\Un (frs outer) [] H H' s.heap a.heap/\gX P w H' a.heap/\aY v u/\Q v H'
def CR (CX:BJ)(outer:List Env)(P:Program)(w:World)(H:Hp)(s:Shared)(Q:VK)(E:XK)(r:Result)(a:Shared):Prop :=
 match r with
 | .ok (.ret u)=>CE outer P w H s Q u a
 | .ok _=>False
 | .error e=>CX outer H s E e a
structure bY (P:Program)(w:World)(K:PySem.W.Frag)(mg:jF)(base:Heap)(CX:BJ)(k:Nat)(f:Addr)(fd:FuncData)(ps:aS)(sp:Sp):Prop where
 len:∀vs H Q E,sp vs H Q E->vs.length=ps.length
 run:∀(A:Around) (outer:List Env) (s:Shared) (H:Hp) (args:Args) (us:cA) (vs:List V) (Q:VK) (E:XK),eP k A->y3 P w K mg base A outer s H->BindsTo s fd args (ps.zip us)->aW vs us->sp vs H Q E ->
  codeAny (model P w) A (.call (.ref f) args) (CR CX outer P w H s Q E) s
theorem bY.mono {P:Program}{w:World}{K:PySem.W.Frag}{mg:jF}{base:Heap}{CX:BJ}{j k:Nat}{f:Addr}{b:FuncData}{ps:aS}{a:Sp}(F:bY P w K mg base CX j f b ps a)(h:j<=k) :
  bY P w K mg base CX k f b ps a:=⟨F.len,λA outer s H args us vs Q E c=>F.run A outer s H args us vs Q E (c.mono h)⟩
theorem y3.make {P:Program}{w:World}{K:PySem.W.Frag}{mg:jF}{base:Heap}{A:Around}{outer:List Env}{s:Shared}{H:Hp}(e:y3 P w K mg base A outer s H)(C:Addr)(us:cA)(a:List (Str×Value)) :
  y3 P w K mg base (A.under (.builtin "type.__call__" ⟨.ref C::us,a⟩)) outer s H:=⟨by first|exact e.frames|(simpa [Around.under,Code.envs,Code.isFrame,pushEnvs] using e.frames),e.mod,e.bs,e.bsz,e.funs,e.frf,e.hok,e.bare⟩
section
variable {X:Cx}{pins:c9}{σ:St}{H:Hp}{s s':Shared}
theorem aO.env0 (I:aO X pins σ H s):y3 X.prog X.w X.K X.mg X.base X.A X.stack s H :=
 ⟨I.ok.frames,I.ok.mod,I.bs,ao I.ok.bsz I.sz,I.stack,I.stkFree,I.hok,I.bare⟩
theorem aO.after {Q:VK}{u:Value}(I:aO X pins σ H s)(h:CE X.stack X.prog X.w H s Q u s'):EP X pins σ Q u s':=by obtain⟨v,H',os,bare,un,hok,r,q⟩:=h;obtain⟨c,g,d,t,a⟩:=s';obtain rfl:a=s.os:=os;exact⟨v,H',I.call (h':=c) (g':=g) (d':=d) (t':=t) (ch:=[]) un hok bare (λb z=>absurd z (by simp)),r,q⟩
end
def tCall (b:Sp)(a:List V)(E:XK)(t:TA):TE:=λσ H Q=>t σ H λvs c=>b (vs++a) c Q E
def tMeth (C:Addr)(m:Str)(e:Sp)(b:List V)(E:XK)(d:TE)(t:TA):TE:=λσ H Q=>d σ H λx c=>∃a f fs,x = .ref a/\c a=some (.ins C f fs)/\fs.lookup m=none /\
 t σ c λvs g=>e (x::(vs++b)) g Q E
def tMake (C:Addr)(d:Sp)(b:List V)(E:XK)(t:TA):TE:=λσ H Q=>t σ H λvs c=>∀x a,c x=none->c a=none->a≠x ->
 d (.ref x::(vs++b)) (upd (upd c a (.own x)) x (.ins C a [])) (λv e=>v = .non/\Q (.ref x) e) E
def eN (K:PySem.W.Frag)(a:FuncData)(ps:aS)(ds:cA):Prop :=
 ∀(s:Shared) (us:cA),K.In s.heap->(us++ds).length=ps.length->BindsTo s a ⟨us,[]⟩ (ps.zip (us++ds))
theorem eN.all {K:PySem.W.Frag}{a:FuncData}{ps:aS}(h:∀us:cA,us.length=ps.length->bindArgs a ⟨us,[]⟩=pure (ps.zip us)):eN K a ps []:=λs us _ hl=>by rw[bn]at hl⊢;exact .of_eq (h us hl)
def k6 (CX:BJ)(X:Cx)(E:XK):Prop:=∀(a:c9) (σ:St) (H:Hp) (s:Shared) (e:Value) (s':Shared),aO X a σ H s->CX X.stack H s E e s'->X.xe e s'
section
variable {X:Cx}{CX:BJ}{k:Nat}{f C:Addr}{fd:FuncData}{ps:aS}{sp:Sp}{dvs:List V}{ds:cA}{E:XK}{x m:Str}{p pos apos:Pos}{e o:Expr}{es:lM}{ta:TE}{t:TA}
theorem IL {a:c9}{σ:St}{H:Hp}{s:Shared}{Q:VK}{us:cA}{vs:List V}(F:bY X.prog X.w X.K X.mg X.base CX k f fd ps sp)(i:eP k X.A)(j:eN X.K fd ps ds)(hd:aW dvs ds)(g:k6 CX X E)
  (I:aO X a σ H s) (r:aW vs us) (h:sp (vs++dvs) H Q E):wpAny (model X.prog X.w) X.A (call (.ref f) us) (EP X a σ Q) X.xe s:=by
 have c:aW (vs++dvs) (us++ds):=r.append hd;have hl:(us++ds).length=ps.length:=by rw[←c.length];exact F.len _ _ _ _ h
 refine wpAny_call (codeAny_mono (F.run X.A X.stack s H ⟨us,[]⟩ (us++ds) (vs++dvs) Q E i I.env0 (j s us I.kIn hl) c h) λr d b=>?_);cases r with
 | error e=>exact g a σ H s e d I b
 | ok fl =>
  cases fl with
  | ret u=>exact I.after b
  | next=>exact False.elim b
  | brk=>exact False.elim b
  | cont=>exact False.elim b
theorem MO (F:bY X.prog X.w X.K X.mg X.base CX k f fd ps sp)(i:eP k X.A)(l:Gl X x)(hm:X.mg x=some (.ref f))(j:PySem.W.keepIn X.K (.ref f)=true)(o:eN X.K fd ps ds)(hd:aW dvs ds)(g:k6 CX X E)
  (u:PA X (e::es) t) (c:(x == ("__debug__" : Str))=false:=by decide) (m:starEach (e::es) X.env=(false,eval e X.env)::starEach es X.env:=by rfl) (b:(backTo pos (starEach es X.env)).any (·.1)=false:=by rfl) :
  PE X (.Call (.Name x p) (e::es) [] pos) (tCall sp dvs E t):=by
 intro a s σ H Q I h;refine wpAny_Call_Name_kw (sR I l hm ?_ c);refine PySem.W.callWith_K (h₀:=X.base) I.ok.mod.kin j (thn (u pos a s σ H _ I h) λus v ⟨vs,z,d,r,q⟩=>⟨d.kIn,?_⟩) m b;exact IL F i o hd g d r q
theorem ML {pl:Sem Bool}(L:PE X o ta)(c:HA X.K C)(hm:N5 X.K C m f)(F:bY X.prog X.w X.K X.mg X.base CX k f fd ps sp)(J:eP k X.A)(N:eN X.K fd ps ds)(hd:aW dvs ds)(B:k6 CX X E)(O:PA X (e::es) t)
  (d:starEach (e::es) X.env=(false,eval e X.env)::starEach es X.env:=by rfl) (g:(backTo pos (starEach es X.env)).any (·.1)=false:=by rfl)
  (G:eval (.Call (.Attribute o m apos) (e::es) [] pos) X.env=(do
   let ov ←eval o X.env
   standAt apos.atName
   let(f,first) ←holding [ov] (getMethod ov m pl)
   callWith pos f first (backTo pos (starEach (e::es) X.env)) (backToKw pos (keywordEach [] X.env))):=by rfl) :
  PE X (.Call (.Attribute o m apos) (e::es) [] pos) (tMeth C m sp dvs E ta t):=by
 intro b s σ H Q I h;refine PySem.W.methodCall_KW (pl:=pl) (thn (L b s σ H _ I h) λu p ⟨x,R,j,v,a,S,fs,ex,P,l,q⟩=>?_) G;subst ex;obtain rfl:u=Value.ref a:=v;refine uE j P c hm l ?_;refine PySem.W.callWith_K (first:=[.ref a]) (h₀:=X.base) I.ok.mod.kin hm.kp (thn (O pos b p σ R _ j q) λus s2 ⟨vs,T,i,r,z⟩=>⟨i.kIn,?_⟩) d g;exact IL (us:=.ref a::us) (vs:=.ref a::vs) F J N hd B i (.cons rfl r) z
structure Mk (K:PySem.W.Frag)(C f:Addr):Prop where
 makes:PySem.W.makesIn K C=true
 init:PySem.W.findIn K (.ref C) "__init__" = some (some (.ref f))
 fn:PySem.W.isFn K (.ref f)=true
 kp:PySem.W.keepIn K (.ref C)=true
theorem IK {a:c9}{σ:St}{H:Hp}{s:Shared}{Q:VK}{us:cA}{vs:List V}(M:Mk X.K C f)(F:bY X.prog X.w X.K X.mg X.base CX k f fd ps sp)(p:eP (k+1) X.A)(q:eN X.K fd ps ds)(hd:aW dvs ds)
  (o:k6 CX X E) (I:aO X a σ H s) (r:aW vs us)
  (h:∀x c,H x=none->H c=none->c≠x->sp (.ref x::(vs++dvs)) (upd (upd H c (.own x)) x (.ins C c [])) (λv B=>v = .non/\Q (.ref x) B) E) :
  wpAny (model X.prog X.w) X.A (call (.ref C) us) (EP X a σ Q) X.xe s:=by
 have i:=h (s.heap.objs.size+1) s.heap.objs.size (I.hok.fresh (Nat.le_succ _)) (I.hok.fresh (ac _)) (bo (Nat.lt_succ_self _));have d:=aO.made (C:=C) I;have g:aW (V.ref (s.heap.objs.size+1)::(vs++dvs)) (Value.ref (s.heap.objs.size+1)::(us++ds)):=.cons rfl (r.append hd);have hl:(Value.ref (s.heap.objs.size+1)::us++ds).length=ps.length:=by have e:=g.length;rw[F.len _ _ _ _ i]at e;exact e.symm
 refine wpAny_call (J0 (f:=f) I.kIn M.makes M.init (beq_iff_eq.mp M.fn) (codeAny_mono (F.run _ X.stack _ _ ⟨Value.ref (s.heap.objs.size+1)::us,[]⟩ (Value.ref (s.heap.objs.size+1)::(us++ds)) _ _ E (p.make C us [])
  (d.env0.make C us []) (q _ (Value.ref (s.heap.objs.size+1)::us) d.kIn hl) g i) λr j b=>?_))
 cases r with
 | error e=>exact o a σ _ _ e j d b
 | ok fl =>
  cases fl with
  | ret u =>
   obtain⟨v,H',z,l,t,m⟩:=d.after b;subst t;exact⟨l,⟨V.ref (s.heap.objs.size+1),H',z,rfl,m⟩⟩
  | next=>exact False.elim b
  | brk=>exact False.elim b
  | cont=>exact False.elim b
theorem MM (M:Mk X.K C f)(F:bY X.prog X.w X.K X.mg X.base CX k f fd ps sp)(i:eP (k+1) X.A)(j:Gl X x)(hm:X.mg x=some (.ref C))(m:eN X.K fd ps ds)(hd:aW dvs ds)(g:k6 CX X E)
  (o:PA X (e::es) t) (c:(x == ("__debug__" : Str))=false:=by decide) (l:starEach (e::es) X.env=(false,eval e X.env)::starEach es X.env:=by rfl) (b:(backTo pos (starEach es X.env)).any (·.1)=false:=by rfl) :
  PE X (.Call (.Name x p) (e::es) [] pos) (tMake C sp dvs E t):=by
 intro a s σ H Q I h;refine wpAny_Call_Name_kw (sR I j hm ?_ c);refine PySem.W.callWith_K (h₀:=X.base) I.ok.mod.kin M.kp (thn (o pos a s σ H _ I h) λus u ⟨vs,v,d,r,q⟩=>⟨d.kIn,?_⟩) l b;exact IK M F i m hd g d r q
end
def PK (X:Cx)(b:List Keyword)(t:TA):Prop :=
 ∀(a:Pos) (pins:c9) (s:Shared) (σ:St) (H:Hp) (Q:List V->Hp->Prop),aO X pins σ H s->t σ H Q->wpAny (model X.prog X.w) X.A (evalAll ((backToKw a (keywordEach b X.env)).map (·.2))) (AP X pins σ Q) X.xe s
section
variable {X:Cx}{CX:BJ}{k:Nat}{f C:Addr}{fd:FuncData}{ps ks:aS}{sp:Sp}{E:XK}{x m:Str}{p pos apos kpos:Pos}{e o:Expr}{es:lM}{kws:List Keyword}{te ta:TE}{t tk:TA}{nm:Option Str}
theorem O8:PK X [] tNil:=λ_ _ _ _ H Q I h=>wpAny_evalAll_nil ⟨[],H,I,.nil,h⟩
theorem MH (j:PE X e te)(i:PK X kws t):PK X (⟨nm,e,kpos⟩::kws) (tCons te t):=by intro b a s σ H Q I h;show wpAny _ _ (evalAll ((do let v ←eval e X.env;standAt b;pure v)::(backToKw b (keywordEach kws X.env)).map (·.2))) _ _ s;refine wpAny_evalAll_cons (aa (thn (j a s σ H _ I h) λu c ⟨x,p,m,r1,g⟩=>aa (wpAny_standAt (ak ?_))));exact thn (i b a c σ p _ m g) λus s2 ⟨xs,o,l,d,f⟩=>⟨x::xs,o,l,.cons r1 d,f⟩
variable {g:cA->cA->cA}{gV:List V->List V->List V}
end
structure aT (N P:aS)(sc:Scope):Prop where
 kind:sc.kind = .function
 co:sc.isCoroutine=false
 gen:sc.isGenerator=false
 nd:N.Nodup
 pre:N.take P.length=P
 par:∀x∈P,sc.names.lookup x=some .local∨sc.names.lookup x=some .cell
 nofree:∀y∈sc.names,y.2≠.free
theorem wT {a:Str->Option NameKind}{x:Str}:∀{binds:List (Str×Value)} {m:jF},(∀v,(x,v)∉binds)->bindL a binds m x=m x
 | [],_,_=>rfl
 | (n,v)::r,m,h=>by
  unfold bindL;rw[wT λw b=>h w (ay _ b)];split
  ·have:x≠n:=by rintro rfl;exact h v av
   simp[this]
  ·rfl
theorem wV {a:Str->Option NameKind}{x:Str}:∀{binds:List (Str×Value)} {m:jF},(∀v,(x,v)∉binds)->bindC a binds m x=m x
 | [],_,_=>rfl
 | (n,v)::r,m,h=>by
  unfold bindC;rw[wV λw b=>h w (ay _ b)];split
  ·rfl
  ·have:x≠n:=by rintro rfl;exact h v av
   simp[this]
theorem wU {a:Str->Option NameKind}{x:Str}{v:Value}:∀{P:aS} {vs:cA} {i:Nat} {m:jF},P.Nodup->P[i]?=some x->vs[i]?=some v->a x=some .local ->
  bindL a (P.zip vs) m x=some v
 | [],_,_,_,_,h,_,_=>by simp at h
 | _::_,[],_,_,_,_,h,_=>by simp at h
 | p::P,w::vs,0,m,nd,c,b,d=>by
  simp at c b;subst c;subst b;show bindL a ((p,w)::P.zip vs) m p=_;unfold bindL;rw[wT λv e=>(da.mp nd).1 (List.of_mem_zip e).1,ai d];simp
 | p::P,w::vs,i+1,m,nd,c,b,d=>by show bindL a ((p,w)::P.zip vs) m x=_;unfold bindL;exact wU (i:=i) (da.mp nd).2 (by simpa using c) (by simpa using b) d
theorem wW {a:Str->Option NameKind}{x:Str}{v:Value}:∀{P:aS} {vs:cA} {i:Nat} {m:jF},P.Nodup->P[i]?=some x->vs[i]?=some v->a x≠some .local ->
  bindC a (P.zip vs) m x=some v
 | [],_,_,_,_,h,_,_=>by simp at h
 | _::_,[],_,_,_,_,h,_=>by simp at h
 | p::P,w::vs,0,m,nd,c,b,d=>by
  simp at c b;subst c;subst b;show bindC a ((p,w)::P.zip vs) m p=_;unfold bindC;rw[wV λv e=>(da.mp nd).1 (List.of_mem_zip e).1,ab d];simp
 | p::P,w::vs,i+1,m,nd,c,b,d=>by show bindC a ((p,w)::P.zip vs) m x=_;unfold bindC;exact wW (i:=i) (da.mp nd).2 (by simpa using c) (by simpa using b) d
noncomputable def start (N:aS)(vs:List V):St:=vs.map some++List.replicate (N.length - vs.length) none
noncomputable def cxOf (CX:BJ)(P:Program)(w:World)(K:PySem.W.Frag)(mg:jF)(base:Heap)(N:aS)(a:Str)(scope:Scope)(f:Addr)(c:Value)(A:Around)(outer:List Env)(s:Shared)(H:Hp)(E:XK):Cx where
 prog:=P
 w:=w
 K:=K
 mg:=mg
 base:=base
 A:=A.deeper (envOfC a scope s.heap.objs.size f c)
 N:=N
 s₀:=s
 H₀:=H
 env:=envOfC a scope s.heap.objs.size f c
 outer:=outer
 stack:=envOfC a scope s.heap.objs.size f c::outer
 ex:=[]
 calm:=true
 fn:=λ_=>true
 pn:=[]
 xe:=λe d=>wpAny (model P w) (A.deeper (envOfC a scope s.heap.objs.size f c)) (leaving (envOfC a scope s.heap.objs.size f c) e) (λ_ b=>CX outer H s E e b) (λg b=>CX outer H s E g b) d
theorem A0 {a:Scope}{n:Nat}{x:Str}(h:a.names.lookup x=some .cell):∃c,(cellsFrom n a.names []).lookup x=some c:=by have q:=PySem.W.cellsFrom_some a.names n [] (.inl h);exact Option.isSome_iff_exists.mp q
theorem GO {CX:BJ}{P:Program}{w:World}{K:PySem.W.Frag}{mg:jF}{base:Heap}{N ps:aS}{d:Str}{scope:Scope}{f:Addr}{F:Value}{A:Around}{outer:List Env}{s G:Shared}{H:Hp}{E:XK}{us:cA}{vs:List V}
  (S:aT N ps scope) (hd:A.handled=none) (j:y3 P w K mg base A outer s H) (hl:vs.length=ps.length) (r:aW vs us)
  (x:InCallC s s.heap.objs.size (bindL (envOfC d scope s.heap.objs.size f F).kindOf (ps.zip us) λ_=>none) (cellsFrom (s.heap.objs.size+1) scope.names []) (bindC (envOfC d scope s.heap.objs.size f F).kindOf (ps.zip us) λ_=>none) G) :
  aO (cxOf CX P w K mg base N d scope f F A outer s H E) [] (start N vs) H G:=by
 have O:ps.length<=N.length:=by have:=congrArg List.length S.pre;rw[bv]at this;omega
 obtain⟨C,tk,rfl,J⟩:=x.done;have l:∀b:Addr,b∉(cxOf CX P w K mg base N d scope f F A outer s H E).ex:=λb z=>absurd (show b∈([]:List Addr)from z) (by simp)
 refine⟨⟨j.mod,S.kind,rfl,rfl,ac _,λy z c C g=>?_,λy m=>?_,λy c _ h=>?_,λ_=>hd,Around.frames_deeper j.frames,.inr ⟨rfl,rfl⟩,λb z=>absurd z (l b),j.bs,j.bsz,λb _ _=>l b,λb z=>absurd z (l b),j.funs,j.frf⟩,
  rfl,j.bare,Un.kept J,⟨_,x.toInCall.ns,λi y v C g R=>?_⟩,λy c h=>⟨_,x.cell y c h⟩,j.hok.fresh (ac _),λy c h=>?_,λp t=>absurd (show p∈([]:c9)from t) (by simp),j.hok.kept J,?_⟩
 ·exact name_of_addr x.apart (PySem.mem_of_lookup C) (PySem.mem_of_lookup g)
 ·have m:scope.names.lookup y=some .cell∨scope.names.lookup y=some .free:=m;rcases m with m|m
  ·exact A0 m
  ·exact absurd rfl (S.nofree _ (PySem.mem_of_lookup m))
 ·exact Nat.le_of_lt (x.above y c (PySem.mem_of_lookup h))
 ·have B:i<vs.length:=by
   unfold start at g;by_cases B:i<vs.length
   ·exact B
   ·rw[List.getElem?_append_right (by simpa using B)]at g;rw[List.getElem?_replicate]at g;split at g <;> cases g
  have Q:vs[i]?=some v:=by
   unfold start at g;rw[List.getElem?_append_left (by simpa using B),bI]at g;cases e:vs[i]? with
   | none=>rw[e]at g;cases g
   | some a=>rw[e]at g;cases g;rfl
  obtain⟨u,I,L⟩:=r.get Q;have t:ps[i]?=some y:=by rw[←S.pre,List.getElem?_take_of_lt (by omega)];exact C
  have o:ps.Nodup:=by rw[←S.pre];exact S.nd.sublist (List.take_sublist _ _)
  refine⟨u,L,?_⟩;rcases S.par y (bi t)with k|k
  ·exact .inl ⟨k,wU o t I k⟩
  ·obtain⟨c,e⟩:=A0 (n:=s.heap.objs.size+1) k;refine .inr ⟨.inl k,c,e,?_⟩;have q:=x.cell y c e;rw[wW o t I (by show scope.names.lookup y≠_;rw[k];decide)]at q;exact q
 ·exact j.hok.fresh (Nat.le_of_lt (x.above y c (PySem.mem_of_lookup h)))
 ·unfold start;show _=N.length;rw[aq,ae,List.length_replicate];omega
theorem OG {CX:BJ}{P:Program}{w:World}{K:PySem.W.Frag}{mg:jF}{base:Heap}{k:Nat}{f:Addr}{name a:Str}{d:Arguments}{body:List Stmt}{scope:Scope}{T kV m R c ct X:Value}{U od:Option Addr}
  {osl:Array (Option Value)} {N ps:aS} {z:Sp} (Y:K.lookup f=some ⟨X,od,.func (PySem.W.fnOf name a d body scope T kV m R U c ct),osl⟩) (L:PySem.W.codeIn K c a=true) (S:aT N ps scope)
  (len:∀vs H Q E,z vs H Q E->vs.length=ps.length)
  (h:∀(A:Around) (outer:List Env) (s:Shared) (H:Hp) (vs:List V) (Q:VK) (E:XK),eP k (A.deeper (envOfC a scope s.heap.objs.size f c))->z vs H Q E ->
   ∃t,FC (cxOf CX P w K mg base N a scope f c A outer s H E) body t/\t {nx:=λ_ H'=>Q .non H',rt:=Q} (start N vs) H) :
  bY P w K mg base CX (k+1) f (PySem.W.fnOf name a d body scope T kV m R U c ct) ps z:=by
 refine⟨len,λA outer s H args us vs Q E G l hb r j=>?_⟩;have hl:=len _ _ _ _ j;have KX:K.In s.heap:=l.mod.kin.keeps λb o e=>(l.bs b o e).1;have F:s.heap.NoLimit:=l.mod.nolimit.keeps λb o e=>(l.bs b o e).1;have g:∀y∈ps.zip us,scope.names.lookup y.1=some .local∨(scope.names.lookup y.1=some .cell/\((cellsFrom (s.heap.objs.size+1) scope.names []).lookup y.1).isSome=true):=λ⟨n,v⟩ Z=>by
  rcases S.par n (List.of_mem_zip Z).1 with q|q
  ·exact .inl q
  ·exact .inr ⟨q,PySem.W.cellsFrom_some _ _ _ (.inl q)⟩
 refine codeAny_call_function G.depth (KX _ _ Y) rfl S.co S.gen rfl (PySem.W.codeRec_of KX L) (hb _ _ _ _ ?_);refine wpAny_newFunctionEnv_cells S.kind g λenv he O x=>?_;subst he;refine⟨F.keeps x.toInCall.keep,codeAny_func ?_⟩;obtain⟨t,ht,hq⟩:=h A outer s H vs Q E (G.deeper _) j;have I:aO (cxOf CX P w K mg base N a scope f c A outer s H E) [] (start N vs) H O:=GO S G.hd l hl r x;refine wpAny_mono (ht [] O (start N vs) H _ I hq) (λfl B i=>?_) λe B i=>i;have fin:∀{p:St} {H':Hp} {v:V} {u:Value},aO (cxOf CX P w K mg base N a scope f c A outer s H E) [] p H' B->aY v u->Q v H'->CE outer P w H s Q u B :=
  λ{p H' v u} J C q=>⟨v,H',J.os,J.bare,J.base,J.hok,C,q⟩
 cases fl with
 | ret u =>
  obtain⟨v,p,H',J,C,q⟩:=i;exact fin J C q
 | next =>
  obtain⟨p,H',J,q⟩:=i;exact fin (v:=V.non) (u:=Value.none) J rfl q
 | brk =>
  obtain⟨_,_,_,q⟩:=i;exact False.elim q
 | cont =>
  obtain⟨_,_,_,q⟩:=i;exact False.elim q
section
variable {X:Cx}{x:Str}{p pos:Pos}{e:Expr}{es:lM}{t:TA}{id T:String}{r:List V->Hp->VK->Prop}
def tCB (r:List V->Hp->VK->Prop)(t:TA):TE:=λσ H Q=>t σ H λvs a=>r vs a Q
theorem aL (m:dR X (.builtin id) r)(j:Gl X x)(hm:X.mg x=none)(g:bootBuiltins x=some (.builtin id))(o:PA X (e::es) t)(i:x≠"__name__":=by decide)(c:(x == ("__debug__" : Str))=false:=by decide)
  (l:starEach (e::es) X.env=(false,eval e X.env)::starEach es X.env:=by rfl) (b:(backTo pos (starEach es X.env)).any (·.1)=false:=by rfl):PE X (.Call (.Name x p) (e::es) [] pos) (tCB r t):=by
 intro a s σ H Q I h;refine wpAny_Call_Name_kw (kR I j hm g ?_ i c);exact PyProof.Rows.callWith_builtin1 (thn (o pos a s σ H _ I h) λus d ⟨vs,u,q,r1,f⟩=>m a d σ u vs us Q q r1 f) l b
theorem cB (m:dR X (.type T) r)(j:Gl X x)(hm:X.mg x=none)(g:bootBuiltins x=some (.type T))(o:PA X (e::es) t)(i:x≠"__name__":=by decide)(c:(x == ("__debug__" : Str))=false:=by decide)
  (l:starEach (e::es) X.env=(false,eval e X.env)::starEach es X.env:=by rfl) (b:(backTo pos (starEach es X.env)).any (·.1)=false:=by rfl):PE X (.Call (.Name x p) (e::es) [] pos) (tCB r t):=by
 intro a s σ H Q I h;refine wpAny_Call_Name_kw (kR I j hm g ?_ i c);exact PyProof.Rows.callWith_type1 (thn (o pos a s σ H _ I h) λus d ⟨vs,u,q,r1,f⟩=>m a d σ u vs us Q q r1 f) l b
end
end L2
namespace HT
open PySem PyProof.Rows
noncomputable def lexLt:List Int->List Int->Bool
 | [],[]=>false
 | [],_::_=>true
 | _::_,[]=>false
 | x::xs,y::a=>if x=y then lexLt xs a else decide (x<y)
theorem lexLt_cons (x y:Int)(xs a:List Int):lexLt (x::xs) (y::a)=if x=y then lexLt xs a else decide (x<y):=rfl
theorem eqAt_int (A:Around)(s:Shared)(a:Int)(t:Tok)(c:Int)(u:Tok):∃e,SeqAt.EqAt A s (.int a t) (.int c u) e/\(e=true ↔ a=c) :=
 ⟨(a == c),SeqAt.EqAt.int_int a t c u,by simp⟩
theorem rcLt_int (A:Around)(s:Shared)(a:Int)(t:Tok)(c:Int)(u:Tok)(prog:Program)(w:World)(E:cL)(Q:cL)(h:Q (.bool (decide (a<c))) s) :
  wpAny (model prog w) A (richCompare .Lt (.int a t) (.int c u)) Q E s :=
 (PyProof.Rows.lt_int h:wpAny (model prog w) A (compareOp .Lt (.int a t) (.int c u)) Q E s)
section
open PySem.SeqAt
open PySem.AutoSeq1 (wpAny_loadPart')
open PySem.MeetsSeq PySem.MeetsSeq2 PySem.MeetsSeq3
end
section
variable {prog:Program}{w:World}{A:Around}{E:cL}{s:Shared}
theorem cat_tup {t b:Addr}{vs a:cA}{Q:cL}(r:IsTup s.heap t vs.toArray)(u:IsTup s.heap b a.toArray)(m:vs≠[])
  (x:a=[]->Q (.ref t) s) (v:a≠[]->Q (.ref s.heap.objs.size) {s with heap:=s.heap.push {cls:=.type "tuple",data:=.seq (vs++a).toArray} })
  (hsz:vs.length+a.length<=sizeLine):wpAny (model prog w) A (binaryOp .Add (.ref t) (.ref b)) Q E s:=by
 obtain⟨⟨cls,p,data,l⟩,ho,o,n,hd⟩:=id r;obtain⟨⟨q,h,j,d⟩,c,g,n2,f⟩:=id u;simp only at o hd g f;subst o hd g f;have e:vs.toArray++a.toArray=(vs++a).toArray:=by simp
 by_cases i:a=[]
 ·exact concat_meets ⟨_,ho,rfl⟩ ⟨_,c,rfl⟩ noFill_tuple_add seq_tuple_add PySem.F.slot_tuple_add PySem.F.entry_tuple_add (PySem.F.args_tuple_add_2 _ _)
   (tuple_addW1 t b vs.toArray a.toArray n n2 p h l d (by simpa using m) (by simp[i])) ⟨ho,c,x i⟩
 ·refine concat_meets ⟨_,ho,rfl⟩ ⟨_,c,rfl⟩ noFill_tuple_add seq_tuple_add PySem.F.slot_tuple_add PySem.F.entry_tuple_add (PySem.F.args_tuple_add_2 _ _)
   (tuple_addW2 t b vs.toArray a.toArray n n2 p h l d (by simpa using m) (by simpa using i) (by rw[ag,ag];exact hsz)) ⟨ho,c,?_⟩
  rw[e];exact v i
noncomputable def sIx (n d:Nat):Option Int->Nat
 | none=>d
 | some v=>if v<0 then(v+(n:Int)).toNat else min v.toNat n
theorem sIx_none (n d:Nat):sIx n d none=d:=rfl
theorem sIx_nat (n d k:Nat):sIx n d (some (k:Int))=min k n:=by show(if (k:Int)<0 then((k:Int)+(n:Int)).toNat else min (k:Int).toNat n)=min k n;rw[ab (by omega),cq]
theorem O5 (n d:Nat)(hd:d<=n)(o:Option Int):sIx n d o<=n:=by
 cases o with
 | none=>exact hd
 | some v =>
  show(if v<0 then(v+(n:Int)).toNat else min v.toNat n)<=n;by_cases a:v<0
  ·rw[ai a];omega
  ·rw[ab a];exact Nat.min_le_right _ _
theorem E5 (v:Int)(n d:Nat):(if v<0 then max (v+(n:Int)) 0 else min v (n:Int))=((sIx n d (some v):Nat):Int):=by
 show(if v<0 then max (v+(n:Int)) 0 else min v (n:Int))=(((if v<0 then(v+(n:Int)).toNat else min v.toNat n):Nat):Int);by_cases a:v<0
 ·simp only[ai a];omega
 ·simp only[ab a];omega
theorem C5 (a b:Option Int)(n:Nat):Builtin.Slice.sliceAdjust a b 1 (n:Int)=(((sIx n 0 a:Nat):Int),((sIx n n b:Nat):Int)):=by
 have c:¬((1:Int)<0):=by omega
 unfold Builtin.Slice.sliceAdjust;simp only[c,if_false];refine Prod.ext ?_ ?_
 ·cases a with
  | none=>rfl
  | some v=>exact E5 v n 0
 ·cases b with
  | none=>rfl
  | some v=>exact E5 v n n
theorem B0 (i j:Nat):Builtin.Slice.slicePlaces (i:Int) (j:Int) 1=j - i:=by
 unfold Builtin.Slice.slicePlaces;have a:(1:Int) > 0:=by omega
 simp only[a,if_true,Int.ediv_one];split <;> omega
theorem slicePart_ {v:Value}{o:Option Int}{Q:Option Int->Shared->Prop}(p:IsPart v o)(h:Q o s):wpAny (model prog w) A (Builtin.Slice.slicePartIndex v) Q E s:=by
 cases p with
 | none=>exact slicePart_none h
 | int i t=>exact slicePart_int h
theorem qK {g:Addr}{f e:Value}{a c:Option Int}{n:Nat}{Q:Int×Int×Nat->Shared->Prop}(j:s.heap.IsSliceOf g f e .none)(pl:IsPart f a)(i:IsPart e c)
  (h:Q (((sIx n 0 a:Nat):Int),1,sIx n n c - sIx n 0 a) s):wpAny (model prog w) A (Builtin.Slice.sliceApplied (.ref g) (pure (n:Int))) Q E s:=by
 obtain⟨os,b,l,d⟩:=id j;unfold Builtin.Slice.sliceApplied Builtin.Slice.sliceFields;refine aa (aa (wpAny_field b d (x:=f) rfl (aa (wpAny_field b d (x:=e) rfl (aa (wpAny_field b d (x:=.none) rfl (ak ?_)))))));refine aa (slicePart_none ?_);show wpAny _ _ (if ((1:Int) == 0)=true then _ else _) _ _ s;rw[ab (by decide)];refine aa (slicePart_ pl (aa (slicePart_ i (aa (ak ?_)))));show wpAny _ _ (match Builtin.Slice.sliceAdjust a c 1 (n:Int)with|(a,c)=>pure (a,(1:Int),Builtin.Slice.slicePlaces a c 1)) _ _ s;rw[C5 a c n];show wpAny _ _ (pure (((sIx n 0 a:Nat):Int),(1:Int),Builtin.Slice.slicePlaces ((sIx n 0 a:Nat):Int) ((sIx n n c:Nat):Int) 1)) _ _ s;rw[B0];exact ak h
theorem IV (xs:iR)(i k:Nat):((List.range k).filterMap λ(m:Nat)=>xs[((i:Int)+(m:Int) * 1).toNat]?).toArray=((xs.toList.drop i).take k).toArray:=by
 have e:(λ(m:Nat)=>xs[((i:Int)+(m:Int) * 1).toNat]?)=λm=>xs[i+m]?:=by
  funext m;have:((i:Int)+(m:Int) * 1).toNat=i+m:=by omega
  rw[this]
 rw[e];have:=pick_run xs i k;rw[List.filterMap_map]at this;have a:((λx=>xs[x]?) ∘ λx=>i+x)=λm=>xs[i+m]?:=rfl;rw[a]at this;rw[this]
theorem getItem_tuple_cut {t e:Addr}{items:iR}{o l:Value}{b c:Option Int}{Q:cL}(d:IsTup s.heap t items)(p:s.heap.IsSliceOf e o l .none)(pl:IsPart o b)(r:IsPart l c)
  (u:¬(sIx items.size 0 b=0/\sIx items.size items.size c=items.size))
  (h:Q (.ref s.heap.objs.size) {s with heap:=s.heap.push {cls:=.type "tuple",data:=.seq ((items.toList.drop (sIx items.size 0 b)).take (sIx items.size items.size c - sIx items.size 0 b)).toArray} })
  (hsz:items.size<=sizeLine):wpAny (model prog w) A (getItem (.ref t) (.ref e)) Q E s:=by
 have a:sizeOk (.seq ((items.toList.drop (sIx items.size 0 b)).take (sIx items.size items.size c - sIx items.size 0 b)).toArray):=by show((items.toList.drop (sIx items.size 0 b)).take (sIx items.size items.size c - sIx items.size 0 b)).toArray.size<=sizeLine;rw[ag,bv,bx,br];omega
 have B:sIx items.size items.size c<=items.size:=O5 _ _ (ac _) c;obtain⟨os,f,i,v⟩:=id p;have j:s.TypeIs (.ref e) "slice":=⟨os,f,i⟩
 unfold getItem
 try with_reducible refine ck ?_
 first|refine aa (ak ?_)|skip
 refine aa (wpAny_sequenceKey d.typeIs (by decide) ?_)
 refine aa (wpAny_callSpecial?_slot (name:=Str.ofString "__getitem__") d.typeIs PyProof.Rows.slot_tuple_getitem
  (wpAny_call_entry PyProof.Rows.slot_tuple_getitem d.typeIs entry_tuple_getitem ?_ (args_tuple_getitem _ _)))
 show wpAny _ _ (Builtin.Tuple.tupleItemsOf (.ref t) >>= _) _ _ s;refine aa (tupleItemsOf_ d ?_);refine aa (wpAny_typeOf j ?_);rw[ai (by decide)];refine aa (qK p pl r ?_);have g:¬((((sIx items.size 0 b:Nat):Int) == 0 && (1:Int) == 1 && (sIx items.size items.size c - sIx items.size 0 b) == items.size)=true):=by intro q;rw[Bool.and_eq_true,Bool.and_eq_true]at q;have z:((sIx items.size 0 b:Nat):Int)=0:=eq_of_beq q.1.1;have x:sIx items.size items.size c - sIx items.size 0 b=items.size:=eq_of_beq q.2;exact u ⟨by omega,by omega⟩
 show wpAny _ _ (if (((sIx items.size 0 b:Nat):Int) == 0 && (1:Int) == 1 && (sIx items.size items.size c - sIx items.size 0 b) == items.size)=true then _ else _) _ _ s;rw[ab g,IV]
 first
  | exact aa (m:=Builtin.Tuple.tupleExact _) (ci (ak ⟨_,rfl,ak h⟩) a)
  | exact aa (m:=Builtin.Tuple.tupleExact _) (ci (aa (ak (ak ⟨_,rfl,ak h⟩))) a)
  | exact aa (aa (m:=Builtin.Tuple.tupleExact _) (ci (ak (ak ⟨_,rfl,ak h⟩)) a))
  | exact aa (aa (m:=Builtin.Tuple.tupleExact _) (ci (ak ⟨_,rfl,ak h⟩) a))
end
end HT
namespace L2
open PySem PySem.Spec PyProof.Rows
abbrev TO:=St->Hp->(Option Int->Hp->Prop)->Prop
def PO (X:Cx)(e:Option Expr)(t:TO):Prop :=
 ∀(a:c9) (s:Shared) (σ:St) (H:Hp) (Q:Option Int->Hp->Prop),aO X a σ H s->t σ H Q ->
  wpAny (model X.prog X.w) X.A (evalPart e X.env) (λu b=>∃o H',aO X a σ H' b/\IsPart u o/\Q o H') X.xe s
def tNoPart:TO:=λ_ H Q=>Q none H
def tPart (t:TE):TO:=λσ H Q=>t σ H λx a=>∃i,x = .int i/\Q (some i) a
theorem kT {ns:List Int}:∀{us:cA},aW (ns.map V.int) us->IntsAre us ns:=by
 induction ns with
 | nil=>intro us r;rw[List.map_nil]at r;cases r;exact .nil
 | cons n ns b =>
  intro us r;rw[bd]at r;cases r with
  | cons r1 a =>
   obtain⟨t,e⟩:=r1;subst e;exact .cons n t (b a)
section
variable {X:Cx}{e:Expr}{te:TE}{lo hi:Option Expr}{tl th:TO}{pos p2:Pos}
theorem c5:PO X none tNoPart:=by intro a s σ H Q I h;rw[evalPart_none];exact ak ⟨none,H,I,.none,h⟩
theorem cM (h:PE X e te):PO X (some e) (tPart te):=by intro a s σ H Q I c;rw[evalPart_some];refine thn (h a s σ H _ I c) λu g ⟨x,f,d,r1,b⟩=>?_;obtain⟨i,rfl,q⟩:=b;obtain⟨t,rfl⟩:=r1;exact⟨some i,f,d,.int i t,q⟩
def RY (X:Cx)(r:V->Option Int->Option Int->Hp->VK->Prop):Prop :=
 ∀(a:c9) (s:Shared) (σ:St) (H:Hp) (x:V) (v vl vu:Value) (lo hi:Option Int) (sl:Addr) (Q:VK),aO X a σ H s->aY x v->s.heap.IsSliceOf sl vl vu .none->IsPart vl lo->IsPart vu hi->r x lo hi H Q ->
  ∃T id,typeLookup (.type T) "__getitem__" = pure (some (.builtin id))/\s.TypeIs v T/\wpAny (model X.prog X.w) X.A (getItem v (.ref sl)) (EP X a σ Q) X.xe s
def tSl (r:V->Option Int->Option Int->Hp->VK->Prop)(b:TE)(tl a:TO):TE:=λσ H Q=>b σ H λx e=>tl σ e λl d=>a σ d λu c=>r x l u c Q
theorem dX {r:V->Option Int->Option Int->Hp->VK->Prop}(B:RY X r)(E:PE X e te)(hl:PO X lo tl)(t:PO X hi th):PE X (.Subscript e (.Slice lo hi none p2) pos) (tSl r te tl th):=by intro a s σ H Q I h;refine Subscript_ (thn (E a s σ H _ I h) λv i ⟨x,O,L,r1,o⟩=>?_);refine wpAny_Slice (thn (hl a i σ O _ L o) λf s2 ⟨l,N,K,pl,m⟩=>thn (t a s2 σ N _ K m) λd c ⟨u,g,J,p,j⟩=>?_);rw[evalPart_none];refine ak ?_;have G:aO X a σ g {c with heap:=c.heap.push {cls:=.type "slice",data:=.fields #[f,d,.none]} }:=J.kept (t':=c.toks) λb ob q=>af _ q;obtain⟨T,id,F,z,C⟩:=B a {c with heap:=c.heap.push {cls:=.type "slice",data:=.fields #[f,d,.none]} } σ g x v f d l u c.heap.objs.size Q G r1 (Heap.IsSliceOf.new ..) pl p j;show wpAny (model X.prog X.w) X.A (subscriptTail e (.Slice lo hi none p2) v (.ref c.heap.objs.size)) (EP X a σ Q) X.xe {c with heap:=c.heap.push {cls:=.type "slice",data:=.fields #[f,d,.none]} };exact tail_any (ops:=[.ref c.heap.objs.size,v]) z F C (by with_unfolding_all rfl)
noncomputable def cutV (xs:List V)(a b:Option Int):List V:=(xs.drop (HT.sIx xs.length 0 a)).take (HT.sIx xs.length xs.length b - HT.sIx xs.length 0 a)
theorem rL (xs:List V)(a b:Option Int):(cutV xs a b).length<=xs.length:=by unfold cutV;rw[bv,bx];omega
def rSlT (K:PySem.W.Frag):V->Option Int->Option Int->Hp->VK->Prop:=λx b c H Q=>∃a xs,x = .ref a/\gF K H a xs /\
 ¬(HT.sIx xs.length 0 b=0/\HT.sIx xs.length xs.length c=xs.length)/\∀p,H p=none->Q (.ref p) (upd H p (.tup (cutV xs b c)))
theorem O2:RY X (rSlT X.K):=by
 intro f s σ H x v u t d e w Q I i p pl j h;obtain⟨a,xs,rfl,l,m,q⟩:=h;cases i;obtain⟨its,r,g,hz⟩:=I.tuple l;have c:its.toArray.size=xs.length:=by rw[ag];exact r.length.symm
 refine⟨"tuple",_,PyProof.Rows.slot_tuple_getitem.lookup,g.typeIs,?_⟩;refine HT.getItem_tuple_cut g p pl j (by rw[c];exact m) ?_ (by rw[c];exact hz);rw[c];refine⟨.ref s.heap.objs.size,_,I.laid (t':=s.toks) (o:=.tup (cutV xs d e)) (λb ob q=>af _ q) (ac _) ?_,rfl,q _ (I.hok.fresh (ac _))⟩;exact⟨ao (rL xs d e) hz,_,(r.drop (HT.sIx xs.length 0 d)).take (HT.sIx xs.length xs.length e - HT.sIx xs.length 0 d),IsTup.new _ _⟩
def rCatT (K:PySem.W.Frag):R2:=λx y H Q=>∃a b xs c,x = .ref a/\y = .ref b/\gF K H a xs/\gF K H b c/\xs≠[]/\xs.length+c.length<=sizeLine /\
 (c=[]->Q (.ref a) H)/\(c≠[]->∀p,H p=none->Q (.ref p) (upd H p (.tup (xs++c))))
theorem aW.nil_iff {xs:List V}{us:cA}(r:aW xs us):us=[] ↔ xs=[]:=by
 cases r with
 | nil=>simp
 | cons _ _=>simp
theorem D5:iQ X (binaryOp .Add) (rCatT X.K):=by intro d s σ H x y v u Q I g f h;obtain⟨a,b,xs,e,rfl,rfl,t,r,p,hz,j,i⟩:=h;cases g;cases f;obtain⟨its,r1,m,_⟩:=I.tuple t;obtain⟨its2,c,l,_⟩:=I.tuple r;refine HT.cat_tup m l (λz=>p (r1.nil_iff.mp z)) (λz=>⟨.ref a,H,I,rfl,j (c.nil_iff.mp z)⟩) (λz=>?_) (by rw[←r1.length,←c.length];exact hz);refine⟨.ref s.heap.objs.size,_,I.laid (t':=s.toks) (o:=.tup (xs++e)) (λb ob q=>af _ q) (ac _) ?_,rfl,i (λw=>z (c.nil_iff.mpr w)) _ (I.hok.fresh (ac _))⟩;exact⟨by rw[aq];exact hz,_,r1.append c,IsTup.new _ _⟩
end
noncomputable def ixN (n:Nat)(i:Int):Option Nat:=if 0<=i then(if i<n then some i.toNat else none)else if -(n:Int)<=i then some (i+n).toNat else none
noncomputable def atI {α:Type}(xs:List α)(i:Int):Option α:=(ixN xs.length i).bind λj=>xs[j]?
theorem EN {n:Nat}{i:Int}{j:Nat}(h:ixN n i=some j):seqIndex? i n=some j/\j<n/\-(n:Int)<=i/\i<n:=by
 unfold ixN at h;by_cases b:0<=i
 ·rw[ai b]at h;by_cases a:i<n
  ·rw[ai a]at h;have e:i.toNat=j:=Option.some.inj h;exact⟨by rw[seqIndex_of b a,e],by omega,by omega,a⟩
  ·rw[ab a]at h;cases h
 ·rw[ab b]at h;by_cases a : -(n:Int)<=i
  ·rw[ai a]at h;have e:(i+n).toNat=j:=Option.some.inj h;exact⟨by rw[seqIndex_neg (by omega) a,e],by omega,a,by omega⟩
  ·rw[ab a]at h;cases h
theorem yV {α:Type}{xs:List α}{i:Int}{v:α}(h:atI xs i=some v):∃j,seqIndex? i xs.length=some j/\xs[j]?=some v/\j<xs.length/\-(xs.length:Int)<=i/\i<xs.length:=by
 unfold atI at h;cases e:ixN xs.length i with
 | none=>rw[e]at h;cases h
 | some j =>
  rw[e]at h;obtain⟨d,c,b,a⟩:=EN e;exact⟨j,d,h,c,b,a⟩
theorem iJ {α:Type}{xs:List α}{j:Nat}{v:α}(h:xs[j]?=some v):atI xs (j:Int)=some v:=by
 have a:j<xs.length:=(cr.mp h).1;have e:ixN xs.length (j:Int)=some j:=by unfold ixN;rw[ai (by omega),ai (by omega)];simp
 unfold atI;rw[e];exact h
theorem LB {α:Type}(xs:List α)(v:α):atI (xs++[v]) (-1)=some v:=by
 have hl:(xs++[v]).length=xs.length+1:=by simp
 have e:ixN (xs++[v]).length (-1)=some xs.length:=by unfold ixN;rw[hl,ab (by decide),ai (by omega)];congr 1;omega
 unfold atI;rw[e];show(xs++[v])[xs.length]?=some v;simp
def N3 (b:Expr):Prop:=∀o i,subscripted b false o i=operate [o,i] (getItem o i)
def LP (X:Cx)(r:R2):Prop :=
 ∀(b a:Expr) (pins:c9) (s:Shared) (σ:St) (H:Hp) (x y:V) (v u:Value) (Q:VK),aO X pins σ H s->aY x v->aY y u->r x y H Q ->
  subscripted a false v u=operate [v,u] (getItem v u)->wpAny (model X.prog X.w) X.A (subscriptTail b a v u) (EP X pins σ Q) X.xe s
def SK (X:Cx)(id:String)(r:V->List V->Hp->VK->Prop):Prop :=
 ∀(a:c9) (s:Shared) (σ:St) (H:Hp) (x:V) (xs:List V) (v:Value) (us:cA) (Q:VK),aO X a σ H s->aY x v->aW xs us->r x xs H Q ->
  wpAny (model X.prog X.w) X.A (call (.builtin id) (v::us)) (EP X a σ Q) X.xe s
section
variable {X:Cx}{a b:Expr}{ta tb:TE}{pos:Pos}
theorem LP.or {r f:R2}(h:LP X r)(h':LP X f):LP X (λx y H Q=>r x y H Q∨f x y H Q):=by
 intro a b c s σ H x y v u Q I e d q g;rcases q with q|q
 ·exact h a b c s σ H x y v u Q I e d q g
 ·exact h' a b c s σ H x y v u Q I e d q g
theorem bC {r:R2}(g:LP X r)(j:PE X a ta)(i:PE X b tb)(f:N3 b):PE X (.Subscript a b pos) (tOp r ta tb):=by intro c s σ H Q I h;exact Subscript_ (binT j i I h λv u s2 x y m l e d q=>g a b c s2 σ m x y v u Q l e d q (f _ _))
def rIxL (K:PySem.W.Frag):R2:=λx y H Q=>∃p xs i v,x = .ref p/\y = .int i/\dN K H p xs/\atI xs i=some v/\Q v H
def rIxT (K:PySem.W.Frag):R2:=λx y H Q=>∃p xs i v,x = .ref p/\y = .int i/\gF K H p xs/\atI xs i=some v/\Q v H
def rIxS:R2:=λx y H Q=>∃z i c,x = .str z/\y = .int i/\z.length<=sizeLine/\atI z.cps.toList i=some c/\Q (.str ⟨#[c]⟩) H
theorem NN:LP X (rIxL X.K):=by
 intro c d a s σ H x y v u Q I B A h g;obtain⟨p,xs,i,z,rfl,rfl,C,E,q⟩:=h;cases B;obtain⟨t,rfl⟩:=A;obtain⟨its,r,pl,hz⟩:=I.list C;obtain⟨j,b,J,N,G,F⟩:=yV E;obtain⟨w,m,e⟩:=r.get J;have hl:=r.length;have L:=line63;have fin:EP X a σ Q w s:=⟨z,H,I,e,q⟩
 by_cases l:0<=i
 ·have f:i.toNat=j:=by rw[seqIndex_of l F]at b;exact Option.some.inj b
  exact item_listR pl.isList l (by omega) (by rw[f];simpa using m) fin g
 ·have f:(i+(its.toArray.size:Int)).toNat=j:=by rw[seqIndex_neg (by omega) G]at b;rw[ag,←hl];exact Option.some.inj b
  exact subscriptTail_builtinR (x:=w) pl.isList.typeIs slot_list_getitem.lookup
   (wpAny_getItem_list_neg (Q:=λr o=>r=w/\EP X a σ Q r o) pl.isList (by omega) (by rw[ag] <;> omega) (by omega) (by rw[f];simpa using m) ⟨rfl,fin⟩) g
theorem QJ:LP X (rIxT X.K):=by
 intro b c a s σ H x y v u Q I g f h l;obtain⟨p,xs,i,z,rfl,rfl,m,o,q⟩:=h;cases g;obtain⟨t,rfl⟩:=f;obtain⟨its,r,pl,hz⟩:=I.tuple m;obtain⟨j,B,A,J,G,F⟩:=yV o;obtain⟨w,C,d⟩:=r.get A;have hl:=r.length;have E:=line63;have fin:EP X a σ Q w s:=⟨z,H,I,d,q⟩
 exact subscriptTail_builtinR (x:=w) pl.typeIs slot_tuple_getitem.lookup
  (getItem_tuple (j:=j) (Q:=λr e=>r=w/\EP X a σ Q r e) pl (by omega) (by omega) (by rw[ag,←hl];exact B) (by simpa using C) ⟨rfl,fin⟩) l
theorem QK:LP X rIxS:=by
 intro a b d s σ H x y v u Q I g f h l;obtain⟨z,i,c,rfl,rfl,hz,m,q⟩:=h;obtain⟨t,rfl⟩:=g;obtain⟨t',rfl⟩:=f;obtain⟨j,e,r,C,p,o⟩:=yV m;have hl:z.cps.toList.length=z.length:=by simp[Str.length]
 rw[hl]at e p o;have B:=line63
 exact tail_any (typeIs_str s z t) slot_str_getitem.lookup (getItem_str (c:=c) (by
  have A:decide (i < -(2 ^ 63:Int))=false:=bj (by omega);have w:decide (i ≥ 2 ^ 63)=false:=bj (by omega)
  rw[A,w,Bool.or_false]) (by rw[e];simpa using r) ⟨.str ⟨#[c]⟩,H,I.tok _,⟨_,rfl⟩,q⟩) l
def rIx (K:PySem.W.Frag):R2:=λx y H Q=>rIxL K x y H Q∨rIxT K x y H Q∨rIxS x y H Q
theorem QL:LP X (rIx X.K):=NN.or (QJ.or QK)
theorem CF (its:cA)(n j:Nat)(u:Value):Obj.mapSeq (·.setIfInBounds j u) {cls:=.type "list",data:=.seq its.toArray n}={cls:=.type "list",data:=.seq (its.set j u).toArray n}:=by simp[Obj.mapSeq]
theorem aO.lst {a:c9}{σ:St}{H:Hp}{s:Shared}{p:Addr}{xs:List V}(I:aO X a σ H s)(h:H p=some (.lst xs)) :
  ∃(its:cA) (n:Nat),aW xs its/\s.heap.get? p=some {cls:=.type "list",data:=.seq its.toArray n}/\xs.length<=sizeLine:=by
 obtain⟨z,its,n,r,e⟩:=I.hok p _ h;exact⟨its,n,r,e,z⟩
theorem aO.lstUpd {a:c9}{σ:St}{H:Hp}{s:Shared}{p:Addr}{xs c:List V}{its its':cA}{n d:Nat}{f:Obj->Obj}(I:aO X a σ H s)(h:H p=some (.lst xs))
  (ho:s.heap.get? p=some {cls:=.type "list",data:=.seq its.toArray n}) (g:f {cls:=.type "list",data:=.seq its.toArray n}={cls:=.type "list",data:=.seq its'.toArray d}) (r:aW c its') (hz:c.length<=sizeLine) (t:Nat) :
  aO X a σ (upd H p (.lst c)) {s with heap:=s.heap.update p f,toks:=t}:=by
 have e:(s.heap.update p f).get? p=some {cls:=.type "list",data:=.seq its'.toArray d}:=by rw[Heap.get?_update_self f ho (by rw[g] <;> rfl),g]
 refine I.write (x:=p) (e:=p) (by rw[h];trivial) (.inl rfl) (λb u i q=>(Heap.get?_update_other _ _ (Ne.symm i)).trans q) ⟨_,e⟩ ?_;exact⟨hz,its',d,r,e⟩
def rSetL:V->V->V->Hp->(Hp->Prop)->Prop:=λo i v H Q=>∃p xs k j,o = .ref p/\i = .int k/\H p=some (.lst xs)/\ixN xs.length k=some j/\Q (upd H p (.lst (xs.set j v)))
theorem oZ:R0 X rSetL:=by
 intro a s σ H o i v z A u Q I m w l h;obtain⟨p,xs,k,j,rfl,rfl,d,x,q⟩:=h;cases m;obtain⟨t,rfl⟩:=w;obtain⟨its,n,r,ho,hz⟩:=I.lst d;obtain⟨b,C,f,e⟩:=EN x;have hl:=r.length;have B:=line63;have I':aO X a σ (upd H p (.lst (xs.set j v))) {s with heap:=s.heap.update p (Obj.mapSeq (·.setIfInBounds j u))} :=
  I.lstUpd d ho (CF its n j u) (r.set l j) (by rw[List.length_set];exact hz) s.toks
 by_cases g:0<=k
 ·have c:k.toNat=j:=by rw[seqIndex_of g e]at b;exact Option.some.inj b
  exact PySem.W.ki_setAt ho g (by omega) (by rw[ag,←hl];exact e) (by rw[c];exact⟨_,I',q⟩)
 ·have c:(k+(its.toArray.size:Int)).toNat=j:=by rw[seqIndex_neg (by omega) f]at b;rw[ag,←hl];exact Option.some.inj b
  exact PySem.W.ki_setBack ho (by omega) (by rw[ag,←hl];exact f) (by omega) (by rw[c];exact⟨_,I',q⟩)
theorem oY (a b:Option Int)(n:Nat):(sliceBounds a b none n).1=((HT.sIx n 0 a:Nat):Int)/\(sliceBounds a b none n).2.1=((HT.sIx n n b:Nat):Int)/\(sliceBounds a b none n).2.2=1:=by
 refine⟨?_,?_,rfl⟩
 ·cases a with
  | none=>simp[sliceBounds,HT.sIx]
  | some i =>
   simp only[sliceBounds,HT.sIx,Option.getD_none,show(1:Int) > 0 by decide,if_true];by_cases h:i<0
   ·simp only[h,if_true] <;> omega
   ·simp only[h,if_false] <;> omega
 ·cases b with
  | none=>simp[sliceBounds,HT.sIx]
  | some i =>
   simp only[sliceBounds,HT.sIx,Option.getD_none,show(1:Int) > 0 by decide,if_true];by_cases h:i<0
   ·simp only[h,if_true] <;> omega
   ·simp only[h,if_false] <;> omega
theorem uZ (its:cA)(a b:Option Int):slicePick its.toArray a b none=((its.drop (HT.sIx its.length 0 a)).take (HT.sIx its.length its.length b - HT.sIx its.length 0 a)).toArray:=by obtain⟨e,d,c⟩:=oY a b its.toArray.size;unfold slicePick;rw[e,d,c];simp only[sliceRange_one,pick_run,ag] <;> rfl
def rSlL (K:PySem.W.Frag):V->Option Int->Option Int->Hp->VK->Prop:=λx b c H Q=>∃a xs,x = .ref a/\dN K H a xs/\∀p,H p=none->Q (.ref p) (upd H p (.lst (cutV xs b c)))
theorem DP:RY X (rSlL X.K):=by intro f s σ H x v t p d e u Q I i m pl j h;obtain⟨a,xs,rfl,l,q⟩:=h;cases i;obtain⟨its,r,g,hz⟩:=I.list l;have c:=r.length;refine⟨"list",_,slot_list_getitem.lookup,g.isList.typeIs,?_⟩;refine wpAny_getItem_list_slice g.isList m pl j .none (by simp) ?_ (by rw[ag] <;> omega);rw[uZ,←c];refine⟨.ref s.heap.objs.size,_,I.laid (t':=s.toks) (o:=.lst (cutV xs d e)) (λb ob q=>af _ q) (ac _) ?_,rfl,q _ (I.hok.fresh (ac _))⟩;exact⟨ao (rL xs d e) hz,_,0,(r.drop (HT.sIx xs.length 0 d)).take (HT.sIx xs.length xs.length e - HT.sIx xs.length 0 d),ar _ rfl⟩
theorem xX:iQ X (compareOp .NotIn) (λx y H Q=>∃i j,x = .str i/\y = .str j/\Q (.bl (!(!(Builtin.Str.occurrences j i 0 j.length 1).isEmpty))) H):=by intro a s σ H x y v u Q I c b h;obtain⟨i,j,rfl,rfl,q⟩:=h;obtain⟨t,rfl⟩:=c;obtain⟨t',rfl⟩:=b;exact notIn_str ⟨.bl _,H,I,rfl,q⟩
theorem yU:dR X (.builtin "len") (λxs H Q=>∃p b,xs=[.ref p]/\(dN X.K H p b∨gF X.K H p b)/\Q (.int b.length) H):=by
 intro e s σ H xs us Q I r h;obtain⟨p,b,rfl,c,q⟩:=h;obtain⟨u,rfl,f⟩:=vals1 r;cases f;have g:=line63;rcases c with c|c
 ·obtain⟨its,d,pl,hz⟩:=I.list c;have a:=d.length;exact Calls.call_len_list pl.isList (by simp only[ag] <;> omega) ⟨.int b.length,H,I.tok _,⟨s.toks+1,by rw[ag,a]⟩,q⟩
 ·obtain⟨its,d,pl,hz⟩:=I.tuple c;have a:=d.length;exact len_tuple pl (by simp only[ag] <;> omega) ⟨.int b.length,H,I.tok _,⟨s.toks+1,by rw[ag,a]⟩,q⟩
theorem yT:dR X (.builtin "len") (λxs H Q=>∃z,xs=[.str z]/\z.length<=sizeLine/\Q (.int z.length) H):=by intro a s σ H xs us Q I r h;obtain⟨z,rfl,hz,q⟩:=h;obtain⟨u,rfl,t,rfl⟩:=vals1 r;have b:=line63;exact len_str (by omega) ⟨.int z.length,H,I.tok _,⟨_,rfl⟩,q⟩
theorem yS:dR X (.type "list") (λxs H Q=>∃p a,xs=[.ref p]/\(dN X.K H p a∨gF X.K H p a)/\∀l,H l=none->Q (.ref l) (upd H l (.lst a))):=by
 intro f s σ H xs us Q I r h;obtain⟨p,a,rfl,g,q⟩:=h;obtain⟨u,rfl,t⟩:=vals1 r;cases t;have fin:∀(its:cA),aW a its->a.length<=sizeLine->∀(h':Heap) (d:Nat),(∀b m,s.heap.get? b=some m->h'.get? b=some m) ->
   h'.get? s.heap.objs.size=some {cls:=.type "list",dict:=none,data:=.seq its.toArray d,slots:=#[]}->EP X f σ Q (.ref s.heap.objs.size) {s with heap:=h'}:=λits c hz h' d kp e =>
  ⟨.ref s.heap.objs.size,_,I.laid (t':=s.toks) kp (ac _) (show cK X.prog X.w _ h' _ (.lst a)from⟨hz,its,d,c,e⟩),rfl,q _ (I.hok.fresh (ac _))⟩
 rcases g with g|g
 ·obtain⟨its,c,pl,hz⟩:=I.list g;have i:=c.length;obtain⟨o,ho,j,n,hd⟩:=pl.isList;exact call_list_seq p (.inl rfl) ho j hd (λh' d kp e=>fin its c hz h' d kp e) (by simp only[ag] <;> omega)
 ·obtain⟨its,c,pl,hz⟩:=I.tuple g;have i:=c.length;obtain⟨o,ho,j,n,hd⟩:=pl;exact call_list_seq p (.inr rfl) ho j hd (λh' d kp e=>fin its c hz h' d kp e) (by simp only[ag] <;> omega)
theorem vH:dR X (.type "tuple") (λxs H Q=>∃p c,xs=[.ref p]/\((dN X.K H p c/\∀l,H l=none->Q (.ref l) (upd H l (.tup c)))∨(gF X.K H p c/\Q (.ref p) H))):=by
 intro a s σ H xs us Q I r h;obtain⟨p,c,rfl,h⟩:=h;obtain⟨u,rfl,j⟩:=vals1 r;cases j;rcases h with⟨f,q⟩|⟨f,q⟩
 ·obtain⟨its,d,pl,hz⟩:=I.list f;have g:=d.length;refine call_tuple_list pl.isList (λh' kp=>?_) (by simp only[ag] <;> omega);have i:aO X a σ H {s with heap:=h'}:=I.kept (t':=s.toks) kp;have m:aO X a σ (upd H h'.objs.size (.tup c)) {s with heap:=h'.push {cls:=.type "tuple",data:=.seq its.toArray} } :=
   i.laid (t':=s.toks) (λb o e=>af _ e) (ac _) (show cK X.prog X.w _ _ _ (.tup c)from⟨hz,its,d,IsTup.new _ _⟩)
  exact⟨.ref h'.objs.size,_,m,rfl,q _ (i.hok.fresh (ac _))⟩
 ·obtain⟨its,d,pl,hz⟩:=I.tuple f;exact call_tuple_same pl ⟨.ref p,H,I,rfl,q⟩
def tyV (K:PySem.W.Frag)(T:String)(x:V)(H:Hp):Prop:=match x with
 | .str _=>T="str"
 | .int _=>T="int"
 | .ref p=>(T="list"/\∃xs,dN K H p xs)∨(T="tuple"/\∃o,K.lookup p=some o/\o.cls = .type "tuple"/\o.dict=none) ∨
   (T="dict"/\((∃a,H p=some (.dK a))∨∃a,H p=some (.dT a)))∨(T="set"/\∃S n,H p=some (.set S n))
 | _=>False
theorem HM {d:c9}{σ:St}{H:Hp}{s:Shared}{T:String}{x:V}{v:Value}(I:aO X d σ H s)(r:aY x v)(ty:tyV X.K T x H) :
  s.TypeIs v T/\∀a,v = .ref a->∃ob,s.heap.get? a=some ob/\ob.dict=none:=by
 cases x with
 | str z =>
  obtain⟨t,rfl⟩:=r;cases (show T="str" from ty);exact⟨typeIs_str s z t,λ_ e=>nomatch e⟩
 | int i =>
  obtain⟨t,rfl⟩:=r;cases (show T="int" from ty);exact⟨typeIs_int s i t,λ_ e=>nomatch e⟩
 | ref p =>
  cases r;rcases ty with⟨rfl,xs,h⟩|⟨rfl,o,b,j,hd⟩|⟨rfl,b⟩|⟨rfl,S,n,b⟩
  ·obtain⟨its,_,pl,_⟩:=I.list h;refine⟨pl.isList.typeIs,λa e=>?_⟩;cases e;obtain⟨o,n,e,c,hd,_⟩:=pl;exact⟨o,e,hd⟩
  ·refine⟨⟨o,I.kIn p o b,j⟩,λa e=>?_⟩;cases e;exact⟨o,I.kIn _ o b,hd⟩
  ·have z:∃o,s.heap.get? p=some o/\o.ExactDict:=by
    rcases b with⟨f,b⟩|⟨f,b⟩
    ·obtain⟨_,_,_,_,o,_,_,e,ex,_⟩:=I.hok p _ b;exact⟨o,e,ex⟩
    ·obtain⟨_,_,_,_,o,_,_,e,ex,_⟩:=I.hok p _ b;exact⟨o,e,ex⟩
   obtain⟨o,e,ex⟩:=z;refine⟨⟨o,e,ex.1⟩,λa g=>?_⟩;cases g;exact⟨o,e,ex.2.1⟩
  ·obtain⟨o,_,_,_,e,ex,_⟩:=I.hok p _ b;refine⟨⟨o,e,ex.1⟩,λa g=>?_⟩;cases g;exact⟨o,e,ex.2.1⟩
 | _=>exact False.elim ty
def tBM0 (K:PySem.W.Frag)(T:String)(r:V->List V->Hp->VK->Prop)(b:TE):TE:=λσ H Q=>b σ H λx a=>tyV K T x a/\r x [] a Q
def tBM (K:PySem.W.Frag)(T:String)(r:V->List V->Hp->VK->Prop)(b:TE)(t:TA):TE:=λσ H Q=>b σ H λx a=>tyV K T x a/\t σ a λxs c=>r x xs c Q
variable {o e:Expr}{es:lM}{to:TE}{t:TA}{name:Str}{apos cpos:Pos}{T id:String}{r:V->List V->Hp->VK->Prop}
theorem qL (pa:PlainAttrs T)(slot:Slot T name id)(d:typeOf (.builtin id)=pure (.type "method_descriptor"))(hm:SK X id r)(ho:PE X o to)
  (c:attributeBase o name X.env (eval o X.env)=eval o X.env:=by rfl) (b:(apos.endLine == cpos.line)=true:=by rfl):PE X (.Call (.Attribute o name apos) [] [] cpos) (tBM0 X.K T r to):=by
 intro a s σ H Q I h;refine wpAny_Call_method0_late c b (thn (ho a s σ H _ I h) λv f ⟨x,l,e,r1,ty,g⟩=>?_);obtain⟨j,i⟩:=HM e r1 ty;exact⟨T,id,pa,slot,d,j,i,Calls.callWith_builtin rfl (PySem.evalArgs_none (hm a f σ l x [] v [] Q e r1 .nil g))⟩
theorem fI (pa:PlainAttrs T)(slot:Slot T name id)(g:typeOf (.builtin id)=pure (.type "method_descriptor"))(hm:SK X id r)(ho:PE X o to)(w:PA X (e::es) t)
  (d:attributeBase o name X.env (eval o X.env)=eval o X.env:=by rfl)
  (f:((backTo cpos (starEach (e::es) X.env)).all (λx=>!x.1) && (backToKw cpos (keywordEach [] X.env)).all (λx=>x.1.isSome)
   && decide ((e::es).length+([]:List Keyword).length+(if ([]:List Keyword).isEmpty then 0 else 1)<30))=true:=by rfl)
  (c:(apos.endLine == cpos.line)=true:=by rfl) (u:starEach (e::es) X.env=(false,eval e X.env)::starEach es X.env:=by rfl) (b:(backTo cpos (starEach es X.env)).any (·.1)=false:=by rfl) :
  PE X (.Call (.Attribute o name apos) (e::es) [] cpos) (tBM X.K T r to t):=by
 intro a s σ H Q I h;refine wpAny_Call_method_late d f c rfl (thn (ho a s σ H _ I h) λv l ⟨x,E,j,r1,ty,q⟩=>?_);obtain⟨A,z⟩:=HM j r1 ty;refine⟨T,id,pa,slot,g,A,z,?_⟩;have i:=w cpos a l σ E _ j q;rw[u]at i⊢;refine Calls.callWith_builtin (by show(false || (backTo cpos (starEach es X.env)).any (·.1))=false;rw[b] <;> rfl) (Calls.evalArgs_plain ?_);exact thn i λus s2 ⟨vs,C,B,m,p⟩=>hm a s2 σ C x vs v us Q B r1 m p
end
def RF (X:Cx)(id:String)(r:V->List V->Hp->VK->Prop):Prop :=
 ∀(a:c9) (s:Shared) (σ:St) (H:Hp) (x:V) (xs:List V) (v:Value) (us:cA) (Q:VK),aO X a σ H s->aY x v->aW xs us->r x xs H Q ->
  wpAny (model X.prog X.w) X.A (call (.builtin id) (v::us)) (EP X a σ Q) X.xe s
theorem aW.one {x:V}{us:cA}(h:aW [x] us):∃u,us=[u]/\aY x u:=by cases h with|cons r t=>cases t;exact⟨_,rfl,r⟩
theorem aW.two {x y:V}{us:cA}(h:aW [x,y] us):∃u v,us=[u,v]/\aY x u/\aY y v:=by cases h with|cons r t=>obtain⟨v,rfl,q⟩:=aW.one t;exact⟨_,_,rfl,r,q⟩
theorem aW.zero:∀{us:cA},aW [] us->us=[]
 | _,.nil=>rfl
theorem aW.dropLast {xs:List V}{us:cA}(h:aW xs us):aW xs.dropLast us.dropLast:=by
 induction h with
 | nil=>exact .nil
 | cons r t a =>
  cases t with
  | nil=>exact .nil
  | cons q t'=>exact .cons r a
theorem aW.eraseIdx:∀{xs:List V} {us:cA} (i:Nat),aW xs us->aW (xs.eraseIdx i) (us.eraseIdx i)
 | _,_,_,.nil=>.nil
 | _,_,0,.cons _ t=>t
 | _,_,i+1,.cons r t=>.cons r (aW.eraseIdx i t)
theorem aW.reverse {xs:List V}{us:cA}(h:aW xs us):aW xs.reverse us.reverse:=by
 induction h with
 | nil=>exact .nil
 | cons r t a=>rw[List.reverse_cons,List.reverse_cons];exact aW.append a (.cons r .nil)
theorem aW.rep {xs:List V}{us:cA}(h:aW xs us):∀k:Nat,aW (List.replicate k xs).flatten (List.replicate k us).flatten
 | 0=>.nil
 | k+1=>by rw[List.replicate_succ,List.replicate_succ,List.flatten_cons,List.flatten_cons];exact aW.append h (aW.rep h k)
theorem CQ {α:Type}(l:List α):l.eraseIdx (l.length - 1)=l.dropLast:=by
 induction l with
 | nil=>rfl
 | cons a r c =>
  cases r with
  | nil=>rfl
  | cons b r =>
   have e:(a::b::r).length - 1=((b::r).length - 1)+1:=by have f:(a::b::r).length=r.length+2:=rfl;have d:(b::r).length=r.length+1:=rfl;omega
   rw[e,List.eraseIdx_cons_succ,c]
   all_goals rfl
theorem v9 {α:Type}:∀(l:List α) (i:Nat),(l.eraseIdx i).length<=l.length
 | [],_=>ac _
 | _::_,0=>Nat.le_succ _
 | _::r,i+1=>Nat.succ_le_succ (v9 r i)
theorem qV (its:cA):∀(k:Nat) (a:cA),
  List.foldl (λc b=>c++b) a.toArray (List.replicate k its.toArray)=(a++(List.replicate k its).flatten).toArray
 | 0,a=>by simp
 | k+1,a=>by
  have e:a.toArray++its.toArray=(a++its).toArray:=by simp
  have d:(a++its)++(List.replicate k its).flatten=a++(List.replicate (k+1) its).flatten:=by rw[List.replicate_succ,List.flatten_cons,cp]
  rw[←d,←qV its k (a++its),←e,List.replicate_succ,List.foldl_cons]
section
variable {X:Cx}{pins:c9}{σ:St}{H:Hp}{s:Shared}{l b:Addr}{xs ys zs:List V}
theorem aO.lset {its its':cA}{n:Nat}{f:iR->iR}{t':Nat}(I:aO X pins σ H s)(g:H l=some (.lst xs))
  (e:s.heap.get? l=some {cls:=.type "list",data:=.seq its.toArray n}) (c:f its.toArray=its'.toArray) (a:aW ys its') (hz:ys.length<=sizeLine) :
  aO X pins σ (upd H l (.lst ys)) {s with heap:=s.heap.update l (Obj.mapSeq f),toks:=t'}:=by
 have q:=PySem.IsL.update e f;rw[c]at q;refine I.write (x:=l) (e:=l) (by rw[g];exact trivial) (.inl rfl) (λh u d b=>(Heap.get?_update_other s.heap (Obj.mapSeq f) (Ne.symm d)).trans b) ⟨_,q⟩ ?_;exact⟨hz,its',_,a,q⟩
theorem aO.lnew {its:cA}{t':Nat}(I:aO X pins σ H s)(a:aW ys its)(hz:ys.length<=sizeLine) :
  aO X pins σ (upd H s.heap.objs.size (.lst ys)) {s with heap:=s.heap.push {cls:=.type "list",data:=.seq its.toArray},toks:=t'} :=
 I.laid (λ_ _ q=>af _ q) (ac _) ⟨hz,its,0,a,ar _ rfl⟩
theorem aO.fresh (I:aO X pins σ H s):H s.heap.objs.size=none:=I.hok.fresh (ac _)
theorem aO.lstM (I:aO X pins σ H s)(a:H l=some (.lst xs)):xs.length<=sizeLine/\∃(its:cA) (n:Nat),aW xs its/\xs.length=its.length/\s.heap.get? l=some {cls:=.type "list",data:=.seq its.toArray n}:=by obtain⟨z,its,n,r,e⟩:=I.hok l _ a;exact⟨z,its,n,r,r.length,e⟩
theorem tP {n:Nat}(h:n<=sizeLine):Builtin.List.listTooLong n=false:=by unfold Builtin.List.listTooLong;exact bj (by omega)
end
section
variable {X:Cx}
def rAppend:V->List V->Hp->VK->Prop:=λx vs H Q=>∃l xs y,x = .ref l/\vs=[y]/\H l=some (.lst xs)/\xs.length<sizeLine/\Q .non (upd H l (.lst (xs++[y])))
theorem eI:RF X "list.append" rAppend:=by intro a s σ H x vs v us Q I c d h;obtain⟨l,xs,y,rfl,rfl,b,hz,q⟩:=h;cases c;obtain⟨u,rfl,f⟩:=d.one;obtain⟨z,its,n,r,hl,e⟩:=I.lstM b;refine call_meets F.slot_list_append ⟨_,e,rfl⟩ F.entry_list_append (F.args_list_append_2 _ _) (PySem.list_append l its.toArray n u (by rw[ag];omega)) ⟨e,?_⟩;refine⟨.non,_,I.lset (its':=its++[u]) b e (by simp) (r.append (.cons f .nil)) ?_,rfl,q⟩;rw[aq,cm];omega
def rExtend:V->List V->Hp->VK->Prop:=λx vs H Q=>∃l b xs a,x = .ref l/\vs=[.ref b]/\H l=some (.lst xs)/\H b=some (.lst a)/\xs.length+a.length<=sizeLine/\Q .non (upd H l (.lst (xs++a)))
theorem GG:RF X "list.extend" rExtend:=by
 intro c s σ H x vs v us Q I f g h;obtain⟨l,b,xs,t,rfl,rfl,d,o,hz,q⟩:=h;cases f;obtain⟨u,rfl,i⟩:=g.one;cases i;obtain⟨z,its,n,r,hl,e⟩:=I.lstM d;obtain⟨w,its2,n2,j,m,p⟩:=I.lstM o;have hsz:its.toArray.size+its2.toArray.size<=sizeLine:=by rw[ag,ag];omega
 have a:¬(!its.toArray.isEmpty && Builtin.List.listTooLong (its.toArray.size+its2.toArray.size))=true:=by rw[tP hsz,Bool.and_false];exact Bool.false_ne_true
 refine call_meets F.slot_list_extend ⟨_,e,rfl⟩ F.entry_list_extend (F.args_list_extend_2 _ _)
  (AutoSeq1.list_extend_list_list_0 l its.toArray n b its2.toArray n2 a (by rw[ag];omega) (by omega)) ⟨e,p,?_⟩
 refine⟨.non,_,I.lset (its':=its++its2) d e (by simp) (r.append j) ?_,rfl,q⟩;rw[aq];omega
def rPop:V->List V->Hp->VK->Prop:=λx vs H Q=>∃l xs y,x = .ref l/\vs=[]/\H l=some (.lst xs)/\xs[xs.length - 1]?=some y/\Q y (upd H l (.lst xs.dropLast))
theorem oF:RF X "list.pop" rPop:=by
 intro b s σ H x vs v us Q I d f h;obtain⟨l,xs,y,rfl,rfl,c,i,q⟩:=h;cases d;have a:=f.zero;subst a;obtain⟨z,its,n,r,hl,e⟩:=I.lstM c;obtain⟨u,j,g⟩:=r.get i;have hy':its.toArray[its.toArray.size - 1]?=some u:=by show its.toArray[its.length - 1]?=some u;rw[←Array.getElem?_toList,←hl];exact j
 refine call_meets F.slot_list_pop ⟨_,e,rfl⟩ F.entry_list_pop (F.args_list_pop_1 _) (MeetsSeq.list_pop_last l its.toArray n u hy' (by rw[ag];omega)) ⟨e,?_⟩;refine⟨y,_,I.lset (its':=its.dropLast) c e ?_ r.dropLast ?_,g,q⟩
 ·show its.toArray.eraseIdxIfInBounds (its.toArray.size - 1)=its.dropLast.toArray;rw[ag,List.eraseIdxIfInBounds_toArray,CQ]
 ·rw[List.length_dropLast];omega
def rPopAt:V->List V->Hp->VK->Prop:=λx vs H Q=>∃l xs i k y,x = .ref l/\vs=[.int i]/\H l=some (.lst xs)/\-(2 ^ 63)<=i/\i<2 ^ 63/\seqIndex? i xs.length=some k/\xs[k]?=some y/\Q y (upd H l (.lst (xs.eraseIdx k)))
theorem JX:RF X "list.pop" rPopAt:=by
 intro b s σ H x vs v us Q I d f h;obtain⟨l,xs,i,k,y,rfl,rfl,c,A,p,o,j,q⟩:=h;cases d;obtain⟨u,rfl,g⟩:=f.one;obtain⟨t,rfl⟩:=g;obtain⟨z,its,n,r,hl,e⟩:=I.lstM c;obtain⟨w,m,a⟩:=r.get j;refine call_meets F.slot_list_pop ⟨_,e,rfl⟩ F.entry_list_pop (F.args_list_pop_2 _ _)
  (MeetsSeq.list_pop_at l its.toArray n i t k w (fitsIndex_both A p) (by rw[ag,←hl];exact o) (by rw[←Array.getElem?_toList];exact m) (by rw[ag];omega)) ⟨e,?_⟩
 refine⟨y,_,I.lset (its':=its.eraseIdx k) c e ?_ (r.eraseIdx k) ?_,a,q⟩
 ·show its.toArray.eraseIdxIfInBounds k=(its.eraseIdx k).toArray;rw[List.eraseIdxIfInBounds_toArray]
 ·have:=v9 xs k;omega
def rCat:R2:=λx y H Q=>∃l b xs a,x = .ref l/\y = .ref b/\H l=some (.lst xs)/\H b=some (.lst a)/\xs.length+a.length<=sizeLine/\∀p,H p=none->Q (.ref p) (upd H p (.lst (xs++a)))
theorem PQ:iQ X (binaryOp .Add) rCat:=by
 intro a s σ H x y v u Q I d c h;obtain⟨l,b,xs,p,rfl,rfl,i,j,hz,q⟩:=h;cases d;cases c;obtain⟨z,its,n,r,hl,e⟩:=I.lstM i;obtain⟨t,its2,n2,f,g,o⟩:=I.lstM j;refine PySem.P.add_list e o ?_ (by rw[ag,ag];omega);have m:its.toArray++its2.toArray=(its++its2).toArray:=by simp
 rw[m];exact⟨.ref _,_,I.lnew (t':=s.toks) (r.append f) (by rw[aq];omega),rfl,q _ I.fresh⟩
def rRep:R2:=λx y H Q=>∃l k xs,x = .ref l/\y = .int k/\H l=some (.lst xs)/\-(2 ^ 63)<=k/\k<2 ^ 63/\xs.length * k.toNat<=sizeLine /\
 ∀p,H p=none->Q (.ref p) (upd H p (.lst (List.replicate k.toNat xs).flatten))
theorem EF {α:Type}(xs:List α)(k:Nat):(List.replicate k xs).flatten.length=k * xs.length:=by
 induction k with
 | zero=>simp
 | succ k a=>rw[List.replicate_succ,List.flatten_cons,aq,a,Nat.succ_mul,Nat.add_comm]
theorem tN:iQ X (binaryOp .Mult) rRep:=by
 intro o s σ H x y v u Q I A w h;obtain⟨l,k,xs,rfl,rfl,B,E,C,hz,q⟩:=h;cases A;obtain⟨t,rfl⟩:=w;obtain⟨z,its,n,r,hl,e⟩:=I.lstM B;have d:its.toArray.size * k.toNat<=sizeLine:=by rw[ag,←hl];exact hz
 have g:¬its.toArray.size * k.toNat > (2 ^ 63 - 1) / 8:=by
  have:(sizeLine:Nat)<=(2 ^ 63 - 1) / 8:=by decide
  omega
 have f:¬(!Builtin.List.listFitsIndex k)=true:=by rw[fitsIndex_both E C];exact Bool.false_ne_true
 have b:¬Builtin.List.listTooLong (its.toArray.size * k.toNat)=true:=by rw[tP d];exact Bool.false_ne_true
 have c:List.foldl (λj i=>j++i) #[] (List.replicate (if its.toArray.isEmpty=true then 0 else k.toNat) its.toArray)=(List.replicate k.toNat its).flatten.toArray:=by
  have G:∀m:Nat,List.foldl (λj i=>j++i) #[] (List.replicate m its.toArray)=(List.replicate m its).flatten.toArray:=λm=>by have:=qV its m [];rw[List.nil_append]at this;exact this
  rw[G];cases its with
  | nil=>simp
  | cons a J=>rw[ab (by simp)]
 refine wpAny_binaryOp_repeat_ref (T:="list") (U:="int") (by decide) ⟨_,e,rfl⟩ (λp=>typeIs_int p k t) noFill_list_mul F.fills_int_mul F.slot_int_rmul repeat_list F.slot_int_index.lookup
  (call_meets F.slot_int_rmul (typeIs_int s k t) F.entry_int_rmul (F.args_int_rmul_2 _ _) (int___rmul___int_list k t l its.toArray n)
   ⟨e,rfl,⟨_,e,rfl⟩,call_meets F.slot_list_mul ⟨_,e,rfl⟩ F.entry_list_mul (F.args_list_mul_2 _ _) (AutoListH.list___mul___list_int_3 l its.toArray n k t f g b) ⟨e,?_⟩⟩)
 rw[c];exact⟨.ref _,_,I.lnew (t':=s.toks) (r.rep k.toNat) (by rw[EF,Nat.mul_comm];exact hz),rfl,q _ I.fresh⟩
end
end L2
namespace Att
open PySem PySem.W PySem.Calls PyProof.Rows
theorem rZ {P:Params}{h:Heap}:∀(ns:List Int) (vs:cA),WellAll P h vs (ns.map WData.int)->IntsAre vs ns:=by
 intro ns
 induction ns with
 | nil =>
  intro vs w;rw[List.map_nil]at w;cases w;exact .nil
 | cons n ns c =>
  intro vs w;rw[bd]at w;cases w with
  | cons a b =>
   cases a;exact .cons _ _ (c _ b)
theorem FO {l:OpenLaw}{n:Nat}(t:l.most=some n){P:Params}{h:Heap}{args:List WData}{b:cA}
  (c:l.row.toRowW.claim.pre args=true) (j:WellAll P h b args) :
  ∃a vs ns,b=[Value.ref a]/\args=[WData.list (ns.map WData.int)]/\h.get? a=some {cls:=.type "list",data:=.seq vs.toArray}/\IntsAre vs ns/\ns.length<=n:=by
 have m:WShape.hasAll [] args [.list .int]=true:=(pre_splitW c).1;have o:l.pre.holds [] {args:=args}=true:=(pre_splitW c).2;obtain⟨d,r,rfl,w,v⟩:=hasAllW_cons m;obtain rfl:=hasAllW_nil v;obtain⟨xs,rfl,u⟩:=hasW_list w;obtain⟨ns,rfl⟩:=items_int u;have e:ns.length<=n:=by
  unfold OpenLaw.pre at o;have i:(WTm.not (.lt (.lit (.int (n:Int))) (.len (.arg 0)))).holds [] {args:=[.list (ns.map .int)]}=true:=by have i:=(holds_andW o).1;rw[t]at i;exact i
  have g:=condW_of i (w_not (w_lt w_lit (w_len_list (w_arg rfl))));rw[ae]at g;refine Nat.le_of_not_lt λq=>?_;have q':(n:Int)<((ns.length:Nat):Int):=by omega
  first
   | (rw[bh q']at g;exact absurd g (by decide))
   | (simp at g;omega)
 cases j with
 | cons s p =>
  cases p;cases s with
  | list ho f=>exact⟨_,_,ns,rfl,rfl,ho,rZ ns _ f,e⟩
theorem FT (l:OpenLaw)(args:List WData):l.row.toRowW.claim.post args (.bool true) args=true :=
 postW_of (r:=l.row.toRowW) (X:=(true == true))
  (show WShape.has [] (.bool true) .bool=true by first|rfl|decide|simp[WShape.has,WShape.arms,WShape.armsAll])
  (show(WTm.eq .res (.lit (.bool true))).value [] {args:=args,res:=some (.bool true),after:=args}=some (.bool (true == true))from w_eq_bool (w_res rfl) w_lit) rfl
theorem A6 {l:OpenLaw}{n:Nat}{q:Program}{loose:aS}{XP:(jF)->Heap->Prop}{YP:World->Heap->Prop}{d:DefRec}
  (H:l.most=some n) (x:d.params.defaults=[])
  (call:∀(w:World) (s₀ b:Shared) (mg t:jF) (j:Addr) (o:Obj) (s p e:Value) (a:Addr) (vs:cA) (ns:List Int),
   Ground q loose [] XP w s₀ mg t b.heap->YP w b.heap ->
   b.heap.get? j=some o->o.data = .func (docDef d.name d.params d.body d.scope s p e)->b.heap.CodeRec p d.name->mg d.name=some (.ref j) ->
   b.heap.get? a=some {cls:=.type "list",data:=.seq vs.toArray}->IntsAre vs ns->ns.length<=n->b.gens = #[] ->
   codeAny (model l.prog w) callerA (.call (.ref j) ⟨[.ref a],[]⟩) (λr m=>r = .ok (.ret (.bool true))/\OldK b.heap m.heap/\m.os=b.os/\AllBare m.gens) b) :
  WalkO q loose XP YP l.row.toRowW d [] (λf vs=>PySem.call f vs):=by
 intro w s₀ b mg t G Y j o s p e O kV ho hd z C v J args A as g B E u I;obtain rfl:O = .none:=Dflts.none C x;obtain rfl:kV = .none:=Dflts.noKw C;obtain⟨a,vs,ns,rfl,rfl,h,c,i⟩:=FO H g u;refine enter_call (codeAny_mono (call w s₀ b mg t j o s p e a vs ns G Y ho (fd_plain hd) z v h c i J) λr m F=>?_);obtain⟨rfl,N,L,K⟩:=F;exact⟨.inl ⟨.bool true,.bool true,[],rfl,λ_=>rfl,.bool true,FT l _,λ_=>⟨List.Pairwise.nil,λ_ hm=>(nomatch hm)⟩⟩,N,L,K⟩
end Att
namespace L2
open PySem PySem.Spec PyProof.Rows
theorem vM:∀{vs:cA} {ns:List Int},IntsAre vs ns->aW (ns.map V.int) vs
 | _,_,.nil=>.nil
 | _,_,.cons n t h=>.cons ⟨t,rfl⟩ (vM h)
abbrev bN:BJ:=λ_ _ _ _ _ _=>False
abbrev E0:XK:=λ_ _ _=>False
theorem pass0 {X:Cx}:k6 bN X E0:=λ_ _ _ _ _ _ _ h=>h.elim
structure gG (K:PySem.W.Frag)(x qual:Str)(st:Stmt)(f:Addr)(fd:FuncData):Prop where
 ex:∃(oc:Value) (od:Option Addr) (kV doc pm:Value) (an:Option Addr) (cdv ct:Value) (osl:Array (Option Value)),
  fd=PySem.W.fnOf x qual (c6 st) (cP st) (aJ st) .none kV doc pm an cdv ct/\K.lookup f=some ⟨oc,od,.func fd,osl⟩/\PySem.W.codeIn K cdv qual=true
 kp:PySem.W.keepIn K (.ref f)=true
section
variable {P:Program}{w:World}{K:PySem.W.Frag}{mg:jF}{base:Heap}
theorem gG.ok {x a:Str}{st:Stmt}{f:Addr}{i:FuncData}{N ps:aS}{k:Nat}{d:Sp}(F:gG K x a st f i)(S:aT N ps (aJ st))(len:∀vs H Q E,d vs H Q E->vs.length=ps.length)
  (c:∀(b:Value) (A:Around) (outer:List Env) (s:Shared) (H:Hp) (vs:List V) (Q:VK) (E:XK),eP k (A.deeper (envOfC a (aJ st) s.heap.objs.size f b))->d vs H Q E ->
   ∃t,FC (cxOf bN P w K mg base N a (aJ st) f b A outer s H E).nox (cP st) t/\t {nx:=λ_ H'=>Q .non H',rt:=Q} (start N vs) H):bY P w K mg base bN (k+1) f i ps d:=by
 obtain⟨p,od,kV,m,o,r,b,ct,osl,rfl,j,g⟩:=F.ex;refine OG j g S len λA outer s H vs Q E l e=>?_;obtain⟨t,h,q⟩:=c b A outer s H vs Q E l e;exact⟨t,h.nox,q⟩
theorem gG.binds {x a:Str}{st:Stmt}{f:Addr}{g:FuncData}{ps:aS}(F:gG K x a st f g)
  (h:∀(kV b d:Value) (e:Option Addr) (c ct:Value) (us:cA),us.length=ps.length->bindArgs (PySem.W.fnOf x a (c6 st) (cP st) (aJ st) .none kV b d e c ct) ⟨us,[]⟩=pure (ps.zip us)):eN K g ps []:=by
 obtain⟨j,od,kV,b,d,e,c,ct,osl,rfl,l,i⟩:=F.ex;exact .all (h kV b d e c ct)
theorem oI {x a:Str}{st:Stmt}{f:Addr}{h:Value}{od g:Option Addr}{osl:Array (Option Value)}{kV d e b ct:Value}(l:K.lookup f=some ⟨h,od,.func (PySem.W.fnOf x a (c6 st) (cP st) (aJ st) .none kV d e g b ct),osl⟩)
  (c:PySem.W.codeIn K b a=true) (k:PySem.W.keepIn K (.ref f)=true):gG K x a st f (PySem.W.fnOf x a (c6 st) (cP st) (aJ st) .none kV d e g b ct):=⟨⟨h,od,kV,d,e,g,b,ct,osl,rfl,l,c⟩,k⟩
end
section
variable {X:Cx}
theorem pv (i:Nat){x:Str}{a:Pos}(d:X.N[i]?=some x:=by rfl)(c:R5 X.env.scope x:=by first|exact Or.inl rfl|exact Or.inr (Or.inl rfl)|exact Or.inr (Or.inr rfl))(hd:(x == ("__debug__" : Str))=false:=by decide)
  (b:(x == ("__classdict__" : Str))=false:=by decide):PE X (.Name x a) (tVar i):=IY d c hd b
end
theorem ite2 {c A B:Prop}[Decidable c](b:c->A)(a:¬c->B):if c then A else B:=by
 by_cases h:c
 ·rw[ai h];exact b h
 ·rw[ab h];exact a h
def aD (H H':Hp):Prop:=∀b o,H b=some o->H' b=some o
theorem aD.refl (H:Hp):aD H H:=λ_ _ h=>h
theorem aD.trans {H e d:Hp}(a:aD H e)(b:aD e d):aD H d:=λc o h=>b c o (a c o h)
theorem aD.free {H H':Hp}(e:aD H H'){l:Addr}(h:H' l=Option.none):H l=Option.none:=by
 cases q:H l with
 | none=>rfl
 | some o =>
  rw[e l o q]at h;cases h
section
variable {κ:Type}[DecidableEq κ]
noncomputable def valV (a:List (κ×V))(k:κ):Option V:=(a.find? λb=>decide (b.1=k)).map (·.2)
noncomputable def putK (a:List (κ×V))(k:κ)(v:V):List (κ×V) :=
 if (a.any λb=>decide (b.1=k))=true then a.map (λb=>if b.1=k then(b.1,v)else b)else a++[(k,v)]
theorem oS {p:κ×V}{r:List (κ×V)}{k:κ}(e:p.1=k):valV (p::r) k=some p.2:=by simp[valV,List.find?_cons,e]
theorem oT {p:κ×V}{r:List (κ×V)}{k:κ}(e:¬p.1=k):valV (p::r) k=valV r k:=by simp[valV,List.find?_cons,e]
theorem AF (a:List (κ×V))(k:κ)(v:V):(putK a k v).length<=a.length+1:=by
 unfold putK;split
 ·rw[ae];omega
 ·rw[aq,ap,List.length_nil];omega
theorem kZ.isSome_eq {o:Option V}{u:Option Value}(r:kZ o u):o.isSome=u.isSome:=by
 cases o with
 | none=>cases u with
  | none=>rfl
  | some _=>exact(show False from r).elim
 | some _=>cases u with
  | none=>exact(show False from r).elim
  | some _=>rfl
theorem kZ.getD {o:Option V}{u:Option Value}{d:V}{d':Value}(r:kZ o u)(a:aY d d'):aY (o.getD d) (u.getD d'):=by
 cases o with
 | none=>cases u with
  | none=>exact a
  | some _=>exact(show False from r).elim
 | some _=>cases u with
  | none=>exact(show False from r).elim
  | some _=>exact r
theorem KV.val {a:List (κ×V)}{vs:List (κ×Value)}(r:KV a vs)(k:κ):kZ (valV a k) (valueAt vs k):=by
 unfold KV at r
 induction r with
 | nil=>exact True.intro
 | @cons p q ps c h t f =>
  obtain⟨d,g⟩:=h;by_cases e:p.1=k
  ·have e':q.1=k:=d.symm.trans e;have b:valueAt (q::c) k=some q.2:=by simp[valueAt,List.find?_cons,e']
   rw[oS e,b];exact g
  ·have e':¬q.1=k:=λz=>e (d.trans z);have b:valueAt (q::c) k=valueAt c k:=by simp[valueAt,List.find?_cons,e']
   rw[oT e,b];exact f
theorem KV.any {a:List (κ×V)}{vs:List (κ×Value)}(r:KV a vs)(k:κ):(a.any λb=>decide (b.1=k))=vs.any λb=>decide (b.1=k):=by
 unfold KV at r
 induction r with
 | nil=>rfl
 | cons h t c=>rw[List.any_cons,List.any_cons,c,h.1]
theorem KV.repl {b:List (κ×V)}{vs:List (κ×Value)}(r:KV b vs)(k:κ){y:V}{u:Value}(d:aY y u) :
  KV (b.map λa=>if a.1=k then(a.1,y)else a) (vs.map λa=>if a.1=k then(a.1,u)else a):=by
 unfold KV at r⊢
 induction r with
 | nil=>exact .nil
 | @cons p q ps i h t f =>
  rw[bd,bd];refine .cons ?_ f;obtain⟨c,g⟩:=h;by_cases e:p.1=k
  ·rw[ai e,ai (c.symm.trans e)];exact⟨c,d⟩
  ·rw[ab e,ab (λz=>e (c.trans z))];exact⟨c,g⟩
theorem KV.put {a:List (κ×V)}{vs:List (κ×Value)}(r:KV a vs)(k:κ){y:V}{u:Value}(b:aY y u):KV (putK a k y) (stored vs k u):=by
 unfold putK stored;rw[r.any k];by_cases e:(vs.any λc=>decide (c.1=k))=true
 ·rw[ai e,ai e];exact r.repl k b
 ·rw[ab e,ab e];exact Paired.snoc r ⟨rfl,b⟩
theorem KV.length {a:List (κ×V)}{vs:List (κ×Value)}(r:KV a vs):a.length=vs.length:=Paired.length r
end
theorem rH {P:Program}{w:World}{k:fR}{u:Value}(r:aY (kV k) u):(cN P w).is k u=true:=by
 cases k with
 | inl i=>obtain⟨t,e⟩:=(show ∃t,u=Value.int i t from r);subst e;exact AA P w i t
 | inr x=>obtain⟨t,e⟩:=(show ∃t,u=Value.str x t from r);subst e;exact zZ P w x t
theorem wC {P:Program}{w:World}:∀{ks:List fR} {us:cA},aW (ks.map kV) us->ItemsAre (cN P w) ks us
 | [],_,r=>by rw[List.map_nil]at r;cases r;exact .nil
 | k::ks,_,r=>by
  rw[bd]at r;cases r with
  | cons h t=>exact .cons (rH h) (wC t)
abbrev KT (H:Hp):List (List fR×V)->List (List fR×Addr×Value)->Prop:=Paired λp q=>p.1=q.1/\H q.2.1=some (.tup (p.1.map kV))/\aY p.2 q.2.2
theorem KT.val {H:Hp}{a:List (List fR×V)}{xs:List (List fR×Addr×Value)}(r:KT H a xs)(k:List fR):kZ (valV a k) ((atKey xs k).map (·.2)):=by
 induction r with
 | nil=>exact True.intro
 | @cons p q ps c h t f =>
  obtain⟨d,_,g⟩:=h;by_cases e:p.1=k
  ·have e':q.1=k:=d.symm.trans e;have b:atKey (q::c) k=some q.2:=by simp[atKey,List.find?_cons,e']
   rw[oS e,b];exact g
  ·have e':¬q.1=k:=λz=>e (d.trans z);have b:atKey (q::c) k=atKey c k:=by simp[atKey,List.find?_cons,e']
   rw[oT e,b];exact f
section
variable {P:Program}{w:World}{H:Hp}{h:Heap}{a:Addr}
theorem OB {u:HO}(ok:gX P w H h)(e:Rd H a u):cK P w H h a u:=e.ok ok
theorem uG {b:List (fR×V)}(ok:gX P w H h)(e:Rd H a (.dK b)):b.length<=sizeLine/\(a == sysModules)=false/\∃vs,KV b vs/\h.DictOf (cN P w) a vs :=
 show cK P w H h a (.dK b)from OB ok e
theorem tX {ks:List fR}(ok:gX P w H h)(e:H a=some (.tup (ks.map kV))):(tupleKind (cN P w)).is h ks a:=by
 obtain⟨_,its,r,o,d,c,n,b⟩:=(show cK P w H h a (.tup (ks.map kV))from ok a _ e)
 exact⟨o,its.toArray,n,d,c,b,by simpa using wC r⟩
theorem wK {b:List (List fR×V)}(ok:gX P w H h)(e:Rd H a (.dT b)):b.length<=sizeLine/\(a == sysModules)=false /\
  ∃xs,KT H b xs/\h.DictOfH (tupleKind (cN P w)) a xs:=by
 obtain⟨z,y,xs,r,o,es,v,u,s,j,i,g⟩:=(show cK P w H h a (.dT b)from OB ok e)
 refine⟨z,y,xs,r,o,es,v,u,s,j,i,λx c=>?_,g⟩;have all:∀{l:List (List fR×V)} {m:List (List fR×Addr×Value)},KT H l m->∀x∈m,(tupleKind (cN P w)).is h x.1 x.2.1:=by
  intro l m q
  induction q with
  | nil=>intro x c;exact nomatch c
  | @cons p q ps A d t f =>
   intro x c;rcases cu.mp c with e|c
   ·subst e;exact tX ok (by rw[←d.1];exact d.2.1)
   ·exact f x c
 exact all r x c
end
def lL (H:Hp)(a:Addr)(y:V)(r:Option V):Prop :=
 (∃c k,Rd H a (.dK c)/\y=kV k/\r=valV c k)∨∃c k b,Rd H a (.dT c)/\y = .ref b/\H b=some (.tup (k.map kV))/\r=valV c k
theorem lL.k {H:Hp}{a:Addr}{b:List (fR×V)}{k:fR}(e:H a=some (.dK b)):lL H a (kV k) (valV b k):=.inl ⟨b,k,.inl e,rfl,rfl⟩
section
variable {X:Cx}{pins:c9}{σ:St}{H:Hp}{s:Shared}{a:Addr}{y v:V}{u r:Value}{o:Option V}{A:Around}{E:cL}
theorem aO.big (I:aO X pins σ H s):sysModules<s.heap.objs.size:=by have h:mainGlobals<s.heap.objs.size:=(I.mod.glob.keeps I.bk).lt;exact Nat.lt_trans (by decide) h
theorem GZ {Q:cL}(B:A.units+1<cLine)(I:aO X pins σ H s)(g:lL H a y (some v))(x:aY y u)(h:∀f t,aO X pins σ H t->aY v f->Q f t) :
  wpAny (model X.prog X.w) A (getItem (.ref a) u) Q E s:=by
 rcases g with⟨i,k,e,q,l⟩|⟨i,k,b,e,q,F,l⟩
 ·subst q;obtain⟨z,hd,vs,d,r⟩:=uG I.hok e;obtain⟨f,j,c⟩:=kZ.some_of (v:=v) (o:=valueAt vs k) (by rw[l];exact d.val k);exact wpAny_getItem_of (rH x) r.mapOf j (h f _ (I.tok _) c)
 ·subst q;cases (show u=Value.ref b from x);obtain⟨z,hd,xs,d,r⟩:=wK I.hok e;obtain⟨f,j,c⟩:=kZ.some_of (v:=v) (o:=(atKey xs k).map (·.2)) (by rw[l];exact d.val k);obtain⟨p,C,m⟩:=Option.map_eq_some_iff.mp j;refine wpAny_getItem_heap (tupleKind_room_in1 B) (tX I.hok F) r C ?_;rw[m];exact h f _ (I.tok _) c
theorem NW {Q:cL}(p:A.units+1<cLine)(I:aO X pins σ H s)(g:lL H a y o)(m:aY y u)(h:∀j,aO X pins σ H j->Q (.bool (!o.isSome)) j) :
  wpAny (model X.prog X.w) A (compareOp .NotIn u (.ref a)) Q E s:=by
 rcases g with⟨d,k,e,f,l⟩|⟨d,k,b,e,f,r,l⟩
 ·subst f;obtain⟨z,hd,vs,c,i⟩:=uG I.hok e;refine wpAny_notIn_of (rH m) hd i.mapOf ?_;rw[←(c.val k).isSome_eq,←l];exact h _ (I.tok _)
 ·subst f;cases (show u=Value.ref b from m);obtain⟨z,hd,xs,c,i⟩:=wK I.hok e;refine wpAny_notIn_heap (tupleKind_room_in1 p) (tX I.hok r) hd i ?_;have q:=(c.val k).isSome_eq;rw[Option.isSome_map]at q;rw[←q,←l];exact h _ (I.tok _)
theorem QP {P:Program}{w:World}{H':Hp}{h':Heap}{b:List (fR×V)}{vs:List (fR×Value)}(z:b.length<=sizeLine)(hd:(a == sysModules)=false)(c:KV b vs)(d:h'.DictOf (cN P w) a vs) :
  cK P w H' h' a (.dK b):=⟨z,hd,vs,c,d⟩
end
section
variable {X:Cx}{pins:c9}{σ:St}{H:Hp}{s:Shared}{a:Addr}{kvs:List (fR×V)}{k:fR}{u:Value}{A:Around}{E:cL}
theorem RW {Q:cL}(I:aO X pins σ H s)(e:Rd H a (.dK kvs))(h:∀t c,aO X pins σ H c->Q (.int kvs.length t) c):wpAny (model X.prog X.w) A (call (.builtin "len") [.ref a]) Q E s:=by obtain⟨z,hd,vs,b,d⟩:=uG I.hok e;refine call_len_dict hd d (by rw[←b.length];rw[sizeLine_eq]at z;omega) ?_;rw[←b.length];exact h _ _ (I.tok _)
end
def N4 (i:Expr):Prop:=∀a b,subscripted i false a b=operate [a,b] (getItem a b)
theorem DH {prog:Program}{w:World}{A:Around}{E:cL}{s:Shared}{env:Env}{b a:Expr}{d:Pos}{T id:String}{Q:cL}
  (hl:typeLookup (.type T) "__getitem__" = pure (some (.builtin id))) (p:N4 a)
  (h:wpAny (model prog w) A (eval b env) (λo g=>wpAny (model prog w) A (eval a env) (λi c=>c.TypeIs o T/\wpAny (model prog w) A (getItem o i) Q E c) E g) E s) :
  wpAny (model prog w) A (eval (.Subscript b a d) env) Q E s:=by
 refine Subscript_ (wpAny_mono h (λo g m=>wpAny_mono m (λi c e=>?_) λ_ _ x=>x) λ_ _ x=>x);obtain⟨j,e⟩:=e;unfold subscriptTail;refine aa ?_;rw[getitemInPython_of_ne j.not_modules];refine aa (wpAny_specialOf j hl ?_);have fin:wpAny (model prog w) A (subscripted a false o i) (λr f=>wpAny (model prog w) A (letTemporaryGo b o r >>= λ_=>pure r) Q E f) E c:=by rw[p o i];exact wpAny_operating (wpAny_mono e (λr f l=>aa (wpAny_letTemporaryGo (ak l))) λ_ _ x=>x)
 first
  | exact ak (aa fin)
  | exact aa (ak (aa fin))
  | exact aa fin
theorem AU {X:Cx}{c:c9}{σ:St}{H:Hp}{s:Shared}{a:Addr}{y:V}{o:Option V}(I:aO X c σ H s)(g:lL H a y o):s.TypeIs (.ref a) "dict":=by
 rcases g with⟨d,k,e,_,_⟩|⟨d,k,b,e,_,_,_⟩
 ·obtain⟨_,_,vs,_,f⟩:=uG I.hok e;exact f.typeIs
 ·obtain⟨_,_,xs,_,f⟩:=wK I.hok e;exact f.typeIs
def tDGet (c ty:TE):TE:=λσ H Q=>c σ H λx d=>ty σ d λy b=>∃a v,x = .ref a/\lL b a y (some v)/\Q v b
section
variable {X:Cx}{o i e value:Expr}{pos pos' tpos:Pos}{td ty tv:TE}
theorem DY (p:X.A.units+1<cLine)(ho:PE X o td)(r:PE X i ty)(q:N4 i):PE X (.Subscript o i pos) (tDGet td ty):=by intro b s σ H Q I h;refine DH PySem.F.slot_dict_getitem.lookup q (thn (ho b s σ H _ I h) λu e ⟨x,B,w,j,m⟩=>thn (r b e σ B _ w m) λG s2 ⟨y,z,d,f,a,v,ex,g,l⟩=>?_);subst ex;obtain rfl:u=Value.ref a:=j;exact⟨AU d g,GZ p d g f λC E t c=>⟨v,z,t,c,l⟩⟩
end
theorem KY {P:Program}{w:World}{H:Hp}(h:Heap)(a:sysModules<h.objs.size):cK P w H (h.push {cls:=.type "dict",data:=.dict #[]}) h.objs.size (.dK []) :=
 ⟨au _,cz.mpr (Ne.symm (bo a)),[],.nil,Heap.DictOf.new h⟩
def HV:TE:=λ_ H Q=>∀p,H p=none->Q (.ref p) (upd H p (.dK []))
section
variable {X:Cx}{pos:Pos}
theorem I8:PE X (.Dict [] [] pos) HV:=λb s σ H Q I h =>
 wpAny_Dict_empty ⟨.ref s.heap.objs.size,_,I.laid (a:=s.heap.objs.size) (o:=.dK []) (t':=s.toks) (λ_ _ q=>af _ q) (ac _) (KY s.heap I.big),rfl,h _ (I.hok.fresh (ac _))⟩
end
noncomputable def jS (a more:List (fR×V)):List (fR×V):=more.foldl (λb c=>putK b c.1 c.2) a
theorem KV.merge:∀{more:List (fR×V)} {b:List (fR×Value)} {a:List (fR×V)} {vs:List (fR×Value)},KV more b->KV a vs->KV (jS a more) (merged vs b):=by
 intro more b a vs r;unfold KV at r
 induction r generalizing a vs with
 | nil=>intro q;exact q
 | @cons p q ps f h t d =>
  intro c;have e:KV (putK a p.1 p.2) (stored vs q.1 q.2):=by have:=c.put p.1 h.2;rw[←h.1];exact this
  exact d e
theorem nQ:∀(more a:List (fR×V)),(jS a more).length<=a.length+more.length
 | [],a=>by show a.length<=a.length+0;omega
 | p::r,a=>by have c:=nQ r (putK a p.1 p.2);have b:=AF a p.1 p.2;show(jS (putK a p.1 p.2) r).length<=_;rw[ap];omega
structure M1 (X:Cx)(o:Expr)(m:Str)(apos:Pos)(e:Expr)(cpos:Pos):Prop where
 base:attributeBase o m X.env (eval o X.env)=eval o X.env
 few:((backTo cpos (starEach [e] X.env)).all (λx=>!x.1) && (backToKw cpos (keywordEach [] X.env)).all (λx=>x.1.isSome)
  && decide (([e]:lM).length+([]:List Keyword).length+(if ([]:List Keyword).isEmpty then 0 else 1)<30))=true
 line:(apos.endLine == cpos.line)=true
 trees:backTo cpos (starEach [e] X.env)=[(false,eval e X.env)]
structure M2 (X:Cx)(o:Expr)(m:Str)(apos:Pos)(e f:Expr)(cpos:Pos):Prop where
 base:attributeBase o m X.env (eval o X.env)=eval o X.env
 few:((backTo cpos (starEach [e,f] X.env)).all (λx=>!x.1) && (backToKw cpos (keywordEach [] X.env)).all (λx=>x.1.isSome)
  && decide (([e,f]:lM).length+([]:List Keyword).length+(if ([]:List Keyword).isEmpty then 0 else 1)<30))=true
 line:(apos.endLine == cpos.line)=true
 trees:backTo cpos (starEach [e,f] X.env)=[(false,eval e X.env),(false,eval f X.env)]
def SO (H:Hp)(a:Addr):Prop:=(∃b,Rd H a (.dK b))∨∃b,Rd H a (.dT b)
theorem KB {X:Cx}{c:c9}{σ:St}{H:Hp}{s:Shared}{a:Addr}(I:aO X c σ H s)(d:SO H a) :
  s.TypeIs (.ref a) "dict"/\(∀b,Value.ref a = .ref b->∃ob,s.heap.get? b=some ob/\ob.dict=none)/\(a == sysModules)=false:=by
 rcases d with⟨g,e⟩|⟨g,e⟩
 ·obtain⟨_,hd,vs,_,f⟩:=uG I.hok e;refine⟨f.typeIs,λb q=>?_,hd⟩;cases q;obtain⟨ob,_,_,i,h,_⟩:=f;exact⟨ob,i,h.2.1⟩
 ·obtain⟨_,hd,xs,_,f⟩:=wK I.hok e;refine⟨f.typeIs,λb q=>?_,hd⟩;cases q;obtain⟨ob,_,_,i,h,_⟩:=f;exact⟨ob,i,h.2.1⟩
section
variable {X:Cx}{pins:c9}{σ:St}{H:Hp}{s:Shared}{a:Addr}{y d:V}{u r:Value}{o:Option V}{A:Around}{E:cL}
theorem QS {Q:cL}(q:A.units+1<cLine)(I:aO X pins σ H s)(g:lL H a y o)(p:aY y u)(h:∀j m,aO X pins σ H m->aY (o.getD .non) j->Q j m) :
  wpAny (model X.prog X.w) A (call (.builtin "dict.get") [.ref a,u]) Q E s:=by
 rcases g with⟨f,k,e,i,l⟩|⟨f,k,b,e,i,r,l⟩
 ·subst i;obtain⟨z,hd,vs,c,d⟩:=uG I.hok e;refine call_meetsIn PySem.F.slot_dict_get d.typeIs PySem.F.entry_dict_get (PySem.F.args_dict_get_2 _ _) (meets_dict_get (cN X.prog X.w) a (rH p) hd) ⟨_,d.mapOf,h _ _ (I.tok _) ?_⟩;rw[l];exact(c.val k).getD rfl
 ·subst i;cases (show u=Value.ref b from p);obtain⟨z,hd,xs,c,d⟩:=wK I.hok e;refine call_meetsIn PySem.F.slot_dict_get d.typeIs PySem.F.entry_dict_get (PySem.F.args_dict_get_2 _ _) (meetsH_dict_get (tupleKind (cN X.prog X.w)) a b hd) ⟨tupleKind_room_in1 q,k,xs,tX I.hok r,d,h _ _ (I.tok _) ?_⟩;rw[l];exact(c.val k).getD rfl
theorem QR {Q:cL}(v:A.units+1<cLine)(I:aO X pins σ H s)(g:lL H a y o)(q:aY y u)(t:aY d r)(h:∀m p,aO X pins σ H p->aY (o.getD d) m->Q m p) :
  wpAny (model X.prog X.w) A (call (.builtin "dict.get") [.ref a,u,r]) Q E s:=by
 rcases g with⟨i,k,e,j,l⟩|⟨i,k,b,e,j,x,l⟩
 ·subst j;obtain⟨z,hd,vs,c,f⟩:=uG I.hok e;refine call_meetsIn PySem.F.slot_dict_get f.typeIs PySem.F.entry_dict_get (PySem.F.args_dict_get_3 _ _ _) (meets_dict_get_default (cN X.prog X.w) a (rH q) hd r) ⟨_,f.mapOf,h _ _ (I.tok _) ?_⟩;rw[l];exact(c.val k).getD t
 ·subst j;cases (show u=Value.ref b from q);obtain⟨z,hd,xs,c,f⟩:=wK I.hok e;refine call_meetsIn PySem.F.slot_dict_get f.typeIs PySem.F.entry_dict_get (PySem.F.args_dict_get_3 _ _ _) (meetsH_dict_get_default (tupleKind (cN X.prog X.w)) a b hd r) ⟨tupleKind_room_in1 v,k,xs,tX I.hok x,f,h _ _ (I.tok _) ?_⟩;rw[l];exact(c.val k).getD t
end
def OX (d ty:TE):TE:=λσ H Q=>d σ H λx c=>∃a,x = .ref a/\SO c a/\ty σ c λy b=>∃o,lL b a y o/\Q (o.getD .non) b
def OW (e ty d:TE):TE:=λσ H Q=>e σ H λx c=>∃a,x = .ref a/\SO c a/\ty σ c λy f=>d σ f λz b=>∃o,lL b a y o/\Q (o.getD z) b
section
variable {X:Cx}{o e f:Expr}{apos cpos:Pos}{td ty tx:TE}
theorem zR (t:X.A.units+1<cLine)(ho:PE X o td)(v:PE X e ty)(m:M1 X o "get" apos e cpos):PE X (.Call (.Attribute o "get" apos) [e] [] cpos) (OX td ty):=by intro b s σ H Q I h;refine wpAny_Call_method m.base m.few m.line PySem.F.plainAttrs_dict PySem.F.slot_dict_get PySem.F.type_dict_get (thn (ho b s σ H _ I h) λu j ⟨x,C,f,p,a,ex,d,r⟩=>?_);subst ex;obtain rfl:u=Value.ref a:=p;obtain⟨t1,i,_⟩:=KB f d;refine⟨t1,i,?_⟩;rw[m.trees];refine Calls.callWith_builtin rfl (Calls.evalArgs_plain (Calls.spliced_cons (thn (v b j σ C _ f r) λK s2 ⟨y,B,z,l,J,g,q⟩=>Calls.spliced_nil ?_)));exact QS t z g l λE G w c=>⟨_,B,w,c,q⟩
theorem JA (B:X.A.units+1<cLine)(ho:PE X o td)(E:PE X e ty)(C:PE X f tx)(m:M2 X o "get" apos e f cpos):PE X (.Call (.Attribute o "get" apos) [e,f] [] cpos) (OW td ty tx):=by
 intro b s σ H Q I h;refine wpAny_Call_method m.base m.few m.line PySem.F.plainAttrs_dict PySem.F.slot_dict_get PySem.F.type_dict_get (thn (ho b s σ H _ I h) λu l ⟨x,O,i,r,a,ex,d,w⟩=>?_);subst ex;obtain rfl:u=Value.ref a:=r;obtain⟨t1,j,_⟩:=KB i d;refine⟨t1,j,?_⟩;rw[m.trees]
 refine Calls.callWith_builtin rfl (Calls.evalArgs_plain (Calls.spliced_cons (thn (E b l σ O _ i w) λU s2 ⟨y,N,K,q,v⟩ =>
  Calls.spliced_cons (thn (C b s2 σ N _ K v) λW S ⟨z,L,J,p,T,g,t⟩=>Calls.spliced_nil ?_))))
 exact QR B J g q p λP R G c=>⟨_,L,G,c,t⟩
end
section
variable {X:Cx}
theorem G4:dR X (.builtin "len") (λxs H Q=>∃a b,xs=[V.ref a]/\H a=some (.dK b)/\Q (.int b.length) H):=by intro c s σ H xs us Q I r h;obtain⟨a,b,rfl,e,q⟩:=h;obtain⟨u,rfl,d⟩:=vals1 r;cases d;exact RW I (.inl e) λt g f=>⟨.int b.length,H,f,⟨t,rfl⟩,q⟩
end
noncomputable def closL (cells:List (Str×Addr)):List (Str×NameKind)->List (Str×Addr)->List (Str×Addr)
 | [],a=>a
 | (n,k)::r,a=>closL cells r (if k = .free then(n,(cells.lookup n).getD 0)::a else a)
theorem vG {scope:Scope}{env:Env}(h:∀x∈scope.names,x.2 = .free->∃c,env.cells.lookup x.1=some c):closureFor scope env=pure (closL env.cells scope.names []):=by
 have go:∀(l:List (Str×NameKind)) (b:List (Str×Addr)),(∀x∈l,x.2 = .free->∃c,env.cells.lookup x.1=some c) ->
   (forIn l b λ(x:Str×NameKind) (r:List (Str×Addr))=>match x with|(name,kind)=>if (kind == NameKind.free)=true then do let a ←cellOf env name;pure (ForInStep.yield ((name,a)::r))else pure (ForInStep.yield r):Sem (List (Str×Addr)))=pure (closL env.cells l b):=by
  intro l
  induction l with
  | nil=>intro b _;rfl
  | cons x r e =>
   intro b f;obtain⟨n,k⟩:=x;have g:=λy i=>f y (ay _ i);rw[List.forIn_cons];by_cases d:k = .free
   ·subst d;obtain⟨c,j⟩:=f (n,.free) av rfl;have hc':List.lookup n env.cells=some c:=j;have p:cellOf env n=pure c:=by unfold cellOf;rw[hc']
    simp only[beq_self_eq_true,if_true,p,pure_bind];rw[e _ g];show _=pure (closL env.cells r (if NameKind.free = .free then(n,(env.cells.lookup n).getD 0)::b else b));rw[ai rfl,hc'];rfl
   ·have o:(k == NameKind.free)=false:=by simpa using d
    simp only[o,Bool.false_eq_true,if_false,pure_bind];rw[e _ g];show _=pure (closL env.cells r (if k = .free then(n,(env.cells.lookup n).getD 0)::b else b));rw[ab d]
 exact(congrArg (λ(m:Sem (List (Str×Addr)))=>m >>= λs=>pure s) (go scope.names [] h)).trans rfl
theorem wP {cells:List (Str×Addr)}{x:Str}{c:Addr}:∀(l:List (Str×NameKind)) (b:List (Str×Addr)),(closL cells l b).lookup x=some c->b.lookup x=some c∨(x,NameKind.free)∈l/\c=(cells.lookup x).getD 0
 | [],_,h=>.inl h
 | (n,k)::r,b,h=>by
  unfold closL at h;rcases wP r _ h with q|⟨q,e⟩
  ·by_cases a:k = .free
   ·rw[ai a]at q;rw[ca]at q;by_cases d:x=n
    ·subst d;rw[beq_self_eq_true]at q;subst a;exact .inr ⟨av,(Option.some.inj q).symm⟩
    ·have f:(x == n)=false:=by simpa using d
     rw[f]at q;exact .inl q
   ·rw[ab a]at q;exact .inl q
  ·exact .inr ⟨ay _ q,e⟩
theorem wQ {cells:List (Str×Addr)}{x:Str}:∀(l:List (Str×NameKind)) (a:List (Str×Addr)),((x,NameKind.free)∈l∨(a.lookup x).isSome)->((closL cells l a).lookup x).isSome
 | [],a,h=>by
  rcases h with h|h
  ·cases h
  ·exact h
 | (n,k)::r,a,h=>by
  unfold closL;refine wQ r _ ?_;by_cases c:k = .free
  ·rw[ai c,ca];by_cases b:x=n
   ·subst b;rw[beq_self_eq_true];exact .inr rfl
   ·have d:(x == n)=false:=by simpa using b
    rw[d];rcases h with h|h
    ·rcases cu.mp h with e|e
     ·cases e;exact absurd rfl b
     ·exact .inl e
    ·exact .inr h
  ·rw[ab c];rcases h with h|h
   ·rcases cu.mp h with e|e
    ·cases e;exact absurd rfl c
    ·exact .inl e
   ·exact .inr h
theorem mK {α β:Type}[BEq α][LawfulBEq α]{x:α}{v:β}:∀{l:List (α×β)},l.lookup x=some v->(x,v)∈l
 | [],h=>by simp at h
 | (n,k)::r,h=>by
  rw[ca]at h;by_cases e:x=n
  ·subst e;rw[beq_self_eq_true]at h;cases h;exact av
  ·have a:(x == n)=false:=by simpa using e
   rw[a]at h;exact ay _ (mK h)
theorem kN {env:Env}{x:Str}:∀{names:List (Str×NameKind)} {a:NameKind},(∀y∈names,y.2≠.cell) ->
  (names.map λ(n,k)=>if (k == NameKind.free && env.scope.kind == .function && env.kindOf n == some .cell)then(n,NameKind.cell)else(n,k)).lookup x=some a->(a = .cell∨a = .free)->names.lookup x=some .free
 | [],_,_,h,_=>by simp at h
 | (n,k)::r,a,g,h,b=>by
  have d:=@kN env x r a (λy i=>g y (ay _ i));have j:=g (n,k) av;have h:List.lookup x ((if (k == NameKind.free && env.scope.kind == .function && env.kindOf n == some .cell)=true then(n,NameKind.cell)else(n,k))::_)=some a:=h;by_cases f:x=n
  ·subst f;rw[ca,beq_self_eq_true];by_cases q:(k == NameKind.free && env.scope.kind == .function && env.kindOf x == some .cell)=true
   ·simp only[Bool.and_eq_true,beq_iff_eq]at q;show some k=some .free;rw[q.1.1]
   ·rw[ab q,ca,beq_self_eq_true]at h;have h:some k=some a:=h;cases h;rcases b with e|e
    ·exact absurd e j
    ·show some k=some .free;rw[e]
  ·have c:(x == n)=false:=by simpa using f
   rw[ca,c];by_cases q:(k == NameKind.free && env.scope.kind == .function && env.kindOf n == some .cell)=true
   ·rw[ai q,ca,c]at h;exact d h b
   ·rw[ab q,ca,c]at h;exact d h b
theorem lG {env:Env}{x:Str}:∀{names:List (Str×NameKind)},names.lookup x=some .free ->
  (names.map λ(n,k)=>if (k == NameKind.free && env.scope.kind == .function && env.kindOf n == some .cell)then(n,NameKind.cell)else(n,k)).lookup x=some .cell ∨
  (names.map λ(n,k)=>if (k == NameKind.free && env.scope.kind == .function && env.kindOf n == some .cell)then(n,NameKind.cell)else(n,k)).lookup x=some .free
 | [],h=>by simp at h
 | (n,k)::r,h=>by
  have b:=@lG env x r;show List.lookup x ((if (k == NameKind.free && env.scope.kind == .function && env.kindOf n == some .cell)=true then(n,NameKind.cell)else(n,k))::_)=_∨List.lookup x ((if (k == NameKind.free && env.scope.kind == .function && env.kindOf n == some .cell)=true then(n,NameKind.cell)else(n,k))::_)=_;by_cases c:x=n
  ·subst c;rw[ca,beq_self_eq_true]at h;have h:some k=some .free:=h;cases h;by_cases q:(NameKind.free == NameKind.free && env.scope.kind == .function && env.kindOf x == some .cell)=true
   ·rw[ai q,ca,beq_self_eq_true];exact .inl rfl
   ·rw[ab q,ca,beq_self_eq_true];exact .inr rfl
  ·have a:(x == n)=false:=by simpa using c
   rw[ca,a]at h;by_cases q:(k == NameKind.free && env.scope.kind == .function && env.kindOf n == some .cell)=true
   ·rw[ai q,ca,a];exact b h
   ·rw[ab q,ca,a];exact b h
noncomputable def srcOk (N:aS)(names:List (Str×NameKind)):List (Option Nat)->aS->Bool
 | [],[]=>true
 | none::r,_::n=>srcOk N names r n
 | some i::r,x::n=>N[i]? == some x && names.lookup x == some .free && srcOk N names r n
 | _,_=>false
theorem qH {N:aS}{names:List (Str×NameKind)}:∀{src:List (Option Nat)} {n:aS},srcOk N names src n=true->src.length=n.length
 | [],[],_=>rfl
 | none::r,_::n,h=>by simp[qH (src:=r) (n:=n) h]
 | some i::r,x::n,h=>by
  simp only[srcOk,Bool.and_eq_true]at h;simp[qH (src:=r) (n:=n) h.2]
 | [],_::_,h=>by simp[srcOk]at h
 | none::_,[],h=>by simp[srcOk]at h
 | some _::_,[],h=>by simp[srcOk]at h
theorem qI {N:aS}{names:List (Str×NameKind)}:∀{src:List (Option Nat)} {n:aS} {j i:Nat} {x:Str},srcOk N names src n=true->src[j]?=some (some i)->n[j]?=some x->N[i]?=some x/\names.lookup x=some .free
 | [],_,_,_,_,_,h,_=>by simp at h
 | _::_,[],_,_,_,_,_,h=>by simp at h
 | none::r,_::n,0,_,_,_,h,_=>by simp at h
 | none::r,_::n,j+1,_,_,h,b,a=>qI (src:=r) (n:=n) (j:=j) h (by simpa using b) (by simpa using a)
 | some k::r,y::n,0,i,x,h,b,a=>by
  simp at b a;subst b a;simp only[srcOk,Bool.and_eq_true,beq_iff_eq]at h;exact h.1
 | some _::r,_::n,j+1,_,_,h,b,a=>by simp only[srcOk,Bool.and_eq_true]at h;exact qI (src:=r) (n:=n) (j:=j) h.2 (by simpa using b) (by simpa using a)
structure bJ (X:Cx)(scope:Scope)(N':aS)(src:List (Option Nat)):Prop where
 kind:scope.kind = .function
 cell:∀y∈scope.names,y.2≠.cell
 names:∀y∈scope.names,y.2 = .local->scope.names.lookup y.1=some .local
 free:∀y∈scope.names,y.2 = .free->(X.env.scope.names.lookup y.1=some .cell∨X.env.scope.names.lookup y.1=some .free)
 nd:N'.Nodup
 map:srcOk X.N scope.names src N'=true
noncomputable def stC (src:List (Option Nat))(σ:St):St:=src.map λo=>o.bind λi=>(σ[i]?).join
noncomputable def blk (X:Cx)(scope:Scope)(N':aS)(C:Addr)(a:Shared)(H₂:Hp)(b:List Addr):Cx :=
 {X with N:=N',s₀:=a,H₀:=H₂,env:=compEnvC scope (closL X.env.cells scope.names []) C X.env,outer:=X.stack,stack:=X.stack,ex:=b,fn:=λ_=>false,pn:=[],xe:=λ_ _=>False}
section
variable {X:Cx}{pins:c9}{σ:St}{H:Hp}{s:Shared}{scope:Scope}{N':aS}{src:List (Option Nat)}
theorem bJ.cells (S:bJ X scope N' src)(I:aO X pins σ H s):∀x∈scope.names,x.2 = .free->∃c,X.env.cells.lookup x.1=some c:=λx a b=>I.ok.has x.1 (S.free x a b)
theorem bJ.cl (S:bJ X scope N' src)(I:aO X pins σ H s){x:Str}{c:Addr}(h:(closL X.env.cells scope.names []).lookup x=some c):X.env.cells.lookup x=some c:=by
 rcases wP _ _ h with q|⟨q,e⟩
 ·simp at q
 ·obtain⟨d,hd⟩:=S.cells I (x,.free) q rfl;have hd:X.env.cells.lookup x=some d:=hd;rw[hd]at e;rw[hd,e];rfl
theorem bJ.clHas (S:bJ X scope N' src)(I:aO X pins σ H s){x:Str}(h:scope.names.lookup x=some .free):∃c,(closL X.env.cells scope.names []).lookup x=some c/\X.env.cells.lookup x=some c:=by have q:=wQ (cells:=X.env.cells) (x:=x) scope.names [] (.inl (mK h));obtain⟨c,a⟩:=Option.isSome_iff_exists.mp q;exact⟨c,a,S.cl I a⟩
theorem bJ.ok (S:bJ X scope N' src)(I:aO X pins σ H s){g:List Addr}{C:Addr}(d:∀b∈g,fS X pins H b)(f:∀b∈g,b<s.heap.objs.size)(i:s.heap.objs.size<=C):(blk X scope N' C s H g).Ok where
 mod:=I.mod
 kind:=S.kind
 glob:=I.ok.glob
 blt:=I.ok.blt
 above:=i
 inj:=λx y c p m=>I.ok.inj x y c (S.cl I p) (S.cl I m)
 has:=λx j=>by
  have q:scope.names.lookup x=some .free:=by
   rcases j with h|h
   ·exact kN S.cell h (.inl rfl)
   ·exact kN S.cell h (.inr rfl)
  obtain⟨c,l,_⟩:=S.clHas I q;exact⟨c,l⟩
 cab:=λx c h _=>by cases h
 hd:=I.ok.hd
 frames:=I.ok.frames
 stk:=.inl rfl
 exf:=λb a=>⟨bo (bf (f b a) i),λx c e=>(d b a).2.2.2.2.1 x c (S.cl I e)⟩
 bs:=I.bs
 bsz:=ao I.ok.bsz I.sz
 noex:=λb o e a=>by
  rcases(d b a).2.2.2.1 with z|z
  ·exact I.ok.noex b o e z
  ·exact absurd (bf (az e) (ao I.ok.bsz z)) (cf _)
 exfs:=λb a z=>by
  rcases cu.mp (I.stkSub b z)with e|e
  ·exact(d b a).2.1 e
  ·exact(d b a).2.2.1 e
 funs:=I.stack
 frf:=I.stkFree
theorem bJ.start (S:bJ X scope N' src)(I:aO X pins σ H s){J:List Addr}{C:Addr}{h':Heap}{tk:Nat}{m:jF}{pl:c9}(Q:∀b∈J,fS X pins H b)(E:∀b∈J,b<s.heap.objs.size)(L:s.heap.objs.size<=C)
  (old:∀b o,s.heap.get? b=some o->h'.get? b=some o) (B:h'.Ns C m)
  (A:∀p∈pl,h'.get? p.1=some p.2/\s.heap.objs.size<=p.1/\p.1≠C/\∀v,p.2.data≠.cell v) :
  aO (blk X scope N' C s H J) pl (stC src σ) H {s with heap:=h',toks:=tk} where
 ok:=S.ok I Q E L
 os:=rfl
 bare:=I.bare
 base:=Un.kept old
 loc:=by
  obtain⟨W,P,F⟩:=I.loc;refine⟨m,B,λj x v T f Y=>?_⟩;have f:(src.map λo=>o.bind λi=>(σ[i]?).join)[j]?=some (some v):=f;rw[bI]at f;cases e:src[j]? with
  | none=>rw[e]at f;cases f
  | some o =>
   rw[e]at f;cases o with
   | none=>cases f
   | some i =>
    have f:some ((σ[i]?).join)=some (some v):=f;obtain⟨U,K⟩:=qI S.map e T;have N:σ[i]?=some (some v):=by
     cases q:σ[i]? with
     | none=>rw[q]at f;cases f
     | some w=>rw[q]at f;cases w with
      | none=>cases f
      | some w=>cases f;rfl
    have g:=S.free (x,.free) (mK K) rfl;obtain⟨u,r,l⟩:=F i x v U N (.inr g);refine⟨u,r,.inr ⟨lG K,?_⟩⟩;obtain⟨c,R,G⟩:=S.clHas I K;refine⟨c,R,?_⟩;rcases l with⟨k,_⟩|⟨_,Z,t,h⟩
    ·have k:X.env.scope.names.lookup x=some .local:=k;have g:X.env.scope.names.lookup x=some .cell∨X.env.scope.names.lookup x=some .free:=g;rw[k]at g;rcases g with z|z <;> cases z
    ·rw[G]at t;cases t;obtain⟨o,ho,hd⟩:=h;exact⟨o,old _ _ ho,hd⟩
 cell:=λx c e=>by obtain⟨v,o,ho,hd⟩:=I.cell x c (S.cl I e);exact⟨v,o,old _ _ ho,hd⟩
 free:=I.hok.fresh L
 freeC:=λx c e=>I.freeC x c (S.cl I e)
 pin:=λp O=>by
  obtain⟨a,b,c,d⟩:=A p (by simpa [blk] using O);refine⟨a,I.hok.fresh b,c,λz=>?_,d⟩;rcases cu.mp (I.stkSub _ z)with e|e
  ·exact absurd (bf I.lt (by rw[←e];exact b)) (cf _)
  ·exact I.nofs b e
 hok:=I.hok.kept old
 len:=by show(src.map _).length=N'.length;rw[ae];exact qH S.map
end
noncomputable def xD (a:lM)(env:Env):Sem Bool:=forIn a true λc (b:Bool)=>if b=true then isTrue c env (eval c env) >>= λb=>pure (.yield b)else pure (.yield b)
section
variable (M:Model)(A:Around)(env:Env)(E:cL)
def Drawn (it:Value)(a:Expr)(stop go:Shared->Prop)(s:Shared):Prop :=
 wpAny M A (pyNext it) (λr t=>r.elim (stop t) λv=>wpAny M A (letOwnedTupleGo a it v) (λ_ t=>wpAny M A (assign a env v) (λ_=>go) E t) E t) E s
def C9 (b:lM)(lay:Sem Unit)(a:Shared->Prop)(s:Shared):Prop :=
 wpAny M A (xD b env) (λok t=>if ok=true then wpAny M A lay (λ_=>a) E t else a t) E s
end
noncomputable def sX (p:Pos)(it:Value)(a:Expr)(env:Env)(k:Sem PySem.Fin):Sem PySem.Fin:=standAt p >>= λ_=>pyNext it >>= λr=>match r with
 | none=>pure (.done .next)
 | some v=>letOwnedTupleGo a it v >>= λ_=>assign a env v >>= λ_=>k
noncomputable def layOn (a:lM)(lay:Sem Unit)(env:Env)(c:Code):Sem PySem.Fin:=xD a env >>= λok=>if ok=true then lay >>= λ_=>again c else again c
noncomputable def yC (a:Expr)(b:Value)(env:Env):Sem Unit:=eval a env >>= λx=>call (.builtin "list.append") [b,x] >>= λ_=>pure ()
section
variable {M:Model}{A:Around}{env:Env}{E:cL}{it:Value}{tg:Expr}{s:Shared}
theorem Drawn.mono {stop go a b:Shared->Prop}(h:Drawn M A env E it tg stop go s)(d:∀t,stop t->a t)(c:∀t,go t->b t):Drawn M A env E it tg a b s :=
 thn h λr t q=>by
  cases r
  ·exact d t q
  ·exact thn q λ_ _ q=>thn q λ_ t q=>c t q
theorem Drawn.run {p:Pos}{k:Sem PySem.Fin}{Q:PySem.Fin->Shared->Prop}(h:Drawn M A env E it tg (Q (.done .next)) (λt=>wpAny M A k Q E t) s):wpAny M A (sX p it tg env k) Q E s:=by
 unfold sX;refine aa (wpAny_standAt (aa (thn h λr t q=>?_)));cases r
 ·exact ak q
 ·exact aa (thn q λ_ _ q=>aa q)
theorem C9.run {a:lM}{lay:Sem Unit}{c:Code}{Q:PySem.Fin->Shared->Prop}(h:C9 M A env E a lay (Q (.again c)) s):wpAny M A (layOn a lay env c) Q E s:=by
 unfold layOn;refine aa (thn h λok t q=>?_);cases ok
 ·exact ak q
 ·exact aa (thn q λ_ _ q=>ak q)
end
theorem y7 (b e iter:Expr)(a:lM)(scope:Scope)(d:Pos)(it c:Value)(env:Env) :
  compTurn (.ListComp b [⟨e,iter,a,0⟩] scope d) 0 it c env=sX iter.pos it e env (layOn a (yC b c env) env (.compLoop (.ListComp b [⟨e,iter,a,0⟩] scope d) 0 it c env)):=rfl
section
variable {prog:Program}{w:World}{A:Around}{R:Result->Shared->Prop}{s:Shared}{tg ce:Expr}{d:Nat}{it acc:Value}{env:Env}{p:Pos}{k:Sem PySem.Fin}
abbrev XN (prog:Program)(w:World)(A:Around)(env:Env)(R:Result->Shared->Prop):cL:=notedBy (model prog w) A env λx t=>R (.error x) t
inductive OA:Expr->Prop
 | lst (e gs sc p):OA (.ListComp e gs sc p)
 | set (e gs sc p):OA (.SetComp e gs sc p)
 | dct (k e gs sc p):OA (.DictComp k e gs sc p)
theorem KZ (a:OA ce){Q:PySem.Fin->Shared->Prop}{E:cL}(h:wpAny (model prog w) A (Sem.onRaise (compTurn ce d it acc env) λx=>noteFrame x env >>= λ_=>theTreesLotGoes x) Q E s):wpAny (model prog w) (A.under (.compLoop ce d it acc env)) ((model prog w).den (.compLoop ce d it acc env)) Q E s:=by cases a <;> exact h
theorem GY (a:OA ce){Q:PySem.Fin->Shared->Prop}{E:cL}(h:wpAny (model prog w) A (compStart ce d it acc env) Q (notedBy (model prog w) A env E) s):wpAny (model prog w) (A.under (.compStart ce d it acc env)) ((model prog w).den (.compStart ce d it acc env)) Q E s:=by cases a <;> exact wpAny_notedAt h
theorem CI (a:OA ce)(c:compTurn ce d it acc env=sX p it tg env k)(I:Nat->Shared->Prop)
  (turn:∀n s,I n s->Drawn (model prog w) A env (XN prog w A env R) it tg (R (.ok .next)) (λt=>wpAny (model prog w) A k (λf t=>f = .again (.compLoop ce d it acc env)/\∃m,m<n/\I m t) (XN prog w A env R) t) s)
  (n:Nat) (h:I n s):codeAny (model prog w) A (.compLoop ce d it acc env) R s:=by
 apply codeAny_loop rfl I _ n h;intro n s i;have q:=turn n s i;apply KZ a;rw[c];apply wpAny_noted;apply Drawn.run;exact q.mono (λ_ z=>z) λt z=>thn z λf t ⟨b,m⟩=>by subst b;exact⟨rfl,m⟩
end
def RD (X:Cx)(b:lM)(t:TT):Prop :=
 ∀(a:c9) (s:Shared) (σ:St) (H:Hp) (Q:Bool->Hp->Prop),aO X a σ H s->t σ H Q->wpAny (model X.prog X.w) X.A (xD b X.env) (TP X a σ Q) X.xe s
def tYes:TT:=λ_ H Q=>Q true H
theorem cV {X:Cx}:RD X [] tYes:=λ_ _ _ H _ I h=>wpAny_tests_nil ⟨H,I,h⟩
theorem sF {X:Cx}{c:Expr}{t:TT}(h:PT X c t):RD X [c] t:=λa s σ H Q I q=>wpAny_tests_one (h a s σ H Q I q)
abbrev RH (β:Type):=Nat->Nat->β->St->Hp->Prop
abbrev CW:=RH (List V)
structure BA (Y:Cx)(tg:Expr)(J:It)(fp:List Addr)(it:Addr)(tn:LI):Prop where
 obj:∀i h,tn i h->∀b∈fp,∃o,h.get? b=some o/\∀v,o.data≠.cell v
 keep:∀i h h',tn i h->(∀b∈fp,∀o,h.get? b=some o->h'.get? b=some o)->tn i h'
 item:∀(i:Nat) (pins:c9) (s:Shared) (σ:St) (H:Hp) (E:cL),aO Y pins σ H s->(∀b∈fp,fS Y pins H b)->tn i s.heap->J.go i H ->
  wpAny (model Y.prog Y.w) Y.A (pyNext (.ref it)) (λr s1=>∃u,r=some u /\
   wpAny (model Y.prog Y.w) Y.A (letOwnedTupleGo tg (.ref it) u) (λ_ s2=>∃x H',aO Y pins σ H' s2/\aY x u/\J.yld i H x H'/\tn (i+1) s2.heap/\∀b∈fp,H' b=none) E s1) E s
 done:∀(i:Nat) (pins:c9) (s:Shared) (σ:St) (H:Hp) (E:cL),aO Y pins σ H s->(∀b∈fp,fS Y pins H b)->tn i s.heap->J.stop i H ->
  wpAny (model Y.prog Y.w) Y.A (pyNext (.ref it)) (λr s1=>r=none/\aO Y pins σ H s1) E s
 self:∀(A:Around) (i:Nat) (s:Shared) (Q:cL) (E:cL),tn i s.heap->Q (.ref it) s->wpAny (model Y.prog Y.w) A (pyIter (.ref it)) Q E s
theorem q8.y {Y:Cx}{b:Expr}{J:It}{d:List Addr}{it:Addr}{a:LI}(T:q8 Y.prog Y.w Y.K b J d it a)(c:Y.calm=true):BA Y b J d it a :=
 ⟨T.obj,T.keep,T.item Y rfl rfl rfl c,T.done Y rfl rfl rfl c,T.self⟩
def Q1 {β:Type}(F:Heap->Addr->β->Prop):Prop:=∀h a x,F h a x->∃o,h.get? a=some o/\(∀v,o.data≠.cell v)/\∀h':Heap,h'.get? a=some o->F h' a x
def N6 (h:Heap)(a:Addr)(b:List V):Prop:=b.length<=sizeLine/\∃items,h.PlainList a items/\aW b items.toList
theorem v8:Q1 N6:=λ_ _ _ ⟨l,it,⟨n,e⟩,r⟩=>⟨_,e,(λ_ z=>nomatch z),λ_ a=>⟨l,it,⟨n,a⟩,r⟩⟩
section
variable {β:Type}{F:Heap->Addr->β->Prop}{Y:Cx}{pins:c9}{D it:Addr}{fp:List Addr}{tn:LI}{J:It}{W:RH β}{Fin:β->St->Hp->Prop}{R:Result->Shared->Prop}{tg:Expr}{g:TG}{Nx:Nat->Nat->β->St->Hp->Prop}
def HB (F:Heap->Addr->β->Prop)(Y:Cx)(a:c9)(D:Addr)(e:List Addr)(d:LI)(W:RH β)(n:Nat)(s:Shared):Prop :=
 ∃i σ H c,aO Y a σ H s/\d i s.heap/\(∀b∈e,H b=none)/\H D=none/\F s.heap D c/\W i n c σ H
structure SZ (F:Heap->Addr->β->Prop)(Y:Cx)(D:Addr)(fp:List Addr)(tn:LI)(i:Nat)(acc:β)(more:c9)(o:Obj):Prop where
 fill:∀h:Heap,h.get? D=some o->F h D acc
 own:∀p∈more,p.1∈fp
 back:∀{pl:c9} {σ:St} {H:Hp} {s:Shared},(∀p∈more,p∈pl)->aO Y pl σ H s->tn i s.heap/\∀b∈fp,H b=none
structure rO (Y:Cx)(pins:c9)(D:Addr)(fp:List Addr):Prop where
 off:D∉fp
 list:∀H:Hp,H D=none->fS Y pins H D
 iter:∀H:Hp,(∀b∈fp,H b=none)->∀b∈fp,fS Y pins H b
theorem O9 {a:Addr×Obj}{pn b more:c9}:a∈pn++(b++a::more):=by simp
theorem rO.pin {σ:St}{H:Hp}{s:Shared}{o:Obj}(P:rO Y pins D fp)(I:aO Y pins σ H s)(c:H D=none)(ho:s.heap.get? D=some o)(b:∀v,o.data≠.cell v):aO Y (pins++[(D,o)]) σ H s:=by
 refine I.pins_of λp a=>?_;simp only[cx,cs]at a;rcases a with a|rfl
 ·exact I.pin p (bz _ a)
 ·have f:=P.list H c;exact⟨ho,f.1,f.2.1,f.2.2.1,b⟩
theorem rO.more {o:Obj}(P:rO Y pins D fp)(H:Hp)(d:∀b∈fp,H b=none)(b:Addr)(c:b∈fp):fS Y (pins++[(D,o)]) H b:=by
 have f:=P.iter H d b c;refine⟨f.1,f.2.1,f.2.2.1,f.2.2.2.1,f.2.2.2.2.1,λp a z=>?_⟩;rw[←cp,cx,cs]at a;rcases a with a|rfl
 ·exact f.2.2.2.2.2 p a z
 ·exact P.off (show D∈fp from(show D=b from z) ▸ c)
theorem CD {more:c9}{o:Obj}{σ:St}{H:Hp}{s:Shared}(I:aO Y (pins++(D,o)::more) σ H s):H D=none/\s.heap.get? D=some o/\aO Y pins σ H s:=by have q:=I.pin (D,o) O9;exact⟨q.2.1,q.1,I.pins_of λp a=>I.pin p (by simp[a])⟩
theorem GX (hF:Q1 F)(Z:∀e s,¬Y.xe e s)(T:BA Y tg J fp it tn)(P:rO Y pins D fp)(hg:PG Y tg g)
  (turn:∀i m a σ H,W i m a σ H->(J.stop i H/\Fin a σ H)∨(J.go i H/\∀x H',J.yld i H x H'->g x σ H' (Nx i m a)))
  (hR:∀s σ H a,aO Y pins σ H s->H D=none->F s.heap D a->Fin a σ H->R (.ok .next) s)
  (n:Nat) (s:Shared) (B:HB F Y pins D fp tn W n s) {E:cL} :
  Drawn (model Y.prog Y.w) Y.A Y.env E (.ref it) tg (R (.ok .next))
   (λt=>∃i a o more σ H,SZ F Y D fp tn (i+1) a more o/\aO Y (pins++(D,o)::more) σ H t/\Nx i n a σ H) s:=by
 obtain⟨i,σ,H,a,I,st,fr,fD,N,w⟩:=B;obtain⟨o,ho,v,f⟩:=hF _ _ _ N;have Ip:=P.pin I fD ho v;rcases turn i n a σ H w with⟨stop,fin⟩|⟨go,step⟩
 ·refine thn (T.done i _ s σ H _ Ip (P.more H fr) st stop) λr t ⟨l,It⟩=>?_;subst l;obtain⟨X,U,S⟩:=CD It;exact hR t σ H a S X (f _ U) fin
 ·refine thn (T.item i _ s σ H _ Ip (P.more H fr) st go) λr t ⟨u,l,q⟩=>?_;subst l;refine thn q λ_ t1 ⟨x,G,I1,r1,L,c,C⟩=>?_;have I1p:=I1.pinned (P.more G C) (T.obj _ _ c);rw[cp]at I1p;refine wpAny_mono (hg _ t1 σ G x u _ I1p r1 (step x G L)) (λ_ t2 ⟨K,H2,I2,Q⟩=>?_) λe t z=>(Z e t z).elim;refine⟨i,a,o,tJ fp t1.heap,K,H2,⟨f,λp hp=>(vW hp).1,λ{pl σ3 H3 O} j I3=>?_⟩,I2,Q⟩;have h:∀b∈fp,∀o,t1.heap.get? b=some o->O.heap.get? b=some o/\H3 b=none:=λb d o e=>by have z:=I3.pin (b,o) (bz _ (j _ (oH d e)));exact⟨z.1,z.2.1⟩
  refine⟨T.keep _ _ _ c λb d o e=>(h b d o e).1,λb d=>?_⟩;obtain⟨o,e,_⟩:=T.obj _ _ c b d;exact(h b d o e).2
def Q6 (F:Heap->Addr->β->Prop)(Y:Cx)(D:Addr)(lay:Sem Unit)(q:St->Hp->(β->Hp->Prop)->Prop)(d:β):Prop :=
 ∀(E:cL) (pl:c9) (o:Obj) (σ:St) (H:Hp) (t:Shared) (N:β->Hp->Prop),aO Y pl σ H t->(D,o)∈pl->(∀h:Heap,h.get? D=some o->F h D d)->q σ H N ->
  wpAny (model Y.prog Y.w) Y.A lay (λ_ t3=>∃b c tk e a,t3={b with heap:=c,toks:=tk}/\aO Y pl σ e b/\Heap.SameBut D b.heap c/\F c D a/\N a e) E t
theorem J4 {g:lM}{lay:Sem Unit}{L:TT}{tl:St->Hp->(β->Hp->Prop)->Prop}{i n:Nat}{c:β}{more:c9}{o:Obj}{σ:St}{H:Hp}{t:Shared}{E:cL}(Z:∀e s,¬Y.xe e s)(P:rO Y pins D fp)(T:BA Y tg J fp it tn)(ht:RD Y g L)(hl:Q6 F Y D lay tl c)
  (B:SZ F Y D fp tn (i+1) c more o) (I:aO Y (pins++(D,o)::more) σ H t)
  (q:L σ H λb Q=>if b=true then tl σ Q λa H4=>∃d,d<n/\W (i+1) d a σ H4 else ∃d,d<n/\W (i+1) d c σ Q) :
  C9 (model Y.prog Y.w) Y.A Y.env E g lay (λt=>∃m,m<n/\HB F Y pins D fp tn W m t) t:=by
 refine wpAny_mono (ht _ t σ H _ I q) (λok t1 ⟨S,K,l⟩=>?_) λe t z=>(Z e t z).elim;cases ok
 ·rw[ab Bool.false_ne_true]at l⊢;obtain⟨m,hm,w⟩:=l;obtain⟨G,C⟩:=B.back (λp v=>by simp[v]) K;obtain⟨r,N,u⟩:=CD K;exact⟨m,hm,i+1,σ,S,c,u,G,C,r,B.fill _ N,w⟩
 ·rw[ai rfl]at l⊢;refine thn (hl _ _ o σ S t1 _ K (by simp) B.fill l) λ_ t3 ⟨U,h3,tk,R,j,e3,O,X,f3,m,hm,w⟩=>?_;subst e3;obtain⟨G,C⟩:=B.back (λp v=>by simp[v]) O;obtain⟨r,N,u⟩:=CD O;have f:=P.list R r;have h:∀b o,b≠D->U.heap.get? b=some o->h3.get? b=some o:=λb o x e=>X.extBut b o x e;exact⟨m,hm,i+1,σ,R,j,u.turned (t':=tk) h f.1 f.2.1 f.2.2.2.1 f.2.2.2.2.1 f.2.2.2.2.2,T.keep _ _ _ G λb x o e=>h b o (λz=>P.off (z ▸ x)) e,C,r,f3,w⟩
theorem C9.go {a:lM}{lay:Sem Unit}{c:Code}{n:Nat}{t:Shared}{E:cL}(h:C9 (model Y.prog Y.w) Y.A Y.env E a lay (λt=>∃m,m<n/\HB F Y pins D fp tn W m t) t) :
  wpAny (model Y.prog Y.w) Y.A (layOn a lay Y.env c) (λf t=>f = .again c/\∃m,m<n/\HB F Y pins D fp tn W m t) E t :=
 C9.run (thn h λok t q=>by
  cases ok
  ·exact⟨rfl,q⟩
  ·exact thn q λ_ _ q=>⟨rfl,q⟩)
end
def tlLst (b:TE)(a:List V):St->Hp->(List V->Hp->Prop)->Prop:=λσ H N=>b σ H λy c=>a.length<sizeLine/\N (a++[y]) c
theorem AH {Y:Cx}{D:Addr}{c:Expr}{d:TE}{b:List V}(r:∀e s,¬Y.xe e s)(v:PE Y c d):Q6 N6 Y D (yC c (.ref D) Y.env) (tlLst d b) b:=by
 intro E pl o σ H t N I hm u q;refine aa (wpAny_mono (v _ t σ H _ I q) (λy f ⟨i,A,h,l,hl,w⟩=>?_) λe t z=>(r e t z).elim);obtain⟨hz,items,p,g⟩:=u _ (h.pin (D,o) (bz _ hm)).1;have a:items.size<=sizeLine:=by rw[←br,←g.length];exact hz
 refine aa (wpAny_list_append_plain (hsz:=a) p λx m j=>ak ⟨f,x,f.toks,A,b++[i],rfl,h,j,⟨?_,items.push y,m,?_⟩,w⟩)
 ·rw[aq];exact hl
 ·rw[Array.toList_push];exact g.append (.cons l .nil)
def OO (J:It)(g:TG)(f:TT)(h:TE)(Fin:List V->Hp->Prop)(W:CW):Prop:=∀i m a σ H,W i m a σ H ->
 (J.stop i H/\Fin a H) ∨
 (J.go i H/\∀x H',J.yld i H x H'->g x σ H' λd l=>f d l λb e =>
  if b=true then h d e λy j=>a.length<sizeLine/\∃c,c<m/\W (i+1) c (a++[y]) d j else ∃c,c<m/\W (i+1) c a d e)
def tComp (src:List (Option Nat))(b:TI)(g:TG)(c:TT)(d:TE):TE:=λσ H Q=>b σ H λJ e=>∃W:CW,(∃m,W 0 m [] (stC src σ) e)/\OO J g c d (λa H=>∀p,H p=none->Q (.ref p) (upd H p (.lst a))) W
section
variable {prog:Program}{w:World}{A:Around}{ce:Expr}{c:Comprehension}{rest:List Comprehension}
theorem AW (i:OA ce)(e:clausesOf ce=c::rest)(j:c.is_async=0){it a:Value}{env:Env}{R:Result->Shared->Prop}{s:Shared}(l:codeAny (model prog w) A (.compLoop ce 0 it a env) R s)
  (h:wpAny (model prog w) A (pyIter it) (λd f=>codeAny (model prog w) A (.compLoop ce 0 d a env) R f) (XN prog w A env R) s) :
  codeAny (model prog w) A (.compStart ce 0 it a env) R s:=by
 apply codeAny_of_tree;apply GY i;obtain⟨m,iter,g,_⟩:=c;cases j;unfold compStart;rw[e];change wpAny _ _ (ask >>= _) _ _ s;apply aa;apply wpAny_askSetting;by_cases b:(⟨(model prog w).prog,(model prog w).w.params⟩:Setting).params.followText "comprehension-iter-twice" = true
 ·rw[ai b];exact ak ⟨rfl,l⟩
 ·rw[ab b];refine aa (wpAny_rule ?_);change wpAny _ _ (standAt iter.pos >>= _) _ _ s;exact aa (wpAny_standAt (aa (thn h λd f z=>ak ⟨rfl,z⟩)))
def LJ {β:Type}(F:Heap->Addr->β->Prop)(a:β)(prog:Program)(w:World)(A:Around)(mk:Sem Value):Prop :=
 ∀(Q:cL) (E:cL) (s:Shared),(∀o:Obj,o.isFreed=false->(∀h:Heap,h.get? s.heap.objs.size=some o->F h s.heap.objs.size a)->Q (.ref s.heap.objs.size) {s with heap:=s.heap.push o})->wpAny (model prog w) A mk Q E s
theorem vY:LJ N6 [] prog w A (newList []):=λ_ _ _ q=>ci (q _ rfl λ_ e=>⟨au _,#[],⟨_,e⟩,.nil⟩)
end
section
variable {β:Type}{F:Heap->Addr->β->Prop}{e0:β}{mk:Sem Value}{ce:Expr}{cls:List Comprehension}{ob:HO}
variable {X:Cx}{scope:Scope}{N':aS}{src:List (Option Nat)}{pins:c9}{σ:St}{H₂:Hp}{s₂:Shared}{fp:List Addr}{it:Addr}{tn:LI}{J:It}{tg iter:Expr}{ifs:lM}
theorem NX {pl:c9}{j:St}{H':Hp}{g:Shared}{C D:Addr}(v:aO X pins σ H₂ s₂)(m:∀b∈fp,fS X pins H₂ b)
  (f:aO (blk X scope N' C s₂ H₂ fp) pl j H' g) (p:s₂.heap.objs.size<=D) (i:H' D=none) (ok:cK X.prog X.w (upd H' D ob) g.heap D ob):aO X pins σ (upd H' D ob) g:=by
 have u:=f.base;have h:∀b o,s₂.heap.get? b=some o->b≠D:=λb o e=>bo (bf (az e) p);have a:∀b o,H' b=some o->b≠D:=λb o e z=>by rw[z,i]at e;cases e
 refine v.call' (ch:=fp) f.os ⟨u.keep,u.slot,λb o e n l=>?_,u.there,λb xs e=>?_,λb o xs e=>?_,λb ps e=>?_⟩ (λb o e=>?_) f.bare λb d=>?_
 ·rw[aE (h b o e)];exact u.free b o e n l
 ·have q:=u.tups b xs e;rw[aE (a b _ q)];exact q
 ·have q:=u.frzs b o xs e;rw[aE (a b _ q)];exact q
 ·obtain⟨more,q⟩:=u.tbls b ps e;exact⟨more,by rw[aE (a b _ q)];exact q⟩
 ·by_cases d:b=D
  ·subst d;rw[upd_same]at e;cases e;exact ok
  ·rw[aE d]at e;exact(f.hok b o e).stay (λ_ _ _ q=>q) (λc q=>by rw[aE (a c _ q)];exact q) λc xs q=>by rw[aE (a c _ q)];exact q
 ·obtain⟨x,f1,f2,t,s,r⟩:=m b d;exact⟨t,f1,s,r⟩
theorem EC {P:Program}{w:World}{H:Hp}{h:Heap}{a:Addr}{b:List V}:N6 h a b->cK P w H h a (.lst b):=λ⟨hz,items,⟨n,ho⟩,r⟩=>⟨hz,items.toList,n,r,by simpa using ho⟩
structure FD (F:Heap->Addr->β->Prop)(e0:β)(X:Cx)(scope:Scope)(N':aS)(src:List (Option Nat))(s₂:Shared)(H₂:Hp)(σ:St)(fp:List Addr)(tn:LI)(D C:Addr)(t:Shared):Prop where
 at_:s₂.heap.objs.size=D
 le:s₂.heap.objs.size<=C
 ne:D≠C
 place:rO (blk X scope N' C s₂ H₂ fp) [] D fp
 betw:∀W:RH β,(∃m,W 0 m e0 (stC src σ) H₂)->∃m,HB F (blk X scope N' C s₂ H₂ fp) [] D fp tn W m t
theorem HN {h h':Heap}{o a:Obj}(ho:o.isFreed=false)(c:Heap.SameBut (h.push o).objs.size ((h.push o).push a) h'):(∀b x,h.get? b=some x->h'.get? b=some x)/\h'.get? h.objs.size=some o:=by have key:∀b x,(h.push o).get? b=some x->h'.get? b=some x:=λb x e=>c.extBut b x (bo (az e)) (af a e);exact⟨λb x e=>key b x (af o e),key _ _ (ar h ho)⟩
theorem A5 {RR:Value->Addr->Result->Shared->Prop}{E:cL}(p:LJ F e0 X.prog X.w X.A mk)(K:OA ce)(r:clausesOf ce=⟨tg,iter,ifs,0⟩::cls)(S:bJ X scope N' src)(g:aO X pins σ H₂ s₂)(T:∀C,BA (blk X scope N' C s₂ H₂ fp) tg J fp it tn)(h:tn 0 s₂.heap)(q:∀b∈fp,fS X pins H₂ b)
  (k:∀D C t,FD F e0 X scope N' src s₂ H₂ σ fp tn D C t->codeAny (model X.prog X.w) X.A (.compLoop ce 0 (.ref it) (.ref D) (blk X scope N' C s₂ H₂ fp).env) (RR (.ref D) C) t) :
  wpAny (model X.prog X.w) X.A mk (λj B=>wpAny (model X.prog X.w) X.A (newFunctionEnv scope X.env.globals (closL X.env.cells scope.names []) [] X.env.qual none .none (some X.env)) (λd v =>
   codeAny (model X.prog X.w) X.A (.compStart ce 0 (.ref it) j {d with scope:=relabel scope X.env}) (RR j d.locals) v) E B) E s₂:=by
 refine p _ _ _ λo of I=>?_;refine wpAny_newFunctionEnv S.cell (λ_ z=>nomatch z) (λs ns G=>?_) S.kind;obtain⟨old,new⟩:=HN of G;have sz:(s₂.heap.push o).objs.size=s₂.heap.objs.size+1:=Heap.size_push ..;dsimp only at ns old new⊢;rw[sz]at ns⊢;have lt:∀b∈fp,b<s₂.heap.objs.size:=λb a=>let⟨_,e,_⟩:=(T 0).obj 0 _ h b a;az e;have i:tn 0 s:=(T 0).keep _ _ _ h λb _ o e=>old b o e;have off:s₂.heap.objs.size∉fp:=λz=>cf _ (lt _ z);have u:=S.start (tk:=s₂.toks+([]:List (Str×Value)).length) (pl:=[]) g q lt (Nat.le_succ _) old ns (λ_ z=>nomatch z);have pl:rO (blk X scope N' (s₂.heap.objs.size+1) s₂ H₂ fp) [] s₂.heap.objs.size fp:=by
  refine⟨off,λH l=>?_,λH l b a=>?_⟩
  ·have f:=g.fpOk (ac _) l;refine⟨l,bo (Nat.lt_succ_self _),λz=>?_,.inr (ac _),λx c e=>f.2.2.2.2.1 x c (S.cl g e),λ_ z=>nomatch z⟩;exact(cu.mp (g.stkSub _ z)).elim f.2.1 f.2.2.1
  ·exact⟨l b a,bo (Nat.lt_succ_of_lt (lt b a)),u.ok.exfs b a,.inl a,λx c e=>(q b a).2.2.2.2.1 x c (S.cl g e),λ_ z=>nomatch z⟩
 have L:FD F e0 X scope N' src s₂ H₂ σ fp tn s₂.heap.objs.size (s₂.heap.objs.size+1) {s₂ with heap:=s,toks:=s₂.toks+([]:List (Str×Value)).length} :=
  ⟨rfl,Nat.le_succ _,bo (Nat.lt_succ_self _),pl,λW ⟨m,w⟩=>⟨m,0,_,H₂,e0,u,i,λb a=>(q b a).1,g.hok.fresh (ac _),I _ new,w⟩⟩
 have go:=k _ _ _ L;exact AW K r rfl go ((T 0).self _ 0 _ _ _ i go)
theorem FD.out {D C:Addr}{t s:Shared}{H':Hp}{a:St}(B:FD F e0 X scope N' src s₂ H₂ σ fp tn D C t)(e:aO X pins σ H₂ s₂)(c:∀b∈fp,fS X pins H₂ b)(I:aO (blk X scope N' C s₂ H₂ fp) [] a H' s)(d:H' D=none)(ok:cK X.prog X.w (upd H' D ob) s.heap D ob) :
  H' C=none/\(∃m,s.heap.Ns C m)/\aO X pins σ (upd H' D ob) s :=
 ⟨I.free,⟨_,I.loc.choose_spec.1⟩,NX e c I (Nat.le_of_eq B.at_) d ok⟩
variable {elt:Expr}{pos:Pos}{g:TG}{tt:TT}{te:TE}{tl:β->St->Hp->(β->Hp->Prop)->Prop}
def Q9 (J:It)(g:TG)(h:TT)(tl:β->St->Hp->(β->Hp->Prop)->Prop)(Fin:β->Hp->Prop)(W:RH β):Prop:=∀i m c σ H,W i m c σ H ->
 (J.stop i H/\Fin c H) ∨
 (J.go i H/\∀x H',J.yld i H x H'->g x σ H' λe l=>h e l λb f =>
  if b=true then tl c e f λa j=>∃d,d<m/\W (i+1) d a e j else ∃d,d<m/\W (i+1) d c e f)
theorem uI {W:RH β}{Fin:β->Hp->Prop}{RR:Value->Addr->Result->Shared->Prop}{E:cL}{lay:Value->Env->Sem Unit}{obj:Addr->β->HO}{ps:Pos}(hF:Q1 F)(j:LJ F e0 X.prog X.w X.A mk)(q:OA ce)(l:clausesOf ce=⟨tg,iter,ifs,0⟩::cls)(Z:∀it a env,compTurn ce 0 it a env=sX ps it tg env (layOn ifs (lay a env) env (.compLoop ce 0 it a env)))(hok:∀H h D a,F h D a->cK X.prog X.w H h D (obj D a))
  (S:bJ X scope N' src) (v:aO X pins σ H₂ s₂) (T:∀C,BA (blk X scope N' C s₂ H₂ fp) tg J fp it tn) (d:tn 0 s₂.heap) (r:∀b∈fp,fS X pins H₂ b)
  (U:∀C,PG (blk X scope N' C s₂ H₂ fp) tg g) (Q:∀C,RD (blk X scope N' C s₂ H₂ fp) ifs tt) (hl:∀C D a,Q6 F (blk X scope N' C s₂ H₂ fp) D (lay (.ref D) (blk X scope N' C s₂ H₂ fp).env) (tl a) a)
  (x:∃m,W 0 m e0 (stC src σ) H₂) (turn:Q9 J g tt tl Fin W)
  (p:∀D C e H' a,s₂.heap.objs.size<=C->H' C=none->D≠C->(∃m,e.heap.Ns C m)->aO X pins σ (upd H' D (obj D a)) e->H' D=none->Fin a H'->RR (.ref D) C (.ok .next) e) :
  wpAny (model X.prog X.w) X.A mk (λa K=>wpAny (model X.prog X.w) X.A (newFunctionEnv scope X.env.globals (closL X.env.cells scope.names []) [] X.env.qual none .none (some X.env)) (λc G =>
   codeAny (model X.prog X.w) X.A (.compStart ce 0 (.ref it) a {c with scope:=relabel scope X.env}) (RR a c.locals) G) E K) E s₂:=by
 refine A5 j q l S v T d r λD C t B=>?_;obtain⟨m,b⟩:=B.betw W x;refine CI q (Z ..) (HB F (blk X scope N' C s₂ H₂ fp) [] D fp tn W) (λn s b=>?_) m b;refine(GX (Y:=blk X scope N' C s₂ H₂ fp) hF (λ_ _ z=>z) (T C) B.place (U C) turn (λs σc H a I u R fin=>?_) n s b).mono (λ_ z=>z) ?_
 ·obtain⟨P,O,N⟩:=B.out v r I u (hok _ _ _ _ R);exact p D C s H a B.le P B.ne O N u fin
 ·rintro t ⟨i,a,o,more,σ3,H3,f,I3,L⟩;exact C9.go (J4 (W:=W) (λ_ _ z=>z) B.place (T C) (Q C) (hl C D a) f I3 L)
theorem KQ {Q:VK}{D C:Addr}{a:Shared}{H':Hp}(p:aO X pins σ H₂ s₂)(l:s₂.heap.objs.size<=C)(h:H' C=none)(g:D≠C)(d:∃m,a.heap.Ns C m)(r:aO X pins σ (upd H' D ob) a)(q:Q (.ref D) (upd H' D ob)) :
  compPost (model X.prog X.w) X.A X.xe none (EP X pins σ Q) (.ref D) C (.ok .next) a:=by
 obtain⟨m,i⟩:=d;have f:=p.fpOk (H':=upd H' D ob) l (by rw[aE (Ne.symm g)];exact h);exact⟨m,i,λh' c=>⟨.ref D,_,r.turned (t':=a.toks) (λb o j e=>c.extBut b o j e) f.1 f.2.1 f.2.2.2.1 f.2.2.2.2.1 f.2.2.2.2.2,rfl,q⟩⟩
theorem KR {r:hZ}{D C:Addr}{c:Shared}{H':Hp}{i:Nat}{y:Str}{u:Pos}(F:X.N.Nodup)(h:X.N[i]?=some y)(p:X.env.scope.names.lookup y=some .local)(H:aO X pins σ H₂ s₂)(G:s₂.heap.objs.size<=C)(l:H' C=none)(j:D≠C)(g:∃m,c.heap.Ns C m)(I:aO X pins σ (upd H' D ob) c)(q:r.nx (σ.set i (some (.ref D))) (upd H' D ob)) :
  compPost (model X.prog X.w) X.A X.xe (some (assign (.Name y u) X.env)) (λ_ c=>SP X pins r .next c) (.ref D) C (.ok .next) c:=by
 obtain⟨m,x⟩:=g;have f:=H.fpOk (H':=upd H' D ob) G (by rw[aE (Ne.symm j)];exact l);refine wpAny_assign_Name (vP I F h (.inl p) (v:=.ref D) rfl (λt It ⟨a,s,E⟩=>?_) (.inr p));have ne:C≠a:=E.elim (λe=>e ▸ f.2.1) λe z=>f.2.2.2.2.1 y a e z.symm;exact⟨m,x.sameBut s ne,λh' d=>⟨_,_,It.turned (t':=t.toks) (λb o B e=>d.extBut b o B e) f.1 f.2.1 f.2.2.2.1 f.2.2.2.2.1 f.2.2.2.2.2,q⟩⟩
theorem FF {gens:List Comprehension}{y:Str}{b a:Pos}{Q:Flow->Shared->Prop}{s:Shared}(c:swapsWith (.ListComp elt gens scope pos) (some (.Name y b)) a.line X.env=pure true)
  (h:wpAny (model X.prog X.w) X.A (comprehension (.ListComp elt gens scope pos) scope X.env (firstIterPos gens pos) (newList []) (firstAsync gens) (firstIter gens X.env) (some (assign (.Name y b) X.env))) (λ_=>Q .next) X.xe s) :
  wpAny (model X.prog X.w) X.A (exec (.Assign [.Name y b] (.ListComp elt gens scope pos) a) X.env) Q X.xe s:=by
 have u:wpAny (model X.prog X.w) X.A (evalThenUse (.ListComp elt gens scope pos) X.env (assign (.Name y b) X.env)) (λ_=>Q .next) X.xe s:=aa (thn h λ_ _ q=>ak q);exact(exec_Assign_Name_used y b _ a c) ▸ aa (wpAny_standAt (aa (thn u λ_ _ q=>ak q)))
theorem wN {j:TI}{use:Option (Value->Sem Unit)}{Q:cL}{s:Shared}{H:Hp}{K:It->Hp->Prop}{ps:Pos}(i:clausesOf ce=⟨tg,iter,ifs,0⟩::cls)(S:bJ X scope N' src)(p:PI X tg iter j)(o:∀x,foldedSetIterable iter X.env x=pure x)(I:aO X pins σ H s)(h:j σ H K)
  (k:∀c H₂ it g e J,aO X pins σ H₂ c->q8 X.prog X.w X.K tg J g it e->e 0 c.heap->(∀b∈g,fS X pins H₂ b)->K J H₂ ->
   wpAny (model X.prog X.w) X.A mk (λd m=>wpAny (model X.prog X.w) X.A (newFunctionEnv scope X.env.globals (closL X.env.cells scope.names []) [] X.env.qual none .none (some X.env)) (λa l =>
    codeAny (model X.prog X.w) X.A (.compStart ce 0 (.ref it) d {a with scope:=relabel scope X.env}) (compPost (model X.prog X.w) X.A X.xe use Q d a.locals) l) X.xe m) X.xe c) :
  wpAny (model X.prog X.w) X.A (comprehension ce scope X.env ps mk false (eval iter X.env) use) Q X.xe s:=by
 refine wpAny_comprehension_free i o (vG (S.cells I)) S.kind S.names (thn (p pins s σ H K I h) λ_ _ q=>thn q ?_);rintro _ c ⟨it,g,e,J,H₂,rfl,r,T,st,f,q⟩;exact k c H₂ it g e J r T st f q
theorem e8 {d:TI}(r:X.calm=true)(S:bJ X scope N' src)(o:PI X tg iter d)(p:∀C s H a,PG (blk X scope N' C s H a) tg g)(l:∀C s H a,RD (blk X scope N' C s H a) ifs tt)(q:∀C s H a,PE (blk X scope N' C s H a) elt te)
  (m:∀x,foldedSetIterable iter X.env x=pure x:=by intro _;rfl):PE X (.ListComp elt [⟨tg,iter,ifs,0⟩] scope pos) (tComp src d g tt te):=by
 intro e s σ H Q I h;rw[eval_ListComp];refine wN rfl S o m I h λb H₂ it a E J i T st f ⟨W,j,turn⟩=>?_;exact uI (lay:=yC elt) (tl:=tlLst te) (obj:=λ_=>.lst) v8 vY (.lst ..) rfl (y7 elt tg iter ifs scope pos) (λ_ _ _ _=>EC) S i (λC=>q8.y (Y:=blk X scope N' C b H₂ a) T r) st f (λC=>p C b H₂ a) (λC=>l C b H₂ a) (λC D c=>AH (λ_ _ z=>z) (q C b H₂ a)) j turn λD C F H' c B A w v u t fin=>KQ i B A w v u (fin D t)
theorem gM {l:TI}{i:Nat}{y:Str}{m b:Pos}(E:X.N.Nodup)(e:X.N[i]?=some y)(r:X.env.scope.names.lookup y=some .local)(d:swapsWith (.ListComp elt [⟨tg,iter,ifs,0⟩] scope pos) (some (.Name y m)) b.line X.env=pure true)
  (B:X.calm=true) (S:bJ X scope N' src) (v:PI X tg iter l) (w:∀C s H a,PG (blk X scope N' C s H a) tg g) (t:∀C s H a,RD (blk X scope N' C s H a) ifs tt) (A:∀C s H a,PE (blk X scope N' C s H a) elt te)
  (u:∀x,foldedSetIterable iter X.env x=pure x:=by intro _;rfl):PS X (.Assign [.Name y m] (.ListComp elt [⟨tg,iter,ifs,0⟩] scope pos) b) (tAsg (tComp src l g tt te) (gName i)):=by
 intro o s σ H D I h;refine FF d ?_;refine wN rfl S v u I h λc H₂ it a Q J p T st f ⟨W,q,turn⟩=>?_;exact uI (lay:=yC elt) (tl:=tlLst te) (obj:=λ_=>.lst) v8 vY (.lst ..) rfl (y7 elt tg iter ifs scope pos) (λ_ _ _ _=>EC) S p (λC=>q8.y (Y:=blk X scope N' C c H₂ a) T B) st f (λC=>w C c H₂ a) (λC=>t C c H₂ a) (λC D j=>AH (λ_ _ z=>z) (A C c H₂ a)) q turn λD C R H' j P O L K G F fin=>KR E e r p P O L K G (fin D F)
end
noncomputable def xZ:aS->Bool
 | []=>true
 | x::r=>!r.contains x && xZ r
theorem vX:∀{l:aS},xZ l=true->l.Nodup
 | [],_=>List.nodup_nil
 | x::r,h=>by simp only[xZ,Bool.and_eq_true,Bool.not_eq_true',List.contains_eq_mem,decide_eq_false_iff_not]at h;exact da.mpr ⟨h.1,vX h.2⟩
noncomputable def compB (N:aS)(names:List (Str×NameKind))(scope:Scope)(N':aS)(src:List (Option Nat)):Bool :=
 decide (scope.kind = .function) && scope.names.all (λy=>decide (y.2≠.cell)) && scope.names.all (λy=>decide (y.2≠.local) || decide (scope.names.lookup y.1=some .local)) &&
 scope.names.all (λy=>decide (y.2≠.free) || (decide (names.lookup y.1=some .cell) || decide (names.lookup y.1=some .free))) && xZ N' && srcOk N scope.names src N'
theorem bJ.by {X:Cx}{N:aS}{names:List (Str×NameKind)}{scope:Scope}{N':aS}{src:List (Option Nat)}(h:compB N names scope N' src=true)(c:X.N=N)(d:X.env.scope.names=names):bJ X scope N' src:=by subst c d;simp only[compB,Bool.and_eq_true,List.all_eq_true,Bool.or_eq_true,decide_eq_true_eq]at h;obtain⟨⟨⟨⟨⟨l,j⟩,i⟩,g⟩,f⟩,e⟩:=h;exact⟨l,j,λy a b=>(i y a).resolve_left λz=>z b,λy a b=>(g y a).resolve_left λz=>z b,vX f,e⟩
def dP (P:Program)(w:World)(K:PySem.W.Frag)(mg:jF)(base:Heap)(CX:BJ)(k:Nat)(x:Str)(b:Sp):Prop :=
 ∃f a ps,bY P w K mg base CX k f a ps b/\mg x=some (.ref f)/\PySem.W.keepIn K (.ref f)=true/\eN K a ps []
section
variable {X:Cx}{CX:BJ}{k:Nat}{sp:Sp}{E:XK}{x:Str}{p pos:Pos}{e:Expr}{es:lM}{t:TA}
theorem aM (O:dP X.prog X.w X.K X.mg X.base CX k x sp)(d:eP k X.A)(c:k6 CX X E)(h:Gl X x)(l:PA X (e::es) t)(b:(x == ("__debug__" : Str))=false:=by decide)
  (i:starEach (e::es) X.env=(false,eval e X.env)::starEach es X.env:=by rfl) (a:(backTo pos (starEach es X.env)).any (·.1)=false:=by rfl):PE X (.Call (.Name x p) (e::es) [] pos) (tCall sp [] E t):=by
 obtain⟨f,m,ps,F,hm,g,j⟩:=O;exact MO F d h hm g j .nil c l b i a
theorem fH {v:V}(hm:∃u,X.mg x=some u/\aY v u)(a:Gl X x)(hd:(x == ("__debug__" : Str))=false:=by decide):PE X (.Name x pos) (tC v):=by obtain⟨u,h,r⟩:=hm;exact MN a h r hd
end
def BF (P:Program)(w:World)(K:PySem.W.Frag)(mg:jF)(base:Heap)(CX:BJ)(k:Nat)(C:Addr)(m:Str)(b:Sp):Prop :=
 ∃f a ps,bY P w K mg base CX k f a ps b/\N5 K C m f/\eN K a ps []/\HA K C
section
variable {X:Cx}
noncomputable def ixV (H:Hp):V->V->Option V
 | .ref p,.int i=>match H p with
  | some (.lst xs)=>atI xs i
  | some (.tup xs)=>atI xs i
  | some (.frz _ (.lst xs))=>atI xs i
  | _=>none
 | .str z,.int i=>if z.length<=sizeLine then(atI z.cps.toList i).map λc=>.str ⟨#[c]⟩else none
 | _,_=>none
theorem bW:LP X (λx y H Q=>∃v,ixV H x y=some v/\Q v H):=by
 intro a b d s σ H x y v u Q I j g h l;obtain⟨z,e,q⟩:=h;refine QL a b d s σ H x y v u Q I j g ?_ l;cases x with
 | ref p =>
  cases y with
  | int i =>
   unfold ixV at e;dsimp only at e;split at e
   ·rename_i xs f;exact .inl ⟨p,xs,i,z,rfl,rfl,dN.of f,e,q⟩
   ·rename_i xs f;exact .inr (.inl ⟨p,xs,i,z,rfl,rfl,gF.of f,e,q⟩)
   ·rename_i o xs f;exact .inl ⟨p,xs,i,z,rfl,rfl,.inl (.inr ⟨o,f⟩),e,q⟩
   ·cases e
  | _=>cases e
 | str t =>
  cases y with
  | int i =>
   unfold ixV at e;dsimp only at e;split at e
   ·rename_i hz;cases ea:atI t.cps.toList i with
    | none=>rw[ea]at e;cases e
    | some c =>
     rw[ea]at e;cases e;exact .inr (.inr ⟨t,i,c,rfl,rfl,hz,ea,q⟩)
   ·cases e
  | _=>cases e
 | _=>cases e
noncomputable def lenV (H:Hp):V->Option Nat
 | .ref p=>match H p with
  | some (.lst xs)=>some xs.length
  | some (.tup xs)=>some xs.length
  | some (.frz _ (.lst xs))=>some xs.length
  | some (.dK a)=>some a.length
  | _=>none
 | .str z=>if z.length<=sizeLine then some z.length else none
 | _=>none
theorem dR.or' {f:Value}{r c:List V->Hp->VK->Prop}(h:dR X f r)(h':dR X f c):dR X f (λxs H Q=>r xs H Q∨c xs H Q):=by
 intro a s σ H xs us Q I b q;rcases q with q|q
 ·exact h a s σ H xs us Q I b q
 ·exact h' a s σ H xs us Q I b q
theorem dR.imp {f:Value}{r b:List V->Hp->VK->Prop}(h:dR X f r)(i:∀xs H Q,b xs H Q->r xs H Q):dR X f b:=λa s σ H xs us Q I c q=>h a s σ H xs us Q I c (i _ _ _ q)
theorem iQ.imp {f:Value->Value->Sem Value}{r b:R2}(h:iQ X f r)(i:∀x y H Q,b x y H Q->r x y H Q):iQ X f b:=λa s σ H x y v u Q I d c q=>h a s σ H x y v u Q I d c (i _ _ _ _ q)
def r1 (f:Hp->V->Option V):List V->Hp->VK->Prop:=λxs H Q=>∃x v,xs=[x]/\f H x=some v/\Q v H
theorem bK:dR X (.builtin "len") (r1 λH x=>(lenV H x).map λn=>.int n):=by
 refine((yU.or' yT).or' G4).imp λxs H Q h=>?_;obtain⟨x,v,rfl,e,q⟩:=h;cases x with
 | ref p =>
  unfold lenV at e;dsimp only at e;split at e
  ·rename_i xs a;cases e;exact .inl (.inl ⟨p,xs,rfl,.inl (dN.of a),q⟩)
  ·rename_i xs a;cases e;exact .inl (.inl ⟨p,xs,rfl,.inr (gF.of a),q⟩)
  ·rename_i o xs a;cases e;exact .inl (.inl ⟨p,xs,rfl,.inl (.inl (.inr ⟨o,a⟩)),q⟩)
  ·rename_i b a;cases e;exact .inr ⟨p,b,rfl,a,q⟩
  ·cases e
 | str z =>
  unfold lenV at e;dsimp only at e;split at e
  ·rename_i hz;cases e;exact .inl (.inr ⟨z,rfl,hz,q⟩)
  ·cases e
 | _=>cases e
noncomputable def intV:V->Option V
 | .int i=>some (.int i)
 | .bl k=>some (.int (if k then 1 else 0))
 | _=>none
theorem G5:dR X (.type "int") (r1 λ_ x=>intV x):=by
 refine G6.imp λxs H Q h=>?_;obtain⟨x,v,rfl,e,q⟩:=h;cases x with
 | int i=>cases e;exact .inl ⟨i,rfl,q⟩
 | bl k=>cases e;exact .inr ⟨k,rfl,q⟩
 | _=>cases e
noncomputable def addV:V->V->Option V
 | .int i,.int j=>some (.int (i+j))
 | .str i,.str j=>if i.length+j.length<=sizeLine then some (.str (i++j))else none
 | _,_=>none
noncomputable def catO (H:Hp):V->V->Option HO
 | .ref a,.ref b=>match H a,H b with
  | some (.lst xs),some (.lst c)=>if xs.length+c.length<=sizeLine then some (.lst (xs++c))else none
  | some (.tup xs),some (.tup c)=>if xs.length+c.length<=sizeLine/\xs≠[]/\c≠[]then some (.tup (xs++c))else none
  | _,_=>none
 | _,_=>none
def rAddF:R2:=λx y H Q=>(∃v,addV x y=some v/\Q v H)∨(∃o,catO H x y=some o/\∀p,H p=none->Q (.ref p) (upd H p o))
theorem bT:iQ X (binaryOp .Add) rAddF:=by
 refine((PR.or B4).or (PQ.or D5)).imp λx y H Q h=>?_;rcases h with⟨v,e,q⟩|⟨o,e,q⟩
 ·cases x with
  | int i=>cases y with
   | int j=>cases e;exact .inl (.inl ⟨i,j,rfl,rfl,q⟩)
   | _=>cases e
  | str i=>cases y with
   | str j =>
    unfold addV at e;dsimp only at e;split at e
    ·rename_i hz;cases e;exact .inl (.inr ⟨i,j,rfl,rfl,hz,q⟩)
    ·cases e
   | _=>cases e
  | _=>cases e
 ·cases x with
  | ref a=>cases y with
   | ref b =>
    unfold catO at e;dsimp only at e;split at e
    ·rename_i xs c f d;split at e
     ·rename_i hz;cases e;exact .inr (.inl ⟨a,b,xs,c,rfl,rfl,f,d,hz,q⟩)
     ·cases e
    ·rename_i xs c f d;split at e
     ·rename_i hz;cases e;exact .inr (.inr ⟨a,b,xs,c,rfl,rfl,gF.of f,gF.of d,hz.2.1,hz.1,λw=>absurd w hz.2.2,λ_=>q⟩)
     ·cases e
    ·cases e
   | _=>cases e
  | _=>cases e
end
inductive D where
 | non|bl (b:Bool)|int (i:Int)|str (x:Str)|tup (xs:List D)|lst (xs:List D)
mutual
def aZ (H:Hp):D->V->Prop
 | .non,v=>v = .non
 | .bl b,v=>v = .bl b
 | .int i,v=>v = .int i
 | .str x,v=>v = .str x
 | .tup ds,v=>∃a vs,v = .ref a/\H a=some (.tup vs)/\Reps H ds vs
 | .lst ds,v=>∃a vs,v = .ref a/\H a=some (.lst vs)/\Reps H ds vs
def Reps (H:Hp):List D->List V->Prop
 | [],vs=>vs=[]
 | d::ds,vs=>∃v r,vs=v::r/\aZ H d v/\Reps H ds r
end
mutual
theorem aZ.same {H H':Hp}(s:aD H H'):∀{d:D} {v:V},aZ H d v->aZ H' d v
 | .non,_,h=>h
 | .bl _,_,h=>h
 | .int _,_,h=>h
 | .str _,_,h=>h
 | .tup _,_,⟨a,vs,e,h,r⟩=>⟨a,vs,e,s _ _ h,Reps.same s r⟩
 | .lst _,_,⟨a,vs,e,h,r⟩=>⟨a,vs,e,s _ _ h,Reps.same s r⟩
theorem Reps.same {H H':Hp}(s:aD H H'):∀{ds:List D} {vs:List V},Reps H ds vs->Reps H' ds vs
 | [],_,h=>h
 | _::_,_,⟨v,r,e,h,q⟩=>⟨v,r,e,aZ.same s h,Reps.same s q⟩
end
theorem Reps.length {H:Hp}:∀{ds:List D} {vs:List V},Reps H ds vs->vs.length=ds.length
 | [],_,h=>by cases h;rfl
 | _::_,_,⟨v,r,e,_,q⟩=>by subst e;simp[Reps.length q]
theorem Reps.append {H:Hp}:∀{ds es:List D} {vs ws:List V},Reps H ds vs->Reps H es ws->Reps H (ds++es) (vs++ws)
 | [],_,_,_,h,k=>by cases h;exact k
 | _::_,_,_,_,⟨v,r,e,h,q⟩,k=>by subst e;exact⟨v,r++_,rfl,h,Reps.append q k⟩
theorem Reps.get {H:Hp}:∀{ds:List D} {vs:List V} {i:Nat} {v:V},Reps H ds vs->vs[i]?=some v->∃d,ds[i]?=some d/\aZ H d v
 | [],_,_,_,h,e=>by cases h;simp at e
 | d::_,_,0,_,⟨v,r,e,h,q⟩,k=>by subst e;simp at k;subst k;exact⟨d,rfl,h⟩
 | _::_,_,i+1,_,⟨v,r,e,h,q⟩,k=>by subst e;simp at k;obtain⟨d,b,a⟩:=Reps.get q k;exact⟨d,by simpa using b,a⟩
theorem Reps.get' {H:Hp}:∀{ds:List D} {vs:List V} {i:Nat} {d:D},Reps H ds vs->ds[i]?=some d->∃v,vs[i]?=some v/\aZ H d v
 | [],_,_,_,_,e=>by simp at e
 | d::_,_,0,_,⟨v,r,e,h,q⟩,k=>by subst e;simp at k;subst k;exact⟨v,rfl,h⟩
 | _::_,_,i+1,_,⟨v,r,e,h,q⟩,k=>by subst e;simp at k;obtain⟨w,b,a⟩:=Reps.get' q k;exact⟨w,by simpa using b,a⟩
mutual
noncomputable def eqD:D->D->Bool
 | .non,.non=>true
 | .bl a,.bl b=>a == b
 | .bl a,.int b=>(if a then 1 else 0) == b
 | .int a,.bl b=>a == (if b then 1 else 0)
 | .int a,.int b=>a == b
 | .str a,.str b=>a == b
 | .tup xs,.tup c=>eqDs xs c
 | .lst xs,.lst c=>eqDs xs c
 | _,_=>false
noncomputable def eqDs:List D->List D->Bool
 | [],[]=>true
 | x::xs,y::a=>eqD x y && eqDs xs a
 | _,_=>false
end
mutual
noncomputable def depD:D->Nat
 | .tup xs=>depDs xs+1
 | .lst xs=>depDs xs+1
 | _=>0
noncomputable def depDs:List D->Nat
 | []=>0
 | x::xs=>max (depD x) (depDs xs)
end
end L2
namespace L2
open PySem PySem.Spec PyProof.Rows PySem.SeqAt
mutual
theorem aZ.inj {H:Hp}:∀{d e:D} {v:V},aZ H d v->aZ H e v->d=e
 | .non,e,v,h,k=>by cases h;cases e <;> first|rfl|(exact absurd k (by simp[aZ]))|(obtain⟨_,_,z,_⟩:=k;cases z)
 | .bl b,e,v,h,k=>by cases h;cases e <;> first|(cases k;rfl)|(exact absurd k (by simp[aZ]))|(obtain⟨_,_,z,_⟩:=k;cases z)
 | .int b,e,v,h,k=>by cases h;cases e <;> first|(cases k;rfl)|(exact absurd k (by simp[aZ]))|(obtain⟨_,_,z,_⟩:=k;cases z)
 | .str b,e,v,h,k=>by cases h;cases e <;> first|(cases k;rfl)|(exact absurd k (by simp[aZ]))|(obtain⟨_,_,z,_⟩:=k;cases z)
 | .tup ds,e,v,⟨a,vs,l,g,j⟩,k=>by
  subst l;cases e with
  | tup es =>
   obtain⟨b,i,c,k2,f⟩:=k;cases c;rw[g]at k2;cases k2;rw[Reps.inj j f]
  | lst es =>
   obtain⟨b,i,c,k2,f⟩:=k;cases c;rw[g]at k2;cases k2
  | _=>exact absurd k (by simp[aZ])
 | .lst ds,e,v,⟨a,vs,l,g,j⟩,k=>by
  subst l;cases e with
  | lst es =>
   obtain⟨b,i,c,k2,f⟩:=k;cases c;rw[g]at k2;cases k2;rw[Reps.inj j f]
  | tup es =>
   obtain⟨b,i,c,k2,f⟩:=k;cases c;rw[g]at k2;cases k2
  | _=>exact absurd k (by simp[aZ])
theorem Reps.inj {H:Hp}:∀{ds es:List D} {vs:List V},Reps H ds vs->Reps H es vs->ds=es
 | [],[],_,_,_=>rfl
 | [],e::es,_,h,k=>by cases h;obtain⟨_,_,z,_⟩:=k;cases z
 | d::ds,[],_,h,k=>by cases k;obtain⟨_,_,z,_⟩:=h;cases z
 | d::ds,e::es,_,⟨v,r,g,f,c⟩,⟨w,q,b,k2,a⟩=>by subst g;cases b;rw[aZ.inj f k2,Reps.inj c a]
end
mutual
theorem j8:∀d:D,eqD d d=true
 | .non=>rfl
 | .bl b=>by simp[eqD]
 | .int b=>by simp[eqD]
 | .str b=>by simp[eqD]
 | .tup xs=>by rw[eqD];exact qY xs
 | .lst xs=>by rw[eqD];exact qY xs
theorem qY:∀ds:List D,eqDs ds ds=true
 | []=>rfl
 | d::ds=>by rw[eqDs,j8 d,qY ds];rfl
end
theorem uN (n:Nat)(f:Nat->Bool):(List.range (n+1)).all f=(f 0 && (List.range n).all λj=>f (j+1)):=by have e:=List.range_succ_eq_map (n:=n);rw[e,List.all_cons,List.all_map];rfl
theorem hV:∀ds es:List D,eqDs ds es=((List.range (min ds.length es.length)).all (λj=>eqD (ds.getD j .non) (es.getD j .non)) && ds.length == es.length)
 | [],[]=>rfl
 | [],e::es=>by simp[eqDs]
 | d::ds,[]=>by simp[eqDs]
 | d::ds,e::es=>by
  rw[eqDs,hV ds es];have a:min (d::ds).length (e::es).length=min ds.length es.length+1:=by simp only[ap];omega
  rw[a,uN];simp only[List.getD_cons_zero,List.getD_cons_succ,ap];rw[Bool.and_assoc];congr 2;rw[cg];simp
section
variable {P:Program}{w:World}{H:Hp}{s:Shared}
theorem gE (ok:gX P w H s.heap){a:Addr}{vs:List V}(h:H a=some (.lst vs)):∃its:cA,aW vs its/\s.heap.IsList a its.toArray:=by obtain⟨_,its,n,r,e⟩:=ok a _ h;exact⟨its,r,⟨_,e,rfl,n,rfl⟩⟩
theorem jO (ok:gX P w H s.heap){a:Addr}{vs:List V}(h:H a=some (.tup vs)):∃its:cA,aW vs its/\s.heap.IsTuple a its.toArray:=by obtain⟨_,its,r,e⟩:=ok a _ h;exact⟨its,r,e⟩
theorem eJ (A:Around):A.in1.units=A.units+1:=rfl
def SG (u:Value):Prop:=u = .none∨(∃b,u = .bool b)∨(∃i t,u = .int i t)∨(∃x t,u = .str x t)∨∃a,u = .ref a
theorem IF {H:Hp}{d:D}{v:V}{u:Value}(h:aZ H d v)(r:aY v u):SG u:=by
 cases d with
 | non=>cases h;exact .inl r
 | bl b=>cases h;exact .inr (.inl ⟨b,r⟩)
 | int i=>cases h;obtain⟨t,e⟩:=r;exact .inr (.inr (.inl ⟨i,t,e⟩))
 | str x=>cases h;obtain⟨t,e⟩:=r;exact .inr (.inr (.inr (.inl ⟨x,t,e⟩)))
 | tup ds=>obtain⟨a,vs,e,_⟩:=h;subst e;exact .inr (.inr (.inr (.inr ⟨a,r⟩)))
 | lst ds=>obtain⟨a,vs,e,_⟩:=h;subst e;exact .inr (.inr (.inr (.inr ⟨a,r⟩)))
theorem NU {A:Around}{s:Shared}{u a:Value}{b:Bool}(f:SG u)(c:SG a)(g:u≠a)(q:RcAt A s u a b):EqAt A s u a b:=by intro prog w E Q h;unfold eqBool;refine ck ?_;refine wpAny_ite_split (λd=>absurd (eq_of_beq d) g) (λ_=>?_);have q':=q prog w E (λv e=>wpAny (model prog w) A (truthOfDropped v) Q E e) (wpAny_truthy_bool h);rcases f with rfl|⟨_,rfl⟩|⟨_,_,rfl⟩|⟨_,_,rfl⟩|⟨_,rfl⟩ <;> rcases c with rfl|⟨_,rfl⟩|⟨_,_,rfl⟩|⟨_,_,rfl⟩|⟨_,rfl⟩ <;> exact aa q'
theorem EY {A:Around}{d e:D}{v b:V}{u a:Value}(h:aZ H d v)(k:aZ H e b)(r:aY v u)(c:aY b a)(q:RcAt A s u a (eqD d e)):EqAt A s u a (eqD d e):=by
 by_cases f:u=a
 ·subst f;have i:v=b:=r.inj c;subst i;have g:=aZ.inj h k;subst g;rw[j8];exact EqAt.same u
 ·exact NU (IF h r) (IF k c) f q
def sV (s:Shared)(H:Hp)(n:Nat):Prop:=∀(d e:D) (A:Around) (v v':V) (u u':Value),depD d<n->aZ H d v->aZ H e v'->aY v u->aY v' u'->A.units+depD d<cLine->RcAt A s u u' (eqD d e)
theorem yP {n:Nat}(B:sV s H n):∀{ds es:List D} {A:Around} {vs c:List V} {us a:cA},depDs ds<n->Reps H ds vs->Reps H es c->aW vs us->aW c a->A.units+depDs ds<cLine ->
  ∀j (f:j<us.length) (m:j<a.length),EqAt A s us[j] a[j] (eqD (ds.getD j .non) (es.getD j .non)):=by
 intro ds
 induction ds with
 | nil=>intro es A vs c us a _ h _ r _ _ j f;cases h;cases r;exact absurd f (Nat.not_lt_zero _)
 | cons d ds C =>
  intro es A vs c us a l h k r o i j f m;cases es with
  | nil=>cases k;cases o;exact absurd m (Nat.not_lt_zero _)
  | cons e es =>
   obtain⟨v,F,w,p,u⟩:=h;obtain⟨y,E,z,q,x⟩:=k;subst w z;rw[depDs]at i l;cases r with
   | cons r1 t =>
    cases o with
    | cons b g =>
     cases j with
     | zero=>exact EY p q r1 b (B d e A v y _ _ (aj (Nat.le_max_left _ _) l) p q r1 b (aj (bS (Nat.le_max_left _ _) _) i))
     | succ j=>exact C (aj (Nat.le_max_right _ _) l) u x t g (aj (bS (Nat.le_max_right _ _) _) i) j (Nat.lt_of_succ_lt_succ f) (Nat.lt_of_succ_lt_succ m)
theorem MB (ok:gX P w H s.heap){n:Nat}(z:sV s H n){ds es:List D}{A:Around}{v i:V}{u l:Value}(B:depDs ds<n)(h:aZ H (.tup ds) v)(k:aZ H (.tup es) i)(r:aY v u)(t:aY i l)(G:A.units+depDs ds+1<cLine):RcAt A s u l (eqD (.tup ds) (.tup es)):=by
 obtain⟨a,vs,g,f,p⟩:=h;obtain⟨b,F,x,k2,o⟩:=k;subst g x;cases r;cases t;obtain⟨its,m,hl⟩:=jO ok f;obtain⟨its2,c,d⟩:=jO ok k2;have q:=RcAt.tuples (A:=A) hl d (by omega) (e:=λj=>eqD (ds.getD j .non) (es.getD j .non)) λj g f=>yP z B p o m c (A:=A.in1) (by rw[eJ];omega) j g f;have E:its.toArray.size=ds.length:=by rw[ag,←m.length,p.length]
 have C:its2.toArray.size=es.length:=by rw[ag,←c.length,o.length]
 rw[E,C,←hV]at q;exact q
theorem MC (ok:gX P w H s.heap){n:Nat}(F:sV s H n){ds es:List D}{A:Around}{v m:V}{u o:Value}(G:depDs ds<n)(h:aZ H (.lst ds) v)(k:aZ H (.lst es) m)(r:aY v u)(C:aY m o)(J:A.units+depDs ds+1<cLine):RcAt A s u o (eqD (.lst ds) (.lst es)):=by
 obtain⟨a,vs,g,f,x⟩:=h;obtain⟨b,I,E,k2,t⟩:=k;subst g E;cases r;cases C;obtain⟨its,p,hl⟩:=gE ok f;obtain⟨its2,c,d⟩:=gE ok k2;have l:its.toArray.size=ds.length:=by rw[ag,←p.length,x.length]
 have B:its2.toArray.size=es.length:=by rw[ag,←c.length,t.length]
 by_cases hz:its.toArray.size=its2.toArray.size
 ·have q:=RcAt.lists (A:=A) hl d hz (by omega) (e:=λj=>eqD (ds.getD j .non) (es.getD j .non)) λj g f=>yP F G x t p c (A:=A.in1) (by rw[eJ];omega) j g f;have z:ds.length=es.length:=by rw[←l,←B];exact hz
  have i:eqD (.lst ds) (.lst es)=(List.range its.toArray.size).all λj=>eqD (ds.getD j .non) (es.getD j .non):=by rw[eqD,hV,z,Nat.min_self,l,z,beq_self_eq_true,Bool.and_true]
  rw[i];exact q
 ·have q:=RcAt.lists_lengths (A:=A) hl d (bne_iff_ne.mpr hz) (by omega);have i:eqD (.lst ds) (.lst es)=false:=by rw[eqD,hV];have:(ds.length == es.length)=false:=cz.mpr (by rw[←l,←B];exact hz);rw[this,Bool.and_false]
  rw[i];exact q
inductive Kd (s:Shared):D->Value->Prop
 | non:Kd s .non .none
 | bl (b:Bool):Kd s (.bl b) (.bool b)
 | int (i:Int) (t:Tok):Kd s (.int i) (.int i t)
 | str (x:Str) (t:Tok):Kd s (.str x) (.str x t)
 | tup {ds:List D} {a:Addr} {its:cA}:s.heap.IsTuple a its.toArray->Kd s (.tup ds) (.ref a)
 | lst {ds:List D} {a:Addr} {its:cA}:s.heap.IsList a its.toArray->Kd s (.lst ds) (.ref a)
theorem EM (ok:gX P w H s.heap):∀{d:D} {v:V} {u:Value},aZ H d v->aY v u->Kd s d u
 | .non,_,_,h,r=>by cases h;cases r;exact .non
 | .bl b,_,_,h,r=>by cases h;cases r;exact .bl b
 | .int i,_,_,h,r=>by cases h;obtain⟨t,rfl⟩:=r;exact .int i t
 | .str x,_,_,h,r=>by cases h;obtain⟨t,rfl⟩:=r;exact .str x t
 | .tup _,_,_,⟨_,_,e,h,_⟩,r=>by subst e;cases r;obtain⟨_,_,hl⟩:=jO ok h;exact .tup hl
 | .lst _,_,_,⟨_,_,e,h,_⟩,r=>by subst e;cases r;obtain⟨_,_,hl⟩:=gE ok h;exact .lst hl
theorem MD {A:Around}{d e:D}{u g:Value}(a:A.units<cLine)(h:Kd s d u)(k:Kd s e g)(n1:∀xs f,d = .tup xs->e≠.tup f)(n2:∀xs f,d = .lst xs->e≠.lst f):RcAt A s u g (eqD d e):=by
 cases h with
 | non=>cases k with
  | non=>exact RcAt.none_none
  | bl c=>exact RcAt.none_bool c
  | int c t=>exact RcAt.none_int c t
  | str c t=>exact RcAt.none_str c t
  | tup l=>exact RcAt.none_tuple l a
  | lst l=>exact RcAt.none_list l a
 | bl x=>cases k with
  | non=>exact RcAt.bool_none x
  | bl c=>exact RcAt.bool_bool x c
  | int c t=>exact RcAt.bool_int x c t
  | str c t=>exact RcAt.bool_str x c t
  | tup l=>exact RcAt.bool_tuple x l a
  | lst l=>exact RcAt.bool_list x l a
 | int x b=>cases k with
  | non=>exact RcAt.int_none x b
  | bl c=>exact RcAt.int_bool x b c
  | int c t=>exact RcAt.int_int x b c t
  | str c t=>exact RcAt.int_str x b c t
  | tup l=>exact RcAt.int_tuple x b l a
  | lst l=>exact RcAt.int_list x b l a
 | str x b=>cases k with
  | non=>exact RcAt.str_none x b
  | bl c=>exact RcAt.str_bool x b c
  | int c t=>exact RcAt.str_int x b c t
  | str c t=>exact RcAt.str_str x b c t
  | tup l=>exact RcAt.str_tuple x b l a
  | lst l=>exact RcAt.str_list x b l a
 | tup m=>cases k with
  | non=>exact RcAt.tuple_none m a
  | bl c=>exact RcAt.tuple_bool c m a
  | int c t=>exact RcAt.tuple_int c t m a
  | str c t=>exact RcAt.tuple_str c t m a
  | tup l=>exact absurd rfl (n1 _ _ rfl)
  | lst l=>exact RcAt.tuple_list m l a
 | lst m=>cases k with
  | non=>exact RcAt.list_none m a
  | bl c=>exact RcAt.list_bool c m a
  | int c t=>exact RcAt.list_int c t m a
  | str c t=>exact RcAt.list_str c t m a
  | tup l=>exact RcAt.list_tuple m l a
  | lst l=>exact absurd rfl (n2 _ _ rfl)
theorem pF (ok:gX P w H s.heap):∀n,sV s H n
 | 0=>λ_ _ _ _ _ _ _ h=>absurd h (Nat.not_lt_zero _)
 | n+1=>λd e A v o u p c h k r f b=>by
  have m:A.units<cLine:=aj (Nat.le_add_right _ _) b;by_cases l:∃xs a,d = .tup xs/\e = .tup a
  ·obtain⟨xs,a,rfl,rfl⟩:=l;rw[depD]at b c;exact MB ok (pF ok n) (Nat.lt_of_succ_lt_succ c) h k r f b
  ·by_cases j:∃xs a,d = .lst xs/\e = .lst a
   ·obtain⟨xs,a,rfl,rfl⟩:=j;rw[depD]at b c;exact MC ok (pF ok n) (Nat.lt_of_succ_lt_succ c) h k r f b
   ·exact MD m (EM ok h r) (EM ok k f) (λxs a i g=>l ⟨xs,a,i,g⟩) (λxs a i g=>j ⟨xs,a,i,g⟩)
theorem rcAtD (ok:gX P w H s.heap)(d e:D)(A:Around)(v a:V)(u b:Value)(h:aZ H d v)(k:aZ H e a)(r:aY v u)(c:aY a b)(f:A.units+depD d<cLine):RcAt A s u b (eqD d e):=pF ok _ d e A v a u b (Nat.lt_succ_self _) h k r c f
theorem eqAtD (ok:gX P w H s.heap)(d e:D)(A:Around)(v a:V)(u b:Value)(h:aZ H d v)(k:aZ H e a)(r:aY v u)(c:aY a b)(f:A.units+depD d<cLine):EqAt A s u b (eqD d e):=EY h k r c (rcAtD ok d e A v a u b h k r c f)
end
section
variable {X:Cx}
def rEqD:R2:=λx y H Q=>∃d e,aZ H d x/\aZ H e y/\depD d<=60/\Q (.bl (eqD d e)) H
def rNeD:R2:=λx y H Q=>∃d e,aZ H d x/\aZ H e y/\depD d<=60/\Q (.bl (!eqD d e)) H
theorem dQ (g:X.A.units+64<cLine):iQ X (compareOp .Eq) rEqD:=by intro a s σ H x y v u Q I c b h;obtain⟨d,e,hd,f,hz,q⟩:=h;exact rcAtD I.hok d e X.A x y v u hd f c b (by omega) X.prog X.w X.xe _ ⟨.bl _,H,I,rfl,q⟩
end
section
variable {P:Program}{w:World}{H:Hp}{s:Shared}
theorem L6 (ok:gX P w H s.heap){ds es:List D}{A:Around}{v i:V}{u l:Value}(h:aZ H (.tup ds) v)(k:aZ H (.tup es) i)(r:aY v u)(t:aY i l)(E:A.units+depDs ds+1<cLine):RcNeAt A s u l (!eqD (.tup ds) (.tup es)):=by
 obtain⟨a,vs,g,f,p⟩:=h;obtain⟨b,C,x,k2,o⟩:=k;subst g x;cases r;cases t;obtain⟨its,m,hl⟩:=jO ok f;obtain⟨its2,c,d⟩:=jO ok k2;have q:=RcNeAt.tuples (A:=A) hl d (by omega) (e:=λj=>eqD (ds.getD j .non) (es.getD j .non)) λj g f=>yP (pF ok _) (Nat.lt_succ_self _) p o m c (A:=A.in1) (by rw[eJ];omega) j g f;have B:its.toArray.size=ds.length:=by rw[ag,←m.length,p.length]
 have z:its2.toArray.size=es.length:=by rw[ag,←c.length,o.length]
 rw[B,z,←hV]at q;exact q
theorem L7 (ok:gX P w H s.heap){ds es:List D}{A:Around}{v m:V}{u o:Value}(h:aZ H (.lst ds) v)(k:aZ H (.lst es) m)(r:aY v u)(C:aY m o)(G:A.units+depDs ds+1<cLine):RcNeAt A s u o (!eqD (.lst ds) (.lst es)):=by
 obtain⟨a,vs,g,f,x⟩:=h;obtain⟨b,F,E,k2,t⟩:=k;subst g E;cases r;cases C;obtain⟨its,p,hl⟩:=gE ok f;obtain⟨its2,c,d⟩:=gE ok k2;have l:its.toArray.size=ds.length:=by rw[ag,←p.length,x.length]
 have B:its2.toArray.size=es.length:=by rw[ag,←c.length,t.length]
 by_cases hz:its.toArray.size=its2.toArray.size
 ·have q:=RcNeAt.lists (A:=A) hl d hz (by omega) (e:=λj=>eqD (ds.getD j .non) (es.getD j .non)) λj g f=>yP (pF ok _) (Nat.lt_succ_self _) x t p c (A:=A.in1) (by rw[eJ];omega) j g f;have z:ds.length=es.length:=by rw[←l,←B];exact hz
  have i:eqD (.lst ds) (.lst es)=(List.range its.toArray.size).all λj=>eqD (ds.getD j .non) (es.getD j .non):=by rw[eqD,hV,z,Nat.min_self,l,z,beq_self_eq_true,Bool.and_true]
  rw[i];exact q
 ·have q:=RcNeAt.lists_lengths (A:=A) hl d (bne_iff_ne.mpr hz) (by omega);have i:eqD (.lst ds) (.lst es)=false:=by rw[eqD,hV];have:(ds.length == es.length)=false:=cz.mpr (by rw[←l,←B];exact hz);rw[this,Bool.and_false]
  rw[i];exact q
theorem MA {A:Around}{d e:D}{u g:Value}(a:A.units<cLine)(h:Kd s d u)(k:Kd s e g)(n1:∀xs f,d = .tup xs->e≠.tup f)(n2:∀xs f,d = .lst xs->e≠.lst f):RcNeAt A s u g (!eqD d e):=by
 cases h with
 | non=>cases k with
  | non=>exact RcNeAt.none_none
  | bl c=>exact RcNeAt.none_bool c
  | int c t=>exact RcNeAt.none_int c t
  | str c t=>exact RcNeAt.none_str c t
  | tup l=>exact RcNeAt.none_tuple l a
  | lst l=>exact RcNeAt.none_list l a
 | bl x=>cases k with
  | non=>exact RcNeAt.bool_none x
  | bl c=>exact RcNeAt.bool_bool x c
  | int c t=>exact RcNeAt.bool_int x c t
  | str c t=>exact RcNeAt.bool_str x c t
  | tup l=>exact RcNeAt.bool_tuple x l a
  | lst l=>exact RcNeAt.bool_list x l a
 | int x b=>cases k with
  | non=>exact RcNeAt.int_none x b
  | bl c=>exact RcNeAt.int_bool x b c
  | int c t=>exact RcNeAt.int_int x b c t
  | str c t=>exact RcNeAt.int_str x b c t
  | tup l=>exact RcNeAt.int_tuple x b l a
  | lst l=>exact RcNeAt.int_list x b l a
 | str x b=>cases k with
  | non=>exact RcNeAt.str_none x b
  | bl c=>exact RcNeAt.str_bool x b c
  | int c t=>exact RcNeAt.str_int x b c t
  | str c t=>exact RcNeAt.str_str x b c t
  | tup l=>exact RcNeAt.str_tuple x b l a
  | lst l=>exact RcNeAt.str_list x b l a
 | tup m=>cases k with
  | non=>exact RcNeAt.tuple_none m a
  | bl c=>exact RcNeAt.tuple_bool c m a
  | int c t=>exact RcNeAt.tuple_int c t m a
  | str c t=>exact RcNeAt.tuple_str c t m a
  | tup l=>exact absurd rfl (n1 _ _ rfl)
  | lst l=>exact RcNeAt.tuple_list m l a
 | lst m=>cases k with
  | non=>exact RcNeAt.list_none m a
  | bl c=>exact RcNeAt.list_bool c m a
  | int c t=>exact RcNeAt.list_int c t m a
  | str c t=>exact RcNeAt.list_str c t m a
  | tup l=>exact RcNeAt.list_tuple m l a
  | lst l=>exact absurd rfl (n2 _ _ rfl)
theorem ME (ok:gX P w H s.heap)(d e:D)(A:Around)(v i:V)(u j:Value)(h:aZ H d v)(k:aZ H e i)(r:aY v u)(c:aY i j)(b:A.units+depD d<cLine):RcNeAt A s u j (!eqD d e):=by
 have o:A.units<cLine:=aj (Nat.le_add_right _ _) b;by_cases m:∃xs a,d = .tup xs/\e = .tup a
 ·obtain⟨xs,a,rfl,rfl⟩:=m;rw[depD]at b;exact L6 ok h k r c b
 ·by_cases l:∃xs a,d = .lst xs/\e = .lst a
  ·obtain⟨xs,a,rfl,rfl⟩:=l;rw[depD]at b;exact L7 ok h k r c b
  ·exact MA o (EM ok h r) (EM ok k c) (λxs a g f=>m ⟨xs,a,g,f⟩) (λxs a g f=>l ⟨xs,a,g,f⟩)
end
section
variable {X:Cx}
theorem oE (g:X.A.units+64<cLine):iQ X (compareOp .NotEq) rNeD:=by intro a s σ H x y v u Q I c b h;obtain⟨d,e,hd,f,hz,q⟩:=h;exact ME I.hok d e X.A x y v u hd f c b (by omega) X.prog X.w X.xe _ ⟨.bl _,H,I,rfl,q⟩
noncomputable def inD (d:D)(ds:List D):Bool:=ds.any λe=>eqD e d
def rInD (a:Bool):R2:=λx y H Q=>∃d ds,aZ H d x/\(aZ H (.lst ds) y∨aZ H (.tup ds) y)/\depDs ds<=60/\Q (.bl (if a then !inD d ds else inD d ds)) H
open Classical in
noncomputable def datOf (H:Hp)(y:Value):D:=if h:∃d v,absV y=some v/\aZ H d v then h.choose else .non
theorem K4 {H:Hp}{d:D}{v:V}{y:Value}(r:aY v y)(h:aZ H d v):datOf H y=d:=by
 have e:∃d v,absV y=some v/\aZ H d v:=⟨d,v,r.abs,h⟩
 unfold datOf;rw[dif_pos e];obtain⟨c,a,b⟩:=e.choose_spec;rw[r.abs]at a;cases a;exact aZ.inj b h
theorem uB {P:Program}{w:World}{H:Hp}{s:Shared}(ok:gX P w H s.heap){A:Around}{d:D}{v:V}{u:Value}(h:aZ H d v)(r:aY v u):∀(ds:List D) (vs:List V) (us:cA),Reps H ds vs->aW vs us->A.units+depDs ds<cLine ->
  (∀y∈us,EqAt A s y u (eqD (datOf H y) d))/\us.any (λy=>eqD (datOf H y) d)=inD d ds
 | [],vs,us,a,r1,_=>by cases a;cases r1;exact⟨by simp,rfl⟩
 | e::ds,vs,us,a,r1,q=>by
  obtain⟨g,f,o,b,m⟩:=a;subst o;rw[depDs]at q;cases r1 with
  | @cons _ j _ i r1 l =>
   obtain⟨x,t⟩:=uB ok (A:=A) h r ds f i m l (by omega);have hd:=eqAtD ok e d A g v j u b h r1 r (by omega);have c:=K4 r1 b;refine⟨λy p=>?_,?_⟩
   ·rcases cu.mp p with z|z
    ·subst z;rw[c];exact hd
    ·exact x y z
   ·rw[List.any_cons,c,t];rfl
theorem SB (t:X.A.units+64<cLine):iQ X (compareOp .In) (λx y H Q=>rInD false x y H Q∨∃i j,x = .str i/\y = .str j/\Q (.bl (!(Builtin.Str.occurrences j i 0 j.length 1).isEmpty)) H):=by
 refine iQ.or ?_ qO;intro r s σ H x y v u Q I p o h;obtain⟨d,ds,hd,b,hz,q⟩:=h;have q:Q (.bl (inD d ds)) H:=q;rcases b with⟨a,vs,e,g,f⟩|⟨a,vs,e,g,f⟩
 ·subst e;cases o;obtain⟨its,c,hl⟩:=gE I.hok g;obtain⟨m,l⟩:=uB I.hok (A:=X.A.in1) hd p ds vs its f c (by rw[eJ];omega);refine in_listAt (λy=>eqD (datOf H y) d) hl (λy b=>m y (by simpa using b)) ?_;refine⟨.bl (inD d ds),H,I,?_,q⟩;show _=Value.bool _;rw[←l];simp
 ·subst e;cases o;obtain⟨its,c,hl⟩:=jO I.hok g;obtain⟨m,l⟩:=uB I.hok (A:=X.A.in1) hd p ds vs its f c (by rw[eJ];omega);refine in_tupleAt (λy=>eqD (datOf H y) d) hl (λy b=>m y (by simpa using b)) ?_;refine⟨.bl (inD d ds),H,I,?_,q⟩;show _=Value.bool _;rw[←l];simp
theorem F1 (t:X.A.units+64<cLine):iQ X (compareOp .NotIn) (λx y H Q=>rInD true x y H Q∨∃i j,x = .str i/\y = .str j/\Q (.bl (!(!(Builtin.Str.occurrences j i 0 j.length 1).isEmpty))) H):=by
 refine iQ.or ?_ xX;intro r s σ H x y v u Q I p o h;obtain⟨d,ds,hd,b,hz,q⟩:=h;have q:Q (.bl (!inD d ds)) H:=q;rcases b with⟨a,vs,e,g,f⟩|⟨a,vs,e,g,f⟩
 ·subst e;cases o;obtain⟨its,c,hl⟩:=gE I.hok g;obtain⟨m,l⟩:=uB I.hok (A:=X.A.in1) hd p ds vs its f c (by rw[eJ];omega);refine notIn_listAt (λy=>eqD (datOf H y) d) hl (λy b=>m y (by simpa using b)) ?_;refine⟨.bl (!inD d ds),H,I,?_,q⟩;show _=Value.bool _;rw[←l];simp
 ·subst e;cases o;obtain⟨its,c,hl⟩:=jO I.hok g;obtain⟨m,l⟩:=uB I.hok (A:=X.A.in1) hd p ds vs its f c (by rw[eJ];omega);refine notIn_tupleAt (λy=>eqD (datOf H y) d) hl (λy b=>m y (by simpa using b)) ?_;refine⟨.bl (!inD d ds),H,I,?_,q⟩;show _=Value.bool _;rw[←l];simp
end
end L2
namespace L2
open PySem PySem.Spec PyProof.Rows
section
variable {X:Cx}{pins:c9}{σ:St}{H:Hp}{s:Shared}
noncomputable def tyN (H:Hp):V->Option String
 | .non=>some "NoneType"
 | .bl _=>some "bool"
 | .int _=>some "int"
 | .str _=>some "str"
 | .ref p=>match H p with
  | some (.lst _)=>some "list"
  | some (.tup _)=>some "tuple"
  | some (.dK _)=>some "dict"
  | _=>none
 | _=>none
noncomputable def okT (c:String):Bool:=c == "str" || c == "int" || c == "bool" || c == "list" || c == "tuple" || c == "dict"
noncomputable def subT (t c:String):Bool:=t == c || (t == "bool" && c == "int")
noncomputable def tysV:List V->Option (List String)
 | []=>some []
 | .ty n::r=>(tysV r).map (n :: ·)
 | _::_=>none
noncomputable def clsV (H:Hp):V->Option (List String)
 | .ty n=>some [n]
 | .ref p=>match H p with
  | some (.tup vs)=>tysV vs
  | _=>none
 | _=>none
noncomputable def isV (H:Hp)(x c:V):Option Bool:=match tyN H x,clsV H c with
 | some t,some a=>if a.all okT then some (a.any (subT t))else none
 | _,_=>none
theorem RV {x:V}{u:Value}{t:String}(I:aO X pins σ H s)(a:aY x u)(e:tyN H x=some t) :
  ∃HH:Heap->Prop,PySem.W.KitX X.K u (.type t) HH/\HH s.heap/\u≠.builtin "__main__.__loader__#opaque":=by
 cases x with
 | non=>cases e;cases a;exact⟨_,PySem.W.kitx_none,True.intro,λz=>nomatch z⟩
 | bl b=>cases e;cases a;exact⟨_,PySem.W.kitx_bool,True.intro,λz=>nomatch z⟩
 | int i=>cases e;obtain⟨t,rfl⟩:=a;exact⟨_,PySem.W.kitx_int,True.intro,λz=>nomatch z⟩
 | str i=>cases e;obtain⟨t,rfl⟩:=a;exact⟨_,PySem.W.kitx_str,True.intro,λz=>nomatch z⟩
 | ref p =>
  cases a;unfold tyN at e;dsimp only at e;split at e
  ·rename_i xs c;cases e;obtain⟨_,_,n,_,d⟩:=(show cK X.prog X.w H s.heap p (.lst xs)from I.hok p _ c)
   exact⟨_,PySem.W.kitx_list,⟨_,d,rfl⟩,λz=>nomatch z⟩
  ·rename_i xs c;cases e;obtain⟨_,_,_,o,d,g,_⟩:=(show cK X.prog X.w H s.heap p (.tup xs)from I.hok p _ c)
   exact⟨_,PySem.W.kitx_tuple,⟨o,d,g⟩,λz=>nomatch z⟩
  ·rename_i f c;cases e;obtain⟨_,_,vs,_,o,es,h,d,g,_⟩:=(show cK X.prog X.w H s.heap p (.dK f)from I.hok p _ c)
   exact⟨_,PySem.W.kitx_dict,⟨o,d,g.1⟩,λz=>nomatch z⟩
  ·cases e
 | _=>cases e
theorem OT {x:V}{t:String}(e:tyN H x=some t):t="NoneType"∨t="bool"∨t="int"∨t="str"∨t="list"∨t="tuple"∨t="dict":=by
 cases x with
 | non=>cases e;simp
 | bl b=>cases e;simp
 | int i=>cases e;simp
 | str i=>cases e;simp
 | ref p =>
  unfold tyN at e;dsimp only at e;split at e <;> cases e <;> simp
 | _=>cases e
theorem P9 {c:String}(e:okT c=true):c="str"∨c="int"∨c="bool"∨c="list"∨c="tuple"∨c="dict":=by simp only[okT,Bool.or_eq_true,beq_iff_eq]at e;rcases e with((((e|e)|e)|e)|e)|e <;> simp[e]
theorem EJ {K:PySem.W.Frag}{x:V}{t c:String}(e:tyN H x=some t)(a:okT c=true):PySem.W.kitOne K (.type t) (.type c)=some (subT t c):=by rcases OT e with rfl|rfl|rfl|rfl|rfl|rfl|rfl <;> rcases P9 a with rfl|rfl|rfl|rfl|rfl|rfl <;> with_unfolding_all rfl
theorem EK {K:PySem.W.Frag}{x:V}{t:String}(e:tyN H x=some t):∀{a:List String},a.all okT=true->PySem.W.kitAny K (.type t) (a.map Value.type)=some (a.any (subT t))
 | [],_=>rfl
 | c::r,h=>by
  replace h:=Bool.and_eq_true_iff.mp (List.all_cons ▸ h)
  rw[bd];unfold PySem.W.kitAny;rw[EJ e h.1];cases q:subT t c with
  | true=>simp[q]
  | false=>simp only[List.any_cons,q,Bool.false_or];exact EK e h.2
theorem vN:∀{vs:List V} {a:List String} {us:cA},tysV vs=some a->aW vs us->us=a.map Value.type
 | [],a,us,h,r=>by cases h;cases r;rfl
 | .ty n::vs,a,us,h,r=>by
  unfold tysV at h;cases e:tysV vs with
  | none=>rw[e]at h;cases h
  | some c =>
   rw[e]at h;cases h;cases r with
   | cons r1 b =>
    cases r1;rw[bd,vN e b]
 | .non::_,_,_,h,_=>by cases h
 | .bl _::_,_,_,h,_=>by cases h
 | .int _::_,_,_,h,_=>by cases h
 | .str _::_,_,_,h,_=>by cases h
 | .byt _::_,_,_,h,_=>by cases h
 | .flt _::_,_,_,h,_=>by cases h
 | .ref _::_,_,_,h,_=>by cases h
def rIs:List V->Hp->VK->Prop:=λxs H Q=>∃x c b,xs=[x,c]/\isV H x c=some b/\Q (.bl b) H
theorem aK:dR X (.builtin "isinstance") rIs:=by
 intro d s σ H xs us Q I r h;obtain⟨x,c,b,rfl,e,q⟩:=h;cases r with
 | cons u A =>
  cases A with
  | cons l z =>
   cases z;unfold isV at e;split at e
   ·rename_i t G j a;split at e
    ·rename_i g;cases e;obtain⟨HH,Z,m,f⟩:=RV I u j;have fin:∀tk,EP X d σ Q (.bool (G.any (subT t))) {s with toks:=tk}:=λtk=>⟨.bl _,H,I.tok tk,rfl,q⟩
     cases c with
     | ty n =>
      cases l;cases a;have i:okT n=true:=by simpa using g
      refine PySem.W.kia_one Z I.kIn m (EJ j i) f ?_;intro tk;have:=fin tk
      simpa using this
     | ref p =>
      cases l;unfold clsV at a;dsimp only at a;split at a
      ·rename_i vs B;obtain⟨_,its,v,o,i,E,n,C⟩:=(show cK X.prog X.w H s.heap p (.tup vs)from I.hok p _ B)
       obtain⟨cl,L,K,J⟩:=o;cases E;cases C;have F:=vN a v;subst F;exact PySem.W.kia_tup Z I.kIn m i (EK j g) f fin
      ·cases a
     | _=>cases a
    ·cases e
   ·cases e
noncomputable def seqV (H:Hp):V->Option (List V)
 | .ref p=>match H p with
  | some (.lst xs)=>some xs
  | some (.tup xs)=>some xs
  | _=>none
 | _=>none
theorem oK:dR X (.type "list") (λxs H Q=>∃x a,xs=[x]/\seqV H x=some a/\∀l,H l=none->Q (.ref l) (upd H l (.lst a))):=by
 refine yS.imp λxs H Q h=>?_;obtain⟨x,a,rfl,e,q⟩:=h;cases x with
 | ref p =>
  unfold seqV at e;dsimp only at e;split at e
  ·rename_i c b;cases e;exact⟨p,_,rfl,.inl (dN.of b),q⟩
  ·rename_i c b;cases e;exact⟨p,_,rfl,.inr (gF.of b),q⟩
  ·cases e
 | _=>cases e
def rSlF:V->Option Int->Option Int->Hp->VK->Prop:=λx b c H Q=>∃a,x = .ref a /\
 ((∃xs,H a=some (.lst xs)/\∀p,H p=none->Q (.ref p) (upd H p (.lst (cutV xs b c)))) ∨
  (∃xs,H a=some (.tup xs)/\¬(HT.sIx xs.length 0 b=0/\HT.sIx xs.length xs.length c=xs.length)/\∀p,H p=none->Q (.ref p) (upd H p (.tup (cutV xs b c)))))
end
def sD (J:It)(g:TG)(d:TS)(D:hZ)(σ:St)(f:Hp):Prop:=∃W:Nat->Nat->St->Hp->Prop,(∃m,W 0 m σ f)/\∀i m σ H,W i m σ H ->
 (J.stop i H/\D.nx σ H)∨(J.go i H/\∃N:St->Hp->Prop,(∀a H',N a H'->∃b,b<m/\W (i+1) b a H')/\∀x H',J.yld i H x H'->g x σ H' λc e=>d {D with nx:=N,ct:=N,bk:=D.nx} c e)
theorem tFor_eq {a:TI}{g:TG}{b:TS}{D:hZ}{σ:St}{H:Hp}:tFor a g b D σ H=a σ H λJ c=>sD J g b D σ c:=rfl
def n5 (J:It)(g:TG)(b:TT)(c:TE)(Q:VK)(σ:St)(d:Hp):Prop:=∃W:CW,(∃m,W 0 m [] σ d)/\OO J g b c (λa H=>∀p,H p=none->Q (.ref p) (upd H p (.lst a))) W
theorem tComp_eq {src:List (Option Nat)}{a:TI}{g:TG}{b:TT}{c:TE}{σ:St}{H:Hp}{Q:VK}:tComp src a g b c σ H Q=a σ H λJ d=>n5 J g b c Q (stC src σ) d:=rfl
section
variable {X:Cx}{tg:Expr}
def iAny (K:PySem.W.Frag)(tl:TE):TI:=λσ H R=>tl σ H λx b=>∃a,x = .ref a/\((∃xs,b a=some (.lst xs)/\R (OL K a) b)∨(∃xs,b a=some (.tup xs)/\R (OK K a) b))
end
section
variable {g:TG}{tb:TS}{D:hZ}{σ:St}{H:Hp}{tt:TT}{te:TE}{Q:VK}{K:PySem.W.Frag}
theorem oJ {a:Int}{n:Nat}(Pv:Nat->St->Hp->Prop)(d:Pv 0 σ H)
  (c:∀i σ H,i<n->Pv i σ H->g (.int (a+i)) σ H λb e=>tb {D with nx:=Pv (i+1),ct:=Pv (i+1),bk:=D.nx} b e) (hd:∀σ H,Pv n σ H->D.nx σ H):sD (N7 a n) g tb D σ H:=GR Pv d c hd
theorem GS {a:Addr}(xs:List V)(Pv:Nat->St->Hp->Prop)(e:Pv 0 σ H)(hl:∀i σ H,i<=xs.length->Pv i σ H->H a=some (.lst xs))
  (c:∀i x σ H,xs[i]?=some x->Pv i σ H->g x σ H λb f=>tb {D with nx:=Pv (i+1),ct:=Pv (i+1),bk:=D.nx} b f) (hd:∀σ H,Pv xs.length σ H->D.nx σ H):sD (OL K a) g tb D σ H :=
 KG Pv e (λi σ H d p=>dN.of (hl i σ H d p)) c hd
theorem KH {a:Addr}(xs:List V)(Pv:Nat->St->Hp->Prop)(e:Pv 0 σ H)(hl:∀i σ H,i<=xs.length->Pv i σ H->H a=some (.tup xs))
  (c:∀i x σ H,xs[i]?=some x->Pv i σ H->g x σ H λb f=>tb {D with nx:=Pv (i+1),ct:=Pv (i+1),bk:=D.nx} b f) (hd:∀σ H,Pv xs.length σ H->D.nx σ H):sD (OK K a) g tb D σ H :=
 NQ Pv e (λi σ H d p=>gF.of (hl i σ H d p)) c hd
def CStep (g:TG)(e:TT)(f:TE)(x:V)(a:List V)(σ:St)(H:Hp)(N:List V->St->Hp->Prop):Prop :=
 g x σ H λc i=>e c i λb d=>if b=true then f c d λy h=>a.length<sizeLine/\N (a++[y]) c h else N a c d
theorem kA {J:It}{n:Nat}(Pv:Nat->List V->St->Hp->Prop)(j:Pv 0 [] σ H)
  (h:∀i c σ H,i<n->Pv i c σ H->J.go i H/\∀x H',J.yld i H x H'->CStep g tt te x c σ H' (Pv (i+1)))
  (hd:∀c σ H,Pv n c σ H->J.stop n H/\∀p,H p=none->Q (.ref p) (upd H p (.lst c))):n5 J g tt te Q σ H:=by
 refine⟨λi m c σ H=>m=n - i/\i<=n/\Pv i c σ H,⟨n,by simp,au _,j⟩,?_⟩;rintro i m c σ H ⟨rfl,l,p⟩;by_cases d:i<n
 ·obtain⟨go,step⟩:=h i c σ H d p;refine .inr ⟨go,λx H' y=>?_⟩;have e:∀c σ H,(∃f,f<n - i/\f=n - (i+1)/\i+1<=n/\Pv (i+1) c σ H)=Pv (i+1) c σ H:=λc σ H=>propext ⟨λ⟨_,_,_,_,q⟩=>q,λq=>⟨n - (i+1),by omega,rfl,d,q⟩⟩;simp only[e];exact step x H' y
 ·have e:i=n:=by omega
  subst e;obtain⟨a,b⟩:=hd c σ H p;exact .inl ⟨a,b⟩
theorem mP {b:Int}{n:Nat}(Pv:Nat->List V->St->Hp->Prop)(e:Pv 0 [] σ H)(d:∀i a σ H,i<n->Pv i a σ H->CStep g tt te (.int (b+i)) a σ H (Pv (i+1)))
  (hd:∀a σ H,Pv n a σ H->∀p,H p=none->Q (.ref p) (upd H p (.lst a))):n5 (N7 b n) g tt te Q σ H :=
 kA Pv e (λi a σ H c p=>⟨c,λx H' y=>by obtain⟨rfl,rfl⟩:=y;exact d i a σ _ c p⟩) λa σ H p=>⟨ac _,hd a σ H p⟩
theorem CZ {a:Addr}(xs:List V)(Pv:Nat->List V->St->Hp->Prop)(e:Pv 0 [] σ H)(hl:∀i b σ H,i<=xs.length->Pv i b σ H->H a=some (.lst xs))
  (d:∀i x b σ H,xs[i]?=some x->Pv i b σ H->CStep g tt te x b σ H (Pv (i+1))) (hd:∀b σ H,Pv xs.length b σ H->∀p,H p=none->Q (.ref p) (upd H p (.lst b))):n5 (OL K a) g tt te Q σ H :=
 kA (n:=xs.length) Pv e (λi b σ H c p=>⟨⟨xs,xs[i],dN.of (hl i b σ H (Nat.le_of_lt c) p),by simp[c]⟩,λx H' y=>by obtain⟨rfl,y⟩:=y;exact d i x b σ _ (y xs (dN.of (hl i b σ _ (Nat.le_of_lt c) p))) p⟩)
  λb σ H p=>⟨⟨xs,dN.of (hl _ b σ H (ac _) p),ac _⟩,hd b σ H p⟩
theorem G0 {a:Addr}(xs:List V)(Pv:Nat->List V->St->Hp->Prop)(e:Pv 0 [] σ H)(hl:∀i b σ H,i<=xs.length->Pv i b σ H->H a=some (.tup xs))
  (d:∀i x b σ H,xs[i]?=some x->Pv i b σ H->CStep g tt te x b σ H (Pv (i+1))) (hd:∀b σ H,Pv xs.length b σ H->∀p,H p=none->Q (.ref p) (upd H p (.lst b))):n5 (OK K a) g tt te Q σ H :=
 kA (n:=xs.length) Pv e (λi b σ H c p=>⟨⟨xs,xs[i],gF.of (hl i b σ H (Nat.le_of_lt c) p),by simp[c]⟩,λx H' y=>by obtain⟨rfl,y⟩:=y;exact d i x b σ _ (y xs (gF.of (hl i b σ _ (Nat.le_of_lt c) p))) p⟩)
  λb σ H p=>⟨⟨xs,gF.of (hl _ b σ H (ac _) p),ac _⟩,hd b σ H p⟩
theorem yI {n:Nat}{i:Int}(b:0<=i)(a:i<n):ixN n i=some i.toNat:=by unfold ixN;rw[ai b,ai a]
theorem uK {α:Type}{xs:List α}{i:Int}(b:0<=i)(a:i<xs.length):atI xs i=xs[i.toNat]?:=by unfold atI;rw[yI b a];rfl
theorem atI_zero {α:Type}{a:α}{xs:List α}:atI (a::xs) 0=some a:=by rw[uK (by decide) (by simp only[ap];omega)];rfl
theorem atI_one {α:Type}{a b:α}{xs:List α}:atI (a::b::xs) 1=some b:=by rw[uK (by decide) (by simp only[ap];omega)];rfl
theorem ixN_zero {n:Nat}:ixN (n+1) 0=some 0:=by rw[yI (by decide) (by omega)];rfl
theorem ixN_one {n:Nat}:ixN (n+1+1) 1=some 1:=by rw[yI (by decide) (by omega)];rfl
theorem A7 {α:Type}{xs:List α}{a:α}:atI (xs++[a]) (-1)=some a:=LB xs a
end
theorem aD.upd {H:Hp}{a:Addr}{o:HO}(h:H a=none):aD H (upd H a o):=λb u e=>by rw[aE (aG e h)];exact e
def cG (p:Addr)(H H':Hp):Prop:=∀b o,b≠p->H b=some o->H' b=some o
theorem cG.refl (p:Addr)(H:Hp):cG p H H:=λ_ _ _ h=>h
theorem cG.trans {p:Addr}{H e d:Hp}(a:cG p H e)(b:cG p e d):cG p H d:=λc o n h=>b c o n (a c o n h)
theorem cG.upd (p:Addr)(H:Hp)(o:HO):cG p H (upd H p o):=λc u n h=>by rw[aE n];exact h
theorem cG.new {p a:Addr}{H:Hp}{o:HO}(h:H a=none):cG p H (L2.upd H a o):=λc u n e=>by rw[aE (aG e h)];exact e
theorem aD.but {p:Addr}{H H':Hp}(s:aD H H'):cG p H H':=λb o _ h=>s b o h
end L2
namespace L2
open PySem PySem.Spec PyProof.Rows PyProof.Rows.LSm
section
variable {X:Cx}
theorem rM:∀{bs:List Bool} {us:cA},aW (bs.map V.bl) us->BoolsAre us bs
 | [],_,r=>by cases r;exact .nil
 | b::bs,_,r=>by
  cases r with
  | cons r1 a=>cases r1;exact .cons b (rM a)
theorem CL {prog:Program}{w:World}{A:Around}{E:cL}{s:Shared}{p:Addr}{its:cA}{bs:List Bool}(d:Bool){K:Bool->Shared->Prop}{a:Nat->(Nat->Bool)->Bool}(m:A.handled=none)(at_:s.heap.IsList p its.toArray)(f:BoolsAre its bs)
  (k:∀h' tk,(∀b x,s.heap.get? b=some x->h'.get? b=some x)->K (a bs.length λi=>(bs[i]?).getD d) {s with heap:=h',toks:=tk}) :
  wpAny (model prog w) A (pyIter (.ref p)) (λit t=>∃I o h n P St tr,it = .ref I/\Walks prog w A I o h n P St/\St 0 t.heap/\TruthOf prog w A P tr /\
   ∀h' tk,(∀b x,b∉h->t.heap.get? b=some x->h'.get? b=some x)->K (a n tr) {t with heap:=h',toks:=tk}) E s:=by
 have ne:p≠s.heap.objs.size:=let⟨_,e,_⟩:=id at_;bo (az e);have c:TruthOf prog w A (λi v=>its.toArray[i]?=some v) λi=>(bs[i]?).getD d:=by intro i v t Q X j g;obtain⟨b,is,rfl⟩:=LSm.BoolsAre.get f i v (by simpa using j);have g:Q ((bs[i]?).getD d) t:=g;rw[is]at g;exact wpAny_truthy_bool g
 have len:its.toArray.size=bs.length:=(ag ..).trans (LSm.BoolsAre.length f);refine wpAny_pyIter_list at_ ⟨_,_,_,_,_,_,_,rfl,Walks.list m s.heap.objs.size p ne its.toArray,?_,c,λh' tk l=>?_⟩
 ·exact aI ⟨_,ar _ rfl,rfl,rfl⟩ (at_.push _)
 ·rw[len];exact k h' tk (LSm.kept_iter l)
def rAll:List V->Hp->VK->Prop:=λxs H Q=>∃(p:Addr) (bs:List Bool),xs=[.ref p]/\H p=some (.lst (bs.map V.bl))/\Q (.bl (bs.all id)) H
def rAny:List V->Hp->VK->Prop:=λxs H Q=>∃(p:Addr) (bs:List Bool),xs=[.ref p]/\H p=some (.lst (bs.map V.bl))/\Q (.bl (bs.any id)) H
def rSum:List V->Hp->VK->Prop:=λxs H Q=>∃(p:Addr) (ns:List Int),xs=[.ref p]/\H p=some (.lst (ns.map V.int))/\Q (.int ns.sum) H
theorem uJ (m:X.calm=true){nm:String}{c:Nat->(Nat->Bool)->Bool}{a:List Bool->Bool}(d:Bool)(is:∀bs:List Bool,c bs.length (λi=>(bs[i]?).getD d)=a bs)
  (ask:∀{s:Shared} {x:Value} {Q E:cL},wpAny (model X.prog X.w) X.A.in1 (pyIter x) (λit t=>∃I o g n P St tr,it = .ref I/\Walks X.prog X.w X.A.in1 I o g n P St/\St 0 t.heap/\TruthOf X.prog X.w X.A.in1 P tr /\
   ∀h' tk,(∀b x,b∉g->t.heap.get? b=some x->h'.get? b=some x)->Q (.bool (c n tr)) {t with heap:=h',toks:=tk}) E s->wpAny (model X.prog X.w) X.A (call (.builtin nm) [x]) Q E s) :
  dR X (.builtin nm) λxs H Q=>∃(p:Addr) (bs:List Bool),xs=[.ref p]/\H p=some (.lst (bs.map V.bl))/\Q (.bl (a bs)) H:=by
 rintro f s σ H _ us Q I r ⟨p,bs,rfl,j,q⟩;obtain⟨u,rfl,e⟩:=vals1 r;cases e;obtain⟨its,h,pl,_⟩:=I.list (dN.of j);refine ask (CL (K:=λb t=>EP X f σ Q (.bool b) t) d (show X.A.in1.handled=none from I.ok.hd m) pl.isList (rM h) λh' tk l=>?_);rw[is bs];exact⟨.bl (a bs),H,I.kept (t':=tk) l,rfl,q⟩
theorem qZ (a:X.calm=true):dR X (.builtin "all") rAll:=uJ a true LSm.range_all call_all_walk
theorem G7 (a:X.calm=true):dR X (.builtin "any") rAny:=uJ a false LSm.range_any call_any_walk
theorem G1 (j:X.calm=true):dR X (.builtin "sum") rSum:=by
 intro b s σ H xs us Q I r h;obtain⟨p,ns,rfl,g,q⟩:=h;obtain⟨u,rfl,e⟩:=vals1 r;cases e;obtain⟨its,f,pl,hz⟩:=I.list (dN.of g);have d:IntsAre its ns:=kT f;obtain⟨a,c⟩:=d.allInts.items;have hl':s.heap.IsList p (intItems a):=c ▸ pl.isList;refine sum_intListG (I.ok.hd j) hl' λh' tk t' i=>?_;have m:ns=a.toList.map (·.1):=by rw[←nums_intItems,←c];exact(show numsOf its.toArray.toList=ns from d.numsOf).symm
 have l:preSum (numAt a) a.size=ns.sum:=by have all:(a.toList.map (·.1)).take a.size=a.toList.map (·.1):=List.take_of_length_le (by simp);rw[m,←all,←preSum_eq]
 rw[l];exact⟨.int ns.sum,H,I.kept (t':=tk) i,⟨t',rfl⟩,q⟩
end
end L2
namespace L2
open PySem PySem.Spec PyProof.Rows
section
variable {X:Cx}{pins:c9}{σ:St}{H:Hp}{s:Shared}{h':Heap}
theorem aO.turnedL {t':Nat}{ch:List Addr}(I:aO X pins σ H s)(k:∀b o,b∉ch->s.heap.get? b=some o->h'.get? b=some o)(f:∀b∈ch,fS X pins H b):aO X pins σ H {s with heap:=h',toks:=t'}:=by
 have d:∀b u,H b=some u->b∉ch:=λb u e z=>by rw[(f b z).1]at e;cases e
 have h:X.env.locals∉ch:=λz=>(f _ z).2.1 rfl;refine I.step (g':=s.gens) (d':=s.drawn) (ch:=ch) (λb g=>?_) (λb o _ _ a e _=>k b o a e) (λb o _ _ a e _=>⟨o.slots,k b o a e⟩) (λ_ _ _ _ n=>n)
  (λb o a e=>⟨o,k b o a e⟩) (λ_ _ e=>e) (λ_ _ _ e=>e) (λb ps e=>⟨#[],by rw[e];simp⟩) (λm hm=>?_) (λb u e=>?_) I.bare
 ·obtain⟨t,f1,f2,l,j,i⟩:=f b g;exact⟨l,f1,j,i⟩
 ·obtain⟨o,es,p,ho,r⟩:=hm;exact⟨o,es,p,k _ o h ho,r⟩
 ·refine(I.hok b u e).stay (λc v a q=>k c v ?_ q) (λ_ q=>q) λ_ _ q=>q;rcases a with z|z
  ·rw[z];exact d b u e
  ·exact d c _ z
theorem aO.turnedLaid {t':Nat}{ch:List Addr}{T:Addr}{o:HO}(I:aO X pins σ H s)(k:∀b o,b∉ch->s.heap.get? b=some o->h'.get? b=some o)(h:∀b∈ch,fS X pins H b)
  (i:s.heap.objs.size<=T) (new:cK X.prog X.w (upd H T o) h' T o):aO X pins σ (upd H T o) {s with heap:=h',toks:=t'}:=by
 have f:H T=none:=I.hok.fresh i;have d:∀b u,H b=some u->b∉ch:=λb u e z=>by rw[(h b z).1]at e;cases e
 have j:X.env.locals∉ch:=λz=>(h _ z).2.1 rfl;have lt:∀b ob,s.heap.get? b=some ob->b≠T:=λb ob e=>bo (bf (az e) i);refine I.step (g':=s.gens) (d':=s.drawn) (ch:=ch) (λb g=>?_) (λb o _ _ a e _=>k b o a e) (λb o _ _ a e _=>⟨o.slots,k b o a e⟩) (λb ob _ e n=>by rw[aE (lt b ob e)];exact n)
  (λb o a e=>⟨o,k b o a e⟩) (λb xs e=>by rw[aE (aG e f)];exact e) (λb _ _ e=>by rw[aE (aG e f)];exact e) (λb ps e=>⟨#[],by rw[aE (aG e f),e];simp⟩) (λm hm=>?_) (λb u e=>?_) I.bare
 ·obtain⟨A,f1,f2,t,p,l⟩:=h b g;exact⟨t,f1,p,l⟩
 ·obtain⟨o,es,x,ho,r⟩:=hm;exact⟨o,es,x,k _ o j ho,r⟩
 ·by_cases g:b=T
  ·subst g;rw[upd_same]at e;cases e;exact new
  ·rw[aE g]at e;refine(I.hok b u e).stay (λc v a q=>k c v ?_ q) (λc q=>by rw[aE (aG q f)];exact q) λc xs q=>by rw[aE (aG q f)];exact q
   rcases a with z|z
   ·rw[z];exact d b u e
   ·exact d c _ z
end
noncomputable def UC (K:PySem.W.Frag)(a b:Addr):It :=
 ⟨λi H=>∃xs c x y,dN K H a xs/\dN K H b c/\xs[i]?=some x/\c[i]?=some y,
  λi H z H'=>∃T x y,z = .ref T/\H T=none/\H'=upd H T (.tup [x,y])/\∀xs c,dN K H a xs->dN K H b c->xs[i]?=some x/\c[i]?=some y,
  λi H=>∃xs c,dN K H a xs/\dN K H b c/\(xs.length<=i∨c.length<=i)⟩
section
variable {X:Cx}{elts:lM}{tk0:_}{tpos:Pos}
def iZip (K:PySem.W.Frag)(e:TA):TI:=λσ H R=>e σ H λvs c=>∃a b,vs=[.ref a,.ref b]/\(∃xs,dN K c a xs)/\(∃d,dN K c b d)/\R (UC K a b) c
end
def Q8 (J:It)(g:TG)(f:TT)(h:TE)(Fin:List V->St->Hp->Prop)(W:CW):Prop:=∀i m a σ H,W i m a σ H ->
 (J.stop i H/\Fin a σ H) ∨
 (J.go i H/\∀x H',J.yld i H x H'->g x σ H' λd l=>f d l λb e =>
  if b=true then h d e λy j=>a.length<sizeLine/\∃c,c<m/\W (i+1) c (a++[y]) d j else ∃c,c<m/\W (i+1) c a d e)
def UH (J:It)(g:TG)(b:TT)(c:TE)(Fin:List V->St->Hp->Prop)(a:List V)(σ:St)(H:Hp):Prop:=∃W:CW,(∃m,W 0 m a σ H)/\Q8 J g b c Fin W
def LN (J:It)(l:TG)(c:TI)(j:TG)(g:TT)(h:TE)(Q:VK)(σ:St)(t:Hp):Prop:=∃W:CW,(∃m,W 0 m [] σ t)/\∀i m a σ H,W i m a σ H ->
 (J.stop i H/\∀p,H p=none->Q (.ref p) (upd H p (.lst a))) ∨
 (J.go i H/\∀x H',J.yld i H x H'->l x σ H' λd s=>c d s λo r=>UH o j g h (λb f q=>∃e,e<m/\W (i+1) e b f q) a d r)
def OY (src:List (Option Nat))(b:TI)(f:TG)(a:TI)(e:TG)(c:TT)(d:TE):TE:=λσ H Q=>b σ H λJ g=>LN J f a e c d Q (stC src σ) g
end L2
namespace L2
open PySem PySem.Spec PyProof.Rows
open PySem.AutoSeq1 (wpAny_loadPart')
open PySem.MeetsSeq PySem.MeetsSeq2 PySem.MeetsSeq3
def DA (items:iR)(i:Nat)(ns:List Int):Prop:=i<=items.size/\IntsAre (items.toList.drop i) ns
theorem DA.end_ {items:iR}{i:Nat}(h:DA items i []):items.size=i/\items[i]?=none:=by obtain⟨b,a⟩:=h;have e:=a.length;rw[bx,br,List.length_nil]at e;exact⟨by omega,Array.getElem?_eq_none (by omega)⟩
theorem DA.next {items:iR}{i:Nat}{a:Int}{ns:List Int}(h:DA items i (a::ns)):i<items.size/\(∃t,items[i]?=some (.int a t))/\DA items (i+1) ns:=by
 obtain⟨f,b⟩:=h;generalize e:items.toList.drop i=us at b;cases b with
 | cons _ t r =>
  have lt:i<items.toList.length:=by have z:=congrArg List.length e;rw[bx,ap]at z;omega
  rw[List.drop_eq_getElem_cons lt]at e;injection e with d c;rw[br]at lt;refine⟨lt,⟨t,?_⟩,lt,c ▸ r⟩;rw[Array.getElem?_eq_getElem lt,←d];rfl
abbrev yY (l b:Addr)(ol ob:Obj)(xs ys:List Int):PySem.Spec:=λ_ R s=>s.heap.get? l=some ol/\s.heap.get? b=some ob/\R (.ok (.ret (.bool (HT.lexLt xs ys)))) s
noncomputable abbrev ltAsk (l b:Addr)(i:Nat):Args:=⟨[.ref l,.ref b,rawInt i,rawInt 0],[]⟩
theorem AE {l b:Addr}{c ob:Obj}{xs a:List Int}{i:Nat}{prog:Program}{w:World}{A:Around}{R:Result->Shared->Prop}{s:Shared}(m:Meets (Builtin.«list.__eq__.loop» (ltAsk l b i)) (yY l b c ob xs a))(h:yY l b c ob xs a A R s) :
  (Code.builtin "list.__eq__.loop" (ltAsk l b i)).quiet=true/\codeAny (model prog w) A (.builtin "list.__eq__.loop" (ltAsk l b i)) R s:=by
 refine⟨plainId_quiet plain_eq_loop (ltAsk l b i),codeAny_builtin entry_eq_loop ?_⟩;have u:=A.under_plainId plain_eq_loop (ltAsk l b i);rw[u];exact m prog w A R s h
theorem EB (l b:Addr)(us vs:iR)(n k:Nat)(G F:Option Addr)(E C:Array (Option Value)):∀(xs m:List Int) (i:Nat),DA us i xs->DA vs i m ->
  Meets (Builtin.«list.__eq__.loop» (ltAsk l b i)) (yY l b {cls:=.type "list",dict:=G,data:=.seq us n,slots:=E} {cls:=.type "list",dict:=F,data:=.seq vs k,slots:=C} xs m)
 | [],m,i,f,g=>by
  rintro prog w A R ⟨u,v,d,tk,os⟩ ⟨a,c,h⟩;obtain⟨z,B⟩:=f.end_;have j:HT.lexLt [] m=decide (us.size<vs.size):=by
   cases m with
   | nil=>exact(bj (by rw[z,(g.end_).1];exact cf _)).symm
   | cons y r=>exact(bh (by rw[z];exact(g.next).1)).symm
  rw[j]at h
  wp_walk using bg a,bg c
  rw[show((i:Nat):Int).toNat=i from rfl,B];cases vs[i]? <;> wp_walk using bg a,bg c <;> exact h
 | x::xs,[],i,f,g=>by
  rintro prog w A R ⟨u,v,d,tk,os⟩ ⟨a,c,h⟩;obtain⟨z,B⟩:=g.end_;obtain⟨lt,⟨t,is⟩,_⟩:=f.next
  have j:HT.lexLt (x::xs) []=decide (us.size<vs.size):=(bj (by omega)).symm;rw[j]at h
  wp_walk using bg a,bg c
  rw[show((i:Nat):Int).toNat=i from rfl,B,is]
  wp_walk using bg a,bg c
  exact h
 | x::xs,y::m,i,f,g=>by
  have go:=EB l b us vs n k G F E C xs m (i+1) (f.next).2.2 (g.next).2.2;rintro prog w A R ⟨u,v,d,tk,os⟩ ⟨a,c,h⟩;obtain⟨_,⟨t,q⟩,_⟩:=f.next
  obtain⟨_,⟨t',isV⟩,_⟩:=g.next
  wp_walk using bg a,bg c
  rw[show((i:Nat):Int).toNat=i from rfl,q,isV];obtain⟨e,o,iff⟩:=HT.eqAt_int A.in1 ⟨u,v,d,tk,os⟩ x t y t';refine aa (o prog w _ _ ?_);by_cases s:x=y
  ·rw[HT.lexLt_cons,ai s]at h;rw[iff.mpr s]
   wp_walk
   exact AE go ⟨a,c,h⟩
  ·rw[HT.lexLt_cons,ab s]at h;have H:e=false:=by cases e with|false=>rfl|true=>exact absurd (iff.mp rfl) s
   subst H;have p:=HT.rcLt_int A.in1 ⟨u,v,d,tk,os⟩ x t y t' prog w
   wp_walk using bg a,bg c
   rw[q,isV]
   wp_walk using p
   exact h
theorem yB (l b:Addr)(us vs:iR)(n k:Nat)(j i:Option Addr)(g f:Array (Option Value))(xs e:List Int)(o:IntsAre us.toList xs)(m:IntsAre vs.toList e) :
  Meets (Builtin.«list.__lt__» ⟨[.ref l,.ref b],[]⟩) (yY l b {cls:=.type "list",dict:=j,data:=.seq us n,slots:=g} {cls:=.type "list",dict:=i,data:=.seq vs k,slots:=f} xs e):=by
 have go:=EB l b us vs n k j i g f xs e 0 ⟨au _,o⟩ ⟨au _,m⟩;rintro prog w A R ⟨p,q,d,tk,os⟩ ⟨a,c,h⟩;have kind:=AutoSeq1.sub_list_list
 wp_walk using bg a,bg c
 exact AE go ⟨a,c,h⟩
section
variable {prog:Program}{w:World}{A:Around}{E:cL}{s:Shared}
theorem AD {l b:Addr}{items a:iR}{ns ms:List Int}{Q:cL}(hl:s.heap.IsList l items)(t:s.heap.IsList b a)(r:IntsAre items.toList ns)(q:IntsAre a.toList ms)
  (p:A.units<cLine) (h:Q (.bool (HT.lexLt ns ms)) s):wpAny (model prog w) A (compareOp .Lt (.ref l) (.ref b)) Q E s:=by
 obtain⟨⟨cls,u,data,o⟩,ho,j,n,hd⟩:=id hl;obtain⟨⟨m,g,i,f⟩,c,e,n2,d⟩:=id t;simp only at j hd e d;subst j hd e d;exact richCompare_meets_room (op:=.Lt) ⟨_,ho,rfl⟩ ⟨_,c,rfl⟩ PySem.F.slot_list_lt PySem.F.entry_list_lt (PySem.F.args_list_lt_2 _ _) (yB l b items a n n2 u g o f ns ms r q)
  ⟨ho,c,show Value.bool (HT.lexLt ns ms)≠Value.notImplemented/\Q (.bool (HT.lexLt ns ms)) s from⟨(λx=>nomatch x),h⟩⟩ p
end
section
variable {X:Cx}
def rLtL:R2:=λx y H Q=>∃a b ns ms,x = .ref a/\y = .ref b/\H a=some (.lst (ns.map V.int))/\H b=some (.lst (ms.map V.int))/\Q (.bl (HT.lexLt ns ms)) H
theorem PP (m:X.A.units<cLine):iQ X (compareOp .Lt) rLtL:=by intro c s σ H x y v u Q I e d h;obtain⟨a,b,ns,ms,rfl,rfl,p,o,q⟩:=h;cases e;cases d;obtain⟨its,r1,i,_⟩:=I.list (dN.of p);obtain⟨its2,f,g,_⟩:=I.list (dN.of o);have l:IntsAre its.toArray.toList ns:=kT r1;have j:IntsAre its2.toArray.toList ms:=kT f;exact AD i.isList g.isList l j m ⟨.bl (HT.lexLt ns ms),H,I,rfl,q⟩
end
end L2
namespace L2
open PySem PySem.Spec PyProof.Rows
section
variable {X:Cx}{pos:Pos}
theorem MK {i j:Nat}{x y:Str}{e d:Pos}{k:_}(h:X.calm=true)(c:X.N.Nodup)(g:X.N[i]?=some x)(f:X.N[j]?=some y)(b:X.env.scope.names.lookup x=some .local)(a:X.env.scope.names.lookup y=some .local) :
  PG X (.Tuple [.Name x e,.Name y d] k pos) (gTup X.K 2 (gCons (gName i) (gCons (gName j) gNil))) :=
 tK h (eV (bA c g (.inl b) (.inr b)) (eV (bA c f (.inl a) (.inr a)) pH))
end
section
variable {g g1 g2:TG}{tb:TS}{D:hZ}{σ:St}{H:Hp}{tt:TT}{te:TE}{Q:VK}{K:PySem.W.Frag}{wi2:TI}{acc:List V}{Fin:List V->St->Hp->Prop}
theorem tComp2_eq {src:List (Option Nat)}{a:TI}{σ:St}{H:Hp}{Q:VK}:OY src a g1 wi2 g2 tt te σ H Q=a σ H λJ b=>LN J g1 wi2 g2 tt te Q (stC src σ) b:=rfl
end
section
variable {X:Cx}
theorem kQ (a:X.A.units+64<cLine):iQ X (compareOp .Lt) (λx y H Q=>(rI0 (λi j=>.bl (decide (i<j))) x y H Q∨(∃i j,x = .str i/\y = .str j/\Q (.bl (decide (i.cps.toList<j.cps.toList))) H))∨rLtL x y H Q) :=
 (RQ.or F0).or (PP (by omega))
end
section
variable {H:Hp}{a p:Addr}{xs:List V}{Q:VK}{K:PySem.W.Frag}
theorem rIs_eq {x c:V}:rIs [x,c] H Q = ∃b,isV H x c=some b/\Q (.bl b) H:=propext ⟨λ⟨a,d,b,e,h,q⟩=>by cases e;exact⟨b,h,q⟩,λ⟨b,h,q⟩=>⟨x,c,b,rfl,h,q⟩⟩
theorem truV_bl {b k:Bool}:LC K (.bl b) H k=(k=b):=rfl
theorem isV_ii {n:Int}:isV H (.int n) (.ty "int")=some true:=rfl
theorem isV_ib {n:Int}:isV H (.int n) (.ty "bool")=some false:=rfl
theorem isV_bb {n:Bool}:isV H (.bl n) (.ty "bool")=some true:=rfl
theorem isV_ll (h:H a=some (.lst xs)):isV H (.ref a) (.ty "list")=some true:=by unfold isV tyN;simp only[h];rfl
theorem KA (h:H a=some (.lst xs))(b:H p=some (.tup [.ty "list",.ty "tuple"])):isV H (.ref a) (.ref p)=some true:=by unfold isV tyN clsV;simp only[h,b];rfl
theorem J9 (h:H a=some (.tup xs))(b:H p=some (.tup [.ty "list",.ty "tuple"])):isV H (.ref a) (.ref p)=some true:=by unfold isV tyN clsV;simp only[h,b];rfl
theorem lenV_l (h:H a=some (.lst xs)):lenV H (.ref a)=some xs.length:=by unfold lenV;simp only[h]
theorem lenV_t (h:H a=some (.tup xs)):lenV H (.ref a)=some xs.length:=by unfold lenV;simp only[h]
theorem seqV_l (h:H a=some (.lst xs)):seqV H (.ref a)=some xs:=by unfold seqV;simp only[h]
theorem seqV_t (h:H a=some (.tup xs)):seqV H (.ref a)=some xs:=by unfold seqV;simp only[h]
theorem ixV_l {i:Int}(h:H a=some (.lst xs)):ixV H (.ref a) (.int i)=atI xs i:=by unfold ixV;simp only[h]
theorem ixV_t {i:Int}(h:H a=some (.tup xs)):ixV H (.ref a) (.int i)=atI xs i:=by unfold ixV;simp only[h]
end
section
def i8 (H:Hp)(a:Addr)(xs:List V):Prop:=H a=some (.lst xs)∨H a=some (.tup xs)
theorem i8.same {H H':Hp}{a:Addr}{xs:List V}(h:i8 H a xs)(s:aD H H'):i8 H' a xs:=h.elim (λe=>.inl (s _ _ e)) λe=>.inr (s _ _ e)
variable {g:TG}{tt:TT}{te:TE}{Q:VK}{K:PySem.W.Frag}{σ:St}{H:Hp}
variable {tb:TS}{D:hZ}
end
section
variable {X:Cx}{pos:Pos}{tg:Expr}
theorem dI (K:PySem.W.Frag)(l:X.K=K){i j:Nat}{x y:Str}{b a:Pos}{k:_}(g:X.calm=true)(h:X.N.Nodup)(f:X.N[i]?=some x)(e:X.N[j]?=some y)(d:X.env.scope.names.lookup x=some .local)(c:X.env.scope.names.lookup y=some .local) :
  PG X (.Tuple [.Name x b,.Name y a] k pos) (gTup K 2 (gCons (gName i) (gCons (gName j) gNil))):=by subst l;exact MK g h f e d c
def tTruth (K:PySem.W.Frag)(b:TE):TT:=λσ H Q=>b σ H λx a=>∃k,LC K x a k/\Q k a
theorem aV (K:PySem.W.Frag)(f:X.K=K){a:Expr}{c:TE}(e:PE X a c)(d:∀b,isTrue a X.env b=(do let v ←b;standAt a.pos;holding [v] (truthy v))):PT X a (tTruth K c):=by subst f;exact IR e d
end
def N9 (K:PySem.W.Frag)(a:Addr)(xs:List V)(J:It)(H:Hp):Prop:=(J=OL K a/\H a=some (.lst xs))∨(J=OK K a/\H a=some (.tup xs))
def iSq (K:PySem.W.Frag)(tl:TE):TI:=λσ H R=>tl σ H λx b=>∃a xs,x = .ref a/\i8 b a xs/\∀J,N9 K a xs J b->R J b
section
variable {X:Cx}{tg:Expr}
theorem cQ (K:PySem.W.Frag)(u:X.K=K){l:Expr}{tl:TE}(hl:PE X l tl):PI X tg l (iSq K tl):=by
 subst u;intro f s σ H R I h;refine thn (hl f s σ H _ I h) λv c ⟨x,j,d,r1,r⟩=>?_;obtain⟨a,xs,e,t,q⟩:=r;subst e;cases r1;rcases t with g|g
 ·obtain⟨its,m,p,hz⟩:=d.list (dN.of g);refine wpAny_pyIter_list p.isList ?_;refine⟨c.heap.objs.size,[c.heap.objs.size],_,_,j,rfl,d.kept (t':=c.toks) λb o e=>af _ e,FG a _,⟨_,ar _ rfl,rfl,rfl⟩,λb i=>?_,q _ (.inl ⟨rfl,g⟩)⟩;have e:b=c.heap.objs.size:=by simpa using i
  subst e;exact d.fpOk (ac _) (d.hok.fresh (ac _))
 ·obtain⟨its,m,p,hz⟩:=d.tuple (gF.of g);refine wpAny_pyIter_tuple (show c.heap.IsTuple a its.toArray from p) ?_;refine⟨c.heap.objs.size,[c.heap.objs.size],_,_,j,rfl,d.kept (t':=c.toks) λb o e=>af _ e,BM a _,⟨_,ar _ rfl,rfl,rfl⟩,λb i=>?_,q _ (.inr ⟨rfl,g⟩)⟩;have e:b=c.heap.objs.size:=by simpa using i
  subst e;exact d.fpOk (ac _) (d.hok.fresh (ac _))
end
section
variable {g g1 g2:TG}{tb:TS}{D:hZ}{σ:St}{H:Hp}{tt:TT}{te:TE}{Q:VK}{K:PySem.W.Frag}{wi2:TI}{J:It}{a:Addr}{xs:List V}
theorem gQ (h:N9 K a xs J H)(Pv:Nat->St->Hp->Prop)(d:Pv 0 σ H)(hl:∀i σ H',i<=xs.length->Pv i σ H'->H' a=H a)
  (c:∀i x σ H,xs[i]?=some x->Pv i σ H->g x σ H λf j=>tb {D with nx:=Pv (i+1),ct:=Pv (i+1),bk:=D.nx} f j) (hd:∀σ H,Pv xs.length σ H->D.nx σ H):sD J g tb D σ H:=by
 rcases h with⟨rfl,e⟩|⟨rfl,e⟩
 ·exact GS xs Pv d (λi σ H' b p=>(hl i σ H' b p).trans e) c hd
 ·exact KH xs Pv d (λi σ H' b p=>(hl i σ H' b p).trans e) c hd
theorem cU (h:N9 K a xs J H)(Pv:Nat->List V->St->Hp->Prop)(f:Pv 0 [] σ H)(hl:∀i b σ H',i<=xs.length->Pv i b σ H'->H' a=H a)
  (d:∀i x b σ H,xs[i]?=some x->Pv i b σ H->CStep g tt te x b σ H (Pv (i+1))) (hd:∀b σ H,Pv xs.length b σ H->∀p,H p=none->Q (.ref p) (upd H p (.lst b))):n5 J g tt te Q σ H:=by
 rcases h with⟨rfl,e⟩|⟨rfl,e⟩
 ·exact CZ xs Pv f (λi b σ H' c p=>(hl i b σ H' c p).trans e) d hd
 ·exact G0 xs Pv f (λi b σ H' c p=>(hl i b σ H' c p).trans e) d hd
end
def rSlU:V->Option Int->Option Int->Hp->VK->Prop:=λx b c H Q=>∃a xs,x = .ref a/\i8 H a xs/\((∃d,H a=some (.tup d))->¬(HT.sIx xs.length 0 b=0/\HT.sIx xs.length xs.length c=xs.length)) /\
 ∀p o,H p=none->(o = .lst (cutV xs b c)/\H a=some (.lst xs)∨o = .tup (cutV xs b c)/\H a=some (.tup xs))->Q (.ref p) (upd H p o)
theorem iT {X:Cx}:RY X rSlU:=by
 intro b s σ H x v f e l o g Q I i m pl j h;obtain⟨a,xs,rfl,c|c,r,q⟩:=h
 ·exact DP b s σ H _ v f e l o g Q I i m pl j ⟨a,xs,rfl,dN.of c,λp d=>q p _ d (.inl ⟨rfl,c⟩)⟩
 ·exact O2 b s σ H _ v f e l o g Q I i m pl j ⟨a,xs,rfl,gF.of c,r ⟨_,c⟩,λp d=>q p _ d (.inr ⟨rfl,c⟩)⟩
section
variable {H:Hp}{Q:VK}
theorem rEqD_ii {i j:Int}:rEqD (.int i) (.int j) H Q=Q (.bl (decide (i=j))) H:=by
 have e:eqD (.int i) (.int j)=decide (i=j):=by show(i == j)=_;rw[cg];simp
 refine propext ⟨λ⟨d,c,b,a,_,q⟩=>?_,λq=>⟨.int i,.int j,rfl,rfl,au _,by rw[e];exact q⟩⟩;have g:d = .int i:=aZ.inj b (show aZ H (.int i) (.int i)from rfl);have f:c = .int j:=aZ.inj a (show aZ H (.int j) (.int j)from rfl);rw[g,f,e]at q;exact q
theorem rNeD_ii {i j:Int}:rNeD (.int i) (.int j) H Q=Q (.bl (!decide (i=j))) H:=by
 have e:eqD (.int i) (.int j)=decide (i=j):=by show(i == j)=_;rw[cg];simp
 refine propext ⟨λ⟨d,c,b,a,_,q⟩=>?_,λq=>⟨.int i,.int j,rfl,rfl,au _,by rw[e];exact q⟩⟩;have g:d = .int i:=aZ.inj b (show aZ H (.int i) (.int i)from rfl);have f:c = .int j:=aZ.inj a (show aZ H (.int j) (.int j)from rfl);rw[g,f,e]at q;exact q
theorem rEqD_ss {i j:Str}:rEqD (.str i) (.str j) H Q=Q (.bl (decide (i=j))) H:=by
 have e:eqD (.str i) (.str j)=decide (i=j):=by show(i == j)=_;rw[cg];simp
 refine propext ⟨λ⟨d,c,b,a,_,q⟩=>?_,λq=>⟨.str i,.str j,rfl,rfl,au _,by rw[e];exact q⟩⟩;have g:d = .str i:=aZ.inj b (show aZ H (.str i) (.str i)from rfl);have f:c = .str j:=aZ.inj a (show aZ H (.str j) (.str j)from rfl);rw[g,f,e]at q;exact q
theorem rNeD_ss {i j:Str}:rNeD (.str i) (.str j) H Q=Q (.bl (!decide (i=j))) H:=by
 have e:eqD (.str i) (.str j)=decide (i=j):=by show(i == j)=_;rw[cg];simp
 refine propext ⟨λ⟨d,c,b,a,_,q⟩=>?_,λq=>⟨.str i,.str j,rfl,rfl,au _,by rw[e];exact q⟩⟩;have g:d = .str i:=aZ.inj b (show aZ H (.str i) (.str i)from rfl);have f:c = .str j:=aZ.inj a (show aZ H (.str j) (.str j)from rfl);rw[g,f,e]at q;exact q
theorem nI {a b:Addr}{xs c:List V}(e:H a=some (.lst xs))(d:H b=some (.lst c))(hz:xs.length+c.length<=sizeLine):catO H (.ref a) (.ref b)=some (.lst (xs++c)):=by unfold catO;simp only[e,d];rw[ai hz]
theorem catO_i {i:Int}{y:V}:catO H (.int i) y=none:=by cases y <;> rfl
theorem catO_s {i:Str}{y:V}:catO H (.str i) y=none:=by cases y <;> rfl
end
def rTupU:List V->Hp->VK->Prop:=λxs H Q=>∃p a,xs=[.ref p]/\i8 H p a/\∀l H',(H p=some (.tup a)/\l=p/\H'=H∨H p=some (.lst a)/\H l=none/\H'=upd H l (.tup a))->Q (.ref l) H'
theorem dM {X:Cx}:dR X (.type "tuple") rTupU:=by
 refine vH.imp λxs H Q h=>?_;obtain⟨p,b,rfl,a|a,q⟩:=h
 ·exact⟨p,b,rfl,.inl ⟨dN.of a,λl hl=>q l _ (.inr ⟨a,hl,rfl⟩)⟩⟩
 ·exact⟨p,b,rfl,.inr ⟨gF.of a,q p _ (.inl ⟨a,rfl,rfl⟩)⟩⟩
section
variable {X:Cx}{x:Str}{C:Addr}{np cpos pos:Pos}{e:Expr}{ta:TA}{E:XK}
def tRaise (C:Addr)(E:XK)(a:TA):TS:=λ_ σ H=>a σ H λvs b=>vs.length<=1000/\E (.ref C) none b
end
section
variable {X:Cx}{x:Str}{C:Addr}{np hp pos:Pos}{EX:XK}{b0:Stmt}{suite body:List Stmt}{tb th:TS}
def tTry (c:TS)(EX:XK)(b:TS):TS:=λD σ H=>c D σ H/\∀cls d a H',EX cls d H'->b D a H'
end
noncomputable def UD (K:PySem.W.Frag)(a:Addr):It :=
 ⟨λi H=>∃xs x,dN K H a xs/\xs[i]?=some x,λi H z H'=>∃T x,z = .ref T/\H T=none/\H'=upd H T (.tup [.int i,x])/\∀xs,dN K H a xs->xs[i]?=some x,λi H=>∃xs,dN K H a xs/\xs.length<=i⟩
def iEnum (K:PySem.W.Frag)(c:TA):TI:=λσ H R=>c σ H λvs b=>∃a,vs=[.ref a]/\(∃xs,dN K b a xs)/\R (UD K a) b
noncomputable def SM (a b:Addr):It :=
 ⟨λi H=>∃xs c x y,i8 H a xs/\i8 H b c/\xs[i]?=some x/\c[i]?=some y,
  λi H z H'=>∃T x y,z = .ref T/\H T=none/\H'=upd H T (.tup [x,y])/\∀xs c,i8 H a xs->i8 H b c->xs[i]?=some x/\c[i]?=some y,
  λi H=>∃xs c,i8 H a xs/\i8 H b c/\(xs.length<=i∨c.length<=i)⟩
def iZip2 (e:TA):TI:=λσ H R=>e σ H λvs c=>∃a b xs d,vs=[.ref a,.ref b]/\i8 c a xs/\i8 c b d/\R (SM a b) c
theorem rNeD_bb {H:Hp}{Q:VK}{i j:Bool}:rNeD (.bl i) (.bl j) H Q=Q (.bl (!decide (i=j))) H:=by
 have e:eqD (.bl i) (.bl j)=decide (i=j):=by cases i <;> cases j <;> rfl
 refine propext ⟨λ⟨d,c,b,a,_,q⟩=>?_,λq=>⟨.bl i,.bl j,rfl,rfl,au _,by rw[e];exact q⟩⟩;have g:d = .bl i:=aZ.inj b (show aZ H (.bl i) (.bl i)from rfl);have f:c = .bl j:=aZ.inj a (show aZ H (.bl j) (.bl j)from rfl);rw[g,f,e]at q;exact q
theorem rEqD_bb {H:Hp}{Q:VK}{i j:Bool}:rEqD (.bl i) (.bl j) H Q=Q (.bl (decide (i=j))) H:=by
 have e:eqD (.bl i) (.bl j)=decide (i=j):=by cases i <;> cases j <;> rfl
 refine propext ⟨λ⟨d,c,b,a,_,q⟩=>?_,λq=>⟨.bl i,.bl j,rfl,rfl,au _,by rw[e];exact q⟩⟩;have g:d = .bl i:=aZ.inj b (show aZ H (.bl i) (.bl i)from rfl);have f:c = .bl j:=aZ.inj a (show aZ H (.bl j) (.bl j)from rfl);rw[g,f,e]at q;exact q
theorem FK {ks:List (Option Expr)}{vs es:lM}{p:Pos}{env:Env}:starEach (.Dict ks vs p::es) env=(false,eval (.Dict ks vs p) env)::starEach es env:=by rw[starEach];exact λ_ _ z=>nomatch z
theorem MP {X:Cx}{es:lM}{p:Pos}{t:TA}(h:PA X es t):PA X (.Dict [] [] p::es) (tCons HV t):=aA I8 h FK
theorem x4:typeLookup (.type "list") "keys" = pure none:=am_miss_of_fast (by decide +kernel)
theorem yF {P:Program}{w:World}{A:Around}{E:cL}{s:Shared}{a:Addr}{xs:iR}{k:Nat}{d:Array (Option Value)}{Q:Option Value->Shared->Prop}
  (c:s.heap.get? a=some {cls:=.type "list",dict:=none,data:=.seq xs k,slots:=d}) (calm:A.handled=none)
  (q:∀h' tk,(∀b ob,s.heap.get? b=some ob->h'.get? b=some ob)->Q none {s with heap:=h',toks:=tk}) :
  wpAny (model P w) A (getAttr? (.ref a) "keys") Q E s:=by
 rcases s with⟨g,gs,h,tk,os⟩;have ty:∀t,(⟨g,gs,h,t,os⟩:Shared).TypeIs (.ref a) "list":=λ_=>⟨_,c,rfl⟩
 have r:=F.slot_list_getattribute.lookup;have p:=F.slot_list_getattribute.bind (.ref a);have o:=am_list_getattr_none;have m:=sub_AttributeError;rw[getAttr?];unfold getAttrBy? getAttrBy
 repeat (any_goals (first|assumption|exact ty _|((with_reducible show wpAny _ _ (call (Value.builtin "list.__getattribute__") _ _) _ _ _);refine call_meets F.slot_list_getattribute (ty _) am_entry_list_getattribute (F.args_list_getattribute_2 _ _) (meets_getattribute_miss_list a xs k d "keys" _ x4 (by decide) (by decide)) ⟨c,calm,λh' f e n=>?_⟩)|wp_step))
 obtain⟨l,j,i⟩:=n.there;dsimp only[wants];unfold getattributeRaised
 wp_walk
 exact q _ _ n.keeps
section
variable {P:Program}{w:World}{K:Type}[DecidableEq K]{knd:KeyKind P w K}
def yX (knd:KeyKind P w K)(h:Heap)(d it:Addr)(x:Value)(a:K×Value):Prop :=
 ∃(q:Addr) (o:Obj) (key:Value) (n:Nat),x = .ref q/\q≠d/\q≠it/\h.get? q=some o/\(o.cls = .type "list"∨o.cls = .type "tuple")/\o.data = .seq #[key,a.2] n/\knd.is a.1 key=true
theorem yX.mono {h h':Heap}{d it:Addr}{x:Value}{a:K×Value}(p:yX knd h d it x a)(k:∀b o,b≠d->b≠it->h.get? b=some o->h'.get? b=some o):yX knd h' d it x a:=by obtain⟨q,o,key,n,i,e,c,g,f⟩:=p;exact⟨q,o,key,n,i,e,c,k q o e c g,f⟩
inductive OI (knd:KeyKind P w K)(h:Heap)(d it:Addr):cA->List (K×Value)->Prop
 | nil:OI knd h d it [] []
 | cons {x:Value} {xs:cA} {kv:K×Value} {more:List (K×Value)}:yX knd h d it x kv->OI knd h d it xs more->OI knd h d it (x::xs) (kv::more)
theorem OI.mono {h h':Heap}{d it:Addr}(k:∀b o,b≠d->b≠it->h.get? b=some o->h'.get? b=some o){xs:cA}{more:List (K×Value)}(r:OI knd h d it xs more):OI knd h' d it xs more:=by
 induction r with
 | nil=>exact .nil
 | cons p r a=>exact .cons (p.mono k) a
theorem mY:plainId "dict.update.loop" = true:=by decide +kernel
theorem wJ:entryFor table "dict.update.loop" = some Builtin.«dict.update.loop»:=entryFor_of_fast (by kernel_rfl)
theorem vE {A:Around}{E:cL}{s:Shared}{q:Addr}{o:Obj}{n:Nat}{a b:Value}{Q:cA->Shared->Prop}(e:s.heap.get? q=some o)(c:o.cls = .type "list"∨o.cls = .type "tuple")(d:o.data = .seq #[a,b] n)(h:Q [a,b] s) :
  wpAny (model P w) A (Builtin.Dict.pairItems (.ref q)) Q E s:=by
 unfold Builtin.Dict.pairItems;rcases c with c|c
 ·refine aa (wpAny_typeOf (T:="list") ⟨o,e,c⟩ ?_);rw[ai (by decide)];exact aa (wpAny_seqItems e d (ak h))
 ·refine aa (wpAny_typeOf (T:="tuple") ⟨o,e,c⟩ ?_);rw[ai (by decide)];exact aa (wpAny_seqItems e d (ak h))
theorem HL {d it l:Addr}{items:iR}(g:it≠d)(z:l≠d)(x:l≠it):∀(m i:Nat),items.size - i=m->∀(A:Around) (R:Result->Shared->Prop) (s:Shared) (a more:List (K×Value)) (tk:Tok),
  A.handled=none->s.heap.IsListIter it l i->s.heap.IsList l items->s.heap.DictOf knd d a->OI knd s.heap d it (items.toList.drop i) more->a.length+more.length<=sizeLine ->
  (∀h' c,h'.DictOf knd d (merged a more)->(∀b o,b≠d->b≠it->s.heap.get? b=some o->h'.get? b=some o)->R (.ok (.ret .none)) {s with heap:=h',toks:=c}) ->
  codeAny (model P w) A (.builtin "dict.update.loop" ⟨[.ref d,.ref it,.int i tk,.none],[]⟩) R s:=by
 intro m
 induction m with
 | zero =>
  intro i hm A R s a more tk E st hl hd al hz k;refine codeAny_builtin wJ ?_;rw[Around.under_plainId mY];have B:items[i]?=none:=by simp;omega
  have S:more=[]:=by
   have:items.toList.drop i=[]:=by simp;omega
   rw[this]at al;cases al;rfl
  subst S;unfold Builtin.«dict.update.loop»;dsimp only;refine aa (wpAny_pyNext_list_end E st hl B λh' F=>?_);dsimp only;refine aa (m:=Builtin.Dict.addKeywords d []) (ak (ak ?_));exact k h' s.toks (hd.extBut F g.symm) λb o _ L e=>F b o L e
 | succ m J =>
  intro i hm A R s a more tk E st hl hd al hz k;refine codeAny_builtin wJ ?_;rw[Around.under_plainId mY];have j:i<items.size:=by omega
  have B:items[i]?=some items[i]:=by simp[j]
  have T:items.toList.drop i=items[i]::items.toList.drop (i+1):=by simp[List.drop_eq_getElem_cons,j]
  rw[T]at al;cases al with
  | cons p rest =>
   rename_i t more;unfold Builtin.«dict.update.loop»;dsimp only;refine aa (wpAny_pyNext_list_item st hl B λO u f=>?_);dsimp only;obtain⟨q,o,key,n,eq,H,v,Q,X,W,I⟩:=p;rw[eq];refine aa (ck (aa (wpAny_tryCatch (vE (s:={s with heap:=O}) ((f.2 q v).trans Q) X W ?_))));refine ck (wpAny_dictSet_pairs I (hd.sameBut f g.symm) (λN C h=>?_) (by simp at hz;omega));have kept:∀b o,b≠d->b≠it->s.heap.get? b=some o->N.get? b=some o:=λb o nb r e=>(h.2 b nb).trans ((f.2 b r).trans e);refine ak ⟨plainId_quiet mY _,?_⟩;have U:((i:Int)+1)=((i+1:Nat):Int):=by push_cast;rfl
   rw[U];refine J (i+1) (by omega) A R _ (stored a t.1 t.2) more 0 E (u.at λo e=>(h.2 it g).trans e) (hl.at λo e=>kept l o z x e) C (rest.mono kept) ?_ λh' c r1 G=>?_
   ·have:=stored_length_le a t.1 t.2;simp at hz;omega
   ·exact k h' c r1 λb o nb r e=>G b o nb r (kept b o nb r e)
def QZ (knd:KeyKind P w K)(h:Heap)(x:Value)(a:K×Value):Prop :=
 ∃(q:Addr) (o:Obj) (key:Value) (n:Nat),x = .ref q/\h.get? q=some o/\(o.cls = .type "list"∨o.cls = .type "tuple")/\o.data = .seq #[key,a.2] n/\knd.is a.1 key=true
inductive rN (knd:KeyKind P w K)(h:Heap):cA->List (K×Value)->Prop
 | nil:rN knd h [] []
 | cons {x:Value} {xs:cA} {kv:K×Value} {more:List (K×Value)}:QZ knd h x kv->rN knd h xs more->rN knd h (x::xs) (kv::more)
theorem rN.at {h h':Heap}{d it:Addr}(g:h.get? d=none)(f:h.get? it=none)(k:∀b o,h.get? b=some o->h'.get? b=some o){xs:cA}{more:List (K×Value)}(r:rN knd h xs more):OI knd h' d it xs more:=by
 induction r with
 | nil=>exact .nil
 | cons p r c =>
  obtain⟨q,o,key,n,j,a,i⟩:=p;exact .cons ⟨q,o,key,n,j,λe=>(by rw[e,g]at a;cases a),λe=>(by rw[e,f]at a;cases a),k q o a,i⟩ c
theorem sB {A:Around}{E:cL}{s:Shared}{l:Addr}{items:iR}{n:Nat}{p:Array (Option Value)}{more:List (K×Value)}{Q:cL}
  (a:s.heap.get? l=some {cls:=.type "list",dict:=none,data:=.seq items n,slots:=p}) (calm:A.handled=none) (al:rN knd s.heap items.toList more) (hz:more.length<=sizeLine)
  (q:∀h' tk,h'.DictOf knd s.heap.objs.size (merged [] more)->(∀b o,s.heap.get? b=some o->h'.get? b=some o)->Q (.ref s.heap.objs.size) {s with heap:=h',toks:=tk}) :
  wpAny (model P w) A (call (.type "dict") [.ref l]) Q E s:=by
 refine callType_codes (Q₁:=λv j=>v = .ref s.heap.objs.size/\j={s with heap:=s.heap.push {cls:=.type "dict",data:=.dict #[]} }) F.kt_called_dict (F.kt_typeCall_dict_1 _) F.entry_dict_init (kt_code_dict_new _ ⟨rfl,rfl⟩) ?_;rintro v j ⟨rfl,rfl⟩;have i:(s.heap.push {cls:=.type "dict",data:=.dict #[]}).DictOf knd s.heap.objs.size []:=Heap.DictOf.new s.heap;have f:=af {cls:=.type "dict",data:=.dict #[]} a;have lt:=az a;refine⟨i.typeIs,F.args_dict_init_2 _ _,?_⟩;unfold Builtin.«dict.__init__» Builtin.Dict.selfAndRest;refine aa (aa (wpAny_notOrdered_dict i.typeIs (ak ?_)));unfold Builtin.Dict.updateCommon Builtin.Dict.updateFrom;dsimp only;refine aa (wpAny_typeOf (T:="list") ⟨_,f,rfl⟩ ?_);rw[ai (by decide)];refine aa (yF f calm λh t1 g=>?_);rw[ai (by rfl)];have t:=g _ _ f;refine aa (wpAny_rule (aa (wpAny_pyIter_list (items:=items) ⟨_,t,rfl,_,rfl⟩ (ak ⟨plainId_quiet mY _,?_⟩))));have m:=i.keep g;have c:s.heap.objs.size<h.objs.size:=by obtain⟨o,e,_⟩:=Heap.dictOf_iff.mp m;exact az e
 have k2:∀b o,s.heap.get? b=some o->(h.push {cls:=.type "list_iterator",data:=.fields #[.ref l,.int 0 0]}).get? b=some o:=λb o e=>af _ (g b o (af _ e));refine HL (it:=h.objs.size) (l:=l) (items:=items) (Nat.ne_of_gt c) (bo lt) (bo (Nat.lt_trans lt c)) _ 0 rfl A.in1 _ _ [] more 0 calm ⟨_,ar _ rfl,rfl,rfl⟩ ⟨_,k2 _ _ a,rfl,_,rfl⟩ (m.push _)
  (rN.at (Heap.get?_none_of_le (ac _)) (Heap.get?_none_of_le (Nat.le_of_lt c)) k2 al) (by simpa using hz) λh' d r1 r=>?_
 exact⟨rfl,q h' d r1 λb o e=>r b o (bo (az e)) (bo (Nat.lt_trans (az e) c)) (k2 b o e)⟩
end
noncomputable def prV (H:Hp):V->Option (V×V)
 | .ref p=>match H p with
  | some (.lst [a,b])=>some (a,b)
  | some (.tup [a,b])=>some (a,b)
  | _=>none
 | _=>none
theorem zN {X:Cx}{h:c9}{σ:St}{H:Hp}{s:Shared}(I:aO X h σ H s):∀{j:List V} {us:cA} {d:List (fR×V)},aW j us->j.map (prV H)=d.map (λi=>some (kV i.1,i.2)) ->
  ∃g:List (fR×Value),rN (cN X.prog X.w) s.heap us g/\KV d g
 | [],_,[],r,_=>by cases r;exact⟨[],.nil,.nil⟩
 | [],_,_::_,_,e=>by cases e
 | _::_,_,[],_,e=>by cases e
 | y::j,_,i::d,r,e=>by
  cases r with
  | @cons _ u _ us A r =>
   rw[bd,bd]at e;injection e with f E;obtain⟨g,c,q⟩:=zN I r E;cases y with
   | ref p =>
    cases A;unfold prV at f;dsimp only at f;split at f
    ·rename_i a b x;cases f;obtain⟨_,its,n,t,z⟩:=(show cK X.prog X.w H s.heap p (.lst [_,_])from I.hok p _ x)
     obtain⟨m,l,rfl,r1,v⟩:=vals2 t;exact⟨(i.1,l)::g,.cons ⟨p,_,m,n,rfl,z,.inl rfl,rfl,rH r1⟩ c,.cons ⟨rfl,v⟩ q⟩
    ·rename_i a b x;cases f;obtain⟨_,its,t,o,z,C,n,B⟩:=(show cK X.prog X.w H s.heap p (.tup [_,_])from I.hok p _ x)
     obtain⟨m,l,rfl,r1,v⟩:=vals2 t;exact⟨(i.1,l)::g,.cons ⟨p,o,m,n,rfl,z,.inr C,B,rH r1⟩ c,.cons ⟨rfl,v⟩ q⟩
    ·cases f
   | _=>cases f
def O6:List V->Hp->VK->Prop:=λxs H Q=>∃p b a,xs=[.ref p]/\H p=some (.lst b)/\b.map (prV H)=a.map (λc=>some (kV c.1,c.2))/\∀d,H d=none->Q (.ref d) (upd H d (.dK (jS [] a)))
theorem oM {X:Cx}(l:X.calm=true):dR X (.type "dict") O6:=by
 intro e s σ H xs us Q I r h;obtain⟨p,b,a,rfl,j,al,q⟩:=h;obtain⟨u,rfl,f⟩:=vals1 r;cases f;obtain⟨z,its,n,g,m⟩:=(show cK X.prog X.w H s.heap p (.lst b)from I.hok p _ j)
 obtain⟨i,c,d⟩:=zN I g al;have v:a.length=b.length:=by have:=congrArg List.length al;simpa using this.symm
 have t:a.length=i.length:=d.length;refine sB m (I.ok.hd l) (by simpa using c) (by omega) λh' tk o kp=>⟨.ref s.heap.objs.size,_,?_,rfl,q _ (I.hok.fresh (ac _))⟩
 have hz:(jS [] a).length<=sizeLine:=by have:=nQ a [];rw[List.length_nil]at this;omega
 exact I.laid (t':=tk) kp (ac _) (QP hz (cz.mpr (Ne.symm (bo I.big))) (d.merge .nil) o)
def rDIn (b:Bool):R2:=λx y H Q=>∃a o,y = .ref a/\lL H a x o/\Q (.bl (if b then !o.isSome else o.isSome)) H
theorem B5 {X:Cx}(e:X.A.units+64<cLine):iQ X (compareOp .NotIn) (rDIn true):=by intro b s σ H x y v u Q I d c h;obtain⟨a,o,rfl,g,q⟩:=h;cases c;exact NW (aj (bS (by decide) _) e) I g d λi f=>⟨.bl _,H,f,rfl,q⟩
def MF:V->List V->Hp->VK->Prop:=λx vs H Q=>∃(l:Addr) (xs:List V) (i:Nat) (y:V),x = .ref l/\vs=[.int i,y]/\H l=some (.lst xs)/\i<=xs.length/\xs.length<1000/\Q .non (upd H l (.lst (xs.take i++y::xs.drop i)))
theorem qE:∀{xs:List V} {us:cA} (i:Nat),aW xs us->aW (xs.take i) (us.take i)/\aW (xs.drop i) (us.drop i)
 | _,_,i,.nil=>by rw[List.take_nil,List.take_nil,List.drop_nil,List.drop_nil];exact⟨.nil,.nil⟩
 | _,_,0,.cons r t=>⟨.nil,.cons r t⟩
 | _,_,i+1,.cons r t=>⟨.cons r (qE i t).1,(qE i t).2⟩
theorem GF {X:Cx}:RF X "list.insert" MF:=by
 intro c s σ H x vs v us Q I f g h;obtain⟨l,xs,i,y,rfl,rfl,d,B,hz,q⟩:=h;cases f;obtain⟨A,b,rfl,r1,j⟩:=vals2 g;obtain⟨t,rfl⟩:=r1;obtain⟨z,its,n,r,hl,e⟩:=I.lstM d;obtain⟨k,hk⟩:∃k:Int,k=(i:Int):=⟨_,rfl⟩
 rw[←hk];have a:¬(!Builtin.List.listFitsIndex k)=true:=by rw[fitsIndex_both (by omega) (by omega)];exact Bool.false_ne_true
 have hsz:its.toArray.size<=sizeLine:=by rw[ag,←hl];exact z
 refine call_meets F.slot_list_insert ⟨_,e,rfl⟩ F.entry_list_insert (F.args_list_insert_3 _ _ _) (PySem.AutoSeq1.list_insert_list_int_val_1 l its.toArray n k t b a hsz) ⟨e,?_⟩
 ·obtain⟨w,u⟩:=qE i r;refine⟨.non,_,I.lset (its':=its.take i++b::its.drop i) d e ?_ (w.append (.cons j u)) ?_,rfl,q⟩
  ·have p:¬(k<0):=by omega
   have o:min k.toNat its.toArray.size=i:=by rw[ag,hk,cq];omega
   dsimp only;rw[ab p,o];apply Array.ext';simp;exact List.take_of_length_le (by rw[bx];exact ac _)
  ·rw[aq,ap,bv,bx];exact ao (m:=1000) (by omega) (by decide)
noncomputable def SA (K:PySem.W.Frag)(a:Addr)(xs:List V):It :=
 ⟨λi H=>dN K H a xs/\i<xs.length,λi H x H'=>H'=H/\xs[xs.length - 1 - i]?=some x,λi H=>dN K H a xs/\i=xs.length⟩
theorem HQ {P:Program}{w:World}{K:PySem.W.Frag}{O:Expr}(a it:Addr)(xs:List V):q8 P w K O (SA K a xs) [it] it (λi h=>h.IsRevIter it a ((xs.length:Int) - 1 - (i:Int))) where
 mem:=by simp
 obj:=λi h st b g=>by
  obtain rfl:b=it:=by simpa using g
  obtain⟨o,e,c,d⟩:=st;exact⟨o,e,λv z=>by rw[d]at z;cases z⟩
 keep:=λi h h' st k=>st.at λo e=>k it (by simp) o e
 item:=by
  intro X r m t N i f s σ H E I l st q;subst r m t;obtain⟨L,U⟩:=q;obtain⟨its,R,p,hz⟩:=I.list L;have J:xs[xs.length - 1 - i]?=some xs[xs.length - 1 - i]:=aw (by omega);obtain⟨u,T,S⟩:=R.get J;obtain⟨F,f1,f2,C,B,A⟩:=l it (by simp);have G:(xs.length:Int) - 1 - (i:Int)=((xs.length - 1 - i:Nat):Int):=by omega
  rw[G]at st;refine wpAny_pyNext_rev_item st p.isList (x:=u) (by simpa using T) λh' j Q=>?_;have I1:aO X f σ H {s with heap:=h'}:=I.turned (t':=s.toks) (λb o g e=>(Q.2 b g).trans e) F f1 C B A;obtain⟨o,e,c,d⟩:=id j;refine⟨u,rfl,wF (s:={s with heap:=h'}) e c d (by decide) ⟨_,H,I1,S,⟨rfl,J⟩,?_,λb g=>(l b g).1⟩⟩;have Z:(xs.length:Int) - 1 - ((i+1:Nat):Int)=((xs.length - 1 - i:Nat):Int) - 1:=by omega
  rw[Z];exact j
 done:=by
  intro X r m t N i f s σ H E I l st q;subst r m t;obtain⟨L,U⟩:=q;obtain⟨F,f1,f2,C,B,A⟩:=l it (by simp);have G:(xs.length:Int) - 1 - (i:Int) = -1:=by omega
  rw[G]at st;exact wpAny_pyNext_rev_end (I.ok.hd N) st λh' Y=>⟨rfl,I.turned (t':=s.toks) (λb o g e=>Y b o g e) F f1 C B A⟩
 self:=λ_ _ _ _ _ st h=>wpAny_pyIter_revIter st h
def iRev (K:PySem.W.Frag)(c:TA):TI:=λσ H R=>c σ H λvs b=>∃a xs,vs=[.ref a]/\b a=some (.lst xs)/\R (SA K a xs) b
theorem kO {X:Cx}{l:Expr}(K:PySem.W.Frag)(B:X.K=K){a:Expr}{j:TA}{p d:Pos}(x:Gl X "reversed")(hm:X.mg "reversed" = none)(A:PA X [a] j)(w:starEach [a] X.env=[(false,eval a X.env)]:=by rfl) :
  PI X l (.Call (.Name "reversed" p) [a] [] d) (iRev K j):=by
 subst B;intro f s σ H R I h;refine Call_ (kR I x hm boot_reversed (PyProof.Rows.callWith_type1 (thn (A d f s σ H _ I h) λus c ⟨vs,E,i,r1,r⟩=>?_) w rfl));obtain⟨g,xs,e,v,q⟩:=r;subst e;obtain⟨F,rfl,C⟩:=vals1 r1;cases C;obtain⟨its,m,t,u⟩:=i.list (dN.of v);refine call_reversed_list t.isList ?_
 have st:(c.heap.push (revObj g ((its.toArray.size:Int) - 1))).IsRevIter c.heap.objs.size g ((xs.length:Int) - 1 - ((0:Nat):Int)):=⟨_,ar _ rfl,rfl,by
  have e:=m.length;rw[ag,←e]
  simp[revObj]⟩
 refine wpAny_pyIter_revIter (s:={c with heap:=c.heap.push (revObj g ((its.toArray.size:Int) - 1))}) st ?_;refine⟨c.heap.objs.size,[c.heap.objs.size],_,_,E,rfl,i.kept (t':=c.toks) λb o e=>af _ e,HQ g _ xs,st,λb z=>?_,q⟩;obtain rfl:b=c.heap.objs.size:=by simpa using z
 exact i.fpOk (ac _) (i.hok.fresh (ac _))
section
variable {g:TG}{tb:TS}{D:hZ}{σ:St}{H:Hp}{K:PySem.W.Frag}
theorem AO {a:Addr}(xs:List V)(Pv:Nat->St->Hp->Prop)(j:Pv 0 σ H)(hl:∀i σ H,i<=xs.length->Pv i σ H->H a=some (.lst xs))
  (f:∀i x σ H,i<xs.length->xs[xs.length - 1 - i]?=some x->Pv i σ H->g x σ H λd l=>tb {D with nx:=Pv (i+1),ct:=Pv (i+1),bk:=D.nx} d l) (hd:∀σ H,Pv xs.length σ H->D.nx σ H):sD (SA K a xs) g tb D σ H:=by
 refine⟨λi m σ H=>m=xs.length - i/\i<=xs.length/\Pv i σ H,⟨xs.length,by simp,au _,j⟩,?_⟩;rintro i m σ H ⟨rfl,h,p⟩;have c:=dN.of (K:=K) (hl i σ H h p);by_cases b:i<xs.length
 ·refine .inr ⟨⟨c,b⟩,Pv (i+1),λo H' q=>⟨xs.length - (i+1),by omega,rfl,b,q⟩,λz H' y=>?_⟩;obtain⟨rfl,q⟩:=y;exact f i z σ _ b q p
 ·have e:i=xs.length:=by omega
  subst e;exact .inl ⟨⟨c,rfl⟩,hd σ H p⟩
end
noncomputable def revT {α:Type}(xs:List α):List α:=(xs.drop 1).reverse
theorem vT {α:Type}(x:α)(xs:List α):revT (x::xs)=xs.reverse:=rfl
theorem LA (k:Nat):(List.range k).map (λm=>k - m)=((List.range k).map (λm=>1+m)).reverse:=by
 apply List.ext_getElem
 ·simp
 ·intro i b a;simp at b a⊢;omega
theorem wX (its:cA)(k:Nat)(h:its.length=k+1):(List.range k).filterMap (λm=>its.toArray[k - m]?)=(its.drop 1).reverse:=by
 have e:(List.range k).filterMap (λm=>its.toArray[k - m]?)=((List.range k).map (λm=>k - m)).filterMap (λj=>its.toArray[j]?):=by rw[List.filterMap_map];rfl
 rw[e,LA,List.filterMap_reverse];have:=pick_run its.toArray 1 k;rw[this];congr 1;rw[List.take_of_length_le];rw[bx];simp;omega
theorem FW (its:cA)(h:its≠[]):slicePick its.toArray none (some 0) (some (-1))=(revT its).toArray:=by
 obtain⟨k,hk⟩:∃k,its.length=k+1:=⟨its.length - 1,by have:=List.length_pos_iff.mpr h;omega⟩
 unfold slicePick;rw[ag,hk];have e:sliceBounds none (some 0) (some (-1)) (k+1)=((k:Int),0,-1):=by
  simp only[sliceBounds,Option.getD_some];refine Prod.ext ?_ (Prod.ext ?_ rfl)
  ·simp
  ·simp <;> omega
 rw[e];have a:sliceRange (k:Int) 0 (-1)=(List.range k).map λm=>k - m:=by
  unfold sliceRange;have c:(if (-1:Int) > 0 then(if (k:Int)<0 then(0 - (k:Int) + -1 - 1) / -1 else 0)else(if (k:Int) > 0 then((k:Int) - 0 - -1 - 1) / (- -1)else 0)).toNat=k:=by
   rw[ab (by decide)];split
   ·have:((k:Int) - 0 - -1 - 1) / (- -1)=k:=by rw[show(- -1:Int)=1 from rfl,Int.ediv_one];omega
    rw[this];omega
   ·omega
  dsimp only;rw[c];refine List.map_congr_left λm hm=>?_;have:=List.mem_range.mp hm;omega
 dsimp only;rw[a,List.filterMap_map];have:=wX its k hk;unfold revT;rw[←this];rfl
theorem yW {prog:Program}{w:World}{A:Around}{E:cL}{s:Shared}{f:Addr}{e c d:Value}{n:Nat}{Q:Int×Int×Nat->Shared->Prop}(i:s.heap.IsSliceOf f e c d)(pl:IsPart e none)(g:IsPart c (some 0))(pt:IsPart d (some (-1)))(o:1<=n)
  (h:Q ((n:Int) - 1,-1,n - 1) s):wpAny (model prog w) A (Builtin.Slice.sliceApplied (.ref f) (pure (n:Int))) Q E s:=by
 obtain⟨os,a,j,b⟩:=id i;unfold Builtin.Slice.sliceApplied Builtin.Slice.sliceFields;refine aa (aa (wpAny_field a b (x:=e) rfl (aa (wpAny_field a b (x:=c) rfl (aa (wpAny_field a b (x:=d) rfl (ak ?_)))))));refine aa (HT.slicePart_ pt ?_);show wpAny _ _ (if ((-1:Int) == 0)=true then _ else _) _ _ s;rw[ab (by decide)];refine aa (HT.slicePart_ pl (aa (HT.slicePart_ g (aa (ak ?_)))));have m:Builtin.Slice.sliceAdjust none (some 0) (-1) (n:Int)=((n:Int) - 1,0):=by
  unfold Builtin.Slice.sliceAdjust;refine Prod.ext ?_ ?_
  ·simp
  ·simp;omega
 have l:Builtin.Slice.slicePlaces ((n:Int) - 1) 0 (-1)=n - 1:=by
  unfold Builtin.Slice.slicePlaces;rw[ab (by decide)];split
  ·rw[show(- -1:Int)=1 from rfl,Int.ediv_one];omega
  ·omega
 show wpAny _ _ (match Builtin.Slice.sliceAdjust none (some 0) (-1) (n:Int)with|(lo,hi)=>pure (lo,(-1:Int),Builtin.Slice.slicePlaces lo hi (-1))) _ _ s;rw[m];show wpAny _ _ (pure ((n:Int) - 1,(-1:Int),Builtin.Slice.slicePlaces ((n:Int) - 1) 0 (-1))) _ _ s;rw[l];exact ak h
theorem BP {prog:Program}{w:World}{A:Around}{E:cL}{s:Shared}{t b:Addr}{its:cA}{j g i:Value}{Q:cL}(a:IsTup s.heap t its.toArray)(l:s.heap.IsSliceOf b j g i)(pl:IsPart j none)(o:IsPart g (some 0))(pt:IsPart i (some (-1)))(p:its≠[])(hz:its.length<=sizeLine)
  (h:Q (.ref s.heap.objs.size) {s with heap:=s.heap.push {cls:=.type "tuple",data:=.seq (revT its).toArray} }):wpAny (model prog w) A (getItem (.ref t) (.ref b)) Q E s:=by
 obtain⟨k,hk⟩:∃k,its.length=k+1:=⟨its.length - 1,by have:=List.length_pos_iff.mpr p;omega⟩
 obtain⟨os,c,d,r⟩:=id l;have f:s.TypeIs (.ref b) "slice":=⟨os,c,d⟩
 unfold getItem
 try with_reducible refine ck ?_
 first|refine aa (ak ?_)|skip
 refine aa (wpAny_sequenceKey a.typeIs (by decide) ?_)
 refine aa (wpAny_callSpecial?_slot (name:=Str.ofString "__getitem__") a.typeIs PyProof.Rows.slot_tuple_getitem
  (wpAny_call_entry PyProof.Rows.slot_tuple_getitem a.typeIs entry_tuple_getitem ?_ (args_tuple_getitem _ _)))
 show wpAny _ _ (Builtin.Tuple.tupleItemsOf (.ref t) >>= _) _ _ s;refine aa (tupleItemsOf_ a ?_);refine aa (wpAny_typeOf f ?_);rw[ai (by decide)];refine aa (yW (n:=its.toArray.size) l pl o pt (by rw[ag];omega) ?_);dsimp only;rw[ab (by intro q;rw[Bool.and_eq_true,Bool.and_eq_true]at q;exact absurd q.1.2 (by decide))];have e:((List.range (its.toArray.size - 1)).filterMap λ(m:Nat)=>its.toArray[(((its.toArray.size:Nat):Int) - 1+(m:Int) * -1).toNat]?).toArray=(revT its).toArray:=by rw[ag,hk];have q:=wX its k hk;unfold revT;rw[←q];congr 2;funext m;congr 1;omega
 rw[e];have hsz:sizeOk (.seq (revT its).toArray):=by show(revT its).toArray.size<=sizeLine;rw[ag];unfold revT;rw[List.length_reverse,bx];omega
 first
  | exact aa (m:=Builtin.Tuple.tupleExact _) (ci (ak ⟨_,rfl,ak h⟩) hsz)
  | exact aa (m:=Builtin.Tuple.tupleExact _) (ci (aa (ak (ak ⟨_,rfl,ak h⟩))) hsz)
  | exact aa (aa (m:=Builtin.Tuple.tupleExact _) (ci (ak (ak ⟨_,rfl,ak h⟩)) hsz))
  | exact aa (aa (m:=Builtin.Tuple.tupleExact _) (ci (ak ⟨_,rfl,ak h⟩) hsz))
def LF (X:Cx)(r:V->Option Int->Option Int->Option Int->Hp->VK->Prop):Prop :=
 ∀(a:c9) (s:Shared) (σ:St) (H:Hp) (x:V) (v vl vu vt:Value) (lo hi st:Option Int) (sl:Addr) (Q:VK),aO X a σ H s->aY x v->s.heap.IsSliceOf sl vl vu vt->IsPart vl lo->IsPart vu hi->IsPart vt st->r x lo hi st H Q ->
  ∃T id,typeLookup (.type T) "__getitem__" = pure (some (.builtin id))/\s.TypeIs v T/\wpAny (model X.prog X.w) X.A (getItem v (.ref sl)) (EP X a σ Q) X.xe s
def tSl3 (r:V->Option Int->Option Int->Option Int->Hp->VK->Prop)(c:TE)(tl b a:TO):TE:=λσ H Q=>c σ H λx g=>tl σ g λl f=>b σ f λu e=>a σ e λt d=>r x l u t d Q
theorem mZ {X:Cx}{e:Expr}{o:TE}{p w:Option Expr}{st:Expr}{tl m j:TO}{d K:Pos}{r:V->Option Int->Option Int->Option Int->Hp->VK->Prop}(P:LF X r)(S:PE X e o)(hl:PO X p tl)(N:PO X w m)(O:PO X (some st) j):PE X (.Subscript e (.Slice p w (some st) K) d) (tSl3 r o tl m j):=by intro a s σ H Q I h;refine Subscript_ (thn (S a s σ H _ I h) λv B ⟨x,H1,I1,r1,G⟩=>?_);refine wpAny_Slice (thn (hl a B σ H1 _ I1 G) λi s2 ⟨l,H2,I2,pl,F⟩=>thn (N a s2 σ H2 _ I2 F) λf A ⟨u,H3,Z,J,E⟩=>thn (O a A σ H3 _ Z E) λg c ⟨t,z,Y,pt,C⟩=>?_);have W:aO X a σ z {c with heap:=c.heap.push {cls:=.type "slice",data:=.fields #[i,f,g]} }:=Y.kept (t':=c.toks) λb ob q=>af _ q;obtain⟨T,id,U,L,R⟩:=P a _ σ z x v i f g l u t c.heap.objs.size Q W r1 (Heap.IsSliceOf.new ..) pl J pt C;exact tail_any (ops:=[v,.ref c.heap.objs.size]) L U R (by with_unfolding_all rfl)
def rBack:V->Option Int->Option Int->Option Int->Hp->VK->Prop:=λx b c st H Q=>b=none/\c=some 0/\st=some (-1)/\∃a xs,x = .ref a/\i8 H a xs/\xs≠[] /\
 ∀p o,H p=none->(o = .lst (revT xs)/\H a=some (.lst xs)∨o = .tup (revT xs)/\H a=some (.tup xs))->Q (.ref p) (upd H p o)
theorem aW.revT {xs:List V}{us:cA}(h:aW xs us):aW (revT xs) (L2.revT us):=(h.drop 1).reverse
theorem zH {α:Type}(xs:List α):(revT xs).length<=xs.length:=by unfold revT;rw[List.length_reverse,bx];omega
theorem w6 {xs:List V}{us:cA}(h:aW xs us)(n:xs≠[]):us≠[]:=λz=>by have:=h.length;rw[z]at this;exact n (List.length_eq_zero_iff.mp this)
theorem DQ {X:Cx}:LF X rBack:=by
 intro g s σ H x v p l m u w st t Q I e i pl f pt h;obtain⟨rfl,rfl,rfl,a,xs,rfl,d|d,j,q⟩:=h
 ·cases e;obtain⟨its,r,hl,hz⟩:=I.list (dN.of d);refine⟨"list",_,slot_list_getitem.lookup,hl.isList.typeIs,?_⟩;have c:=r.length;refine wpAny_getItem_list_slice hl.isList i pl f pt (by decide) ?_ (by rw[ag] <;> omega);rw[FW its (w6 r j)];refine⟨.ref s.heap.objs.size,_,I.laid (t':=s.toks) (o:=.lst (revT xs)) (λb ob q=>af _ q) (ac _) ?_,rfl,q _ _ (I.hok.fresh (ac _)) (.inl ⟨rfl,d⟩)⟩;exact⟨ao (zH xs) hz,_,0,r.revT,ar _ rfl⟩
 ·cases e;obtain⟨its,r,hl,hz⟩:=I.tuple (gF.of d);refine⟨"tuple",_,PyProof.Rows.slot_tuple_getitem.lookup,hl.typeIs,?_⟩;have c:=r.length;refine BP hl i pl f pt (w6 r j) (by omega) ?_;refine⟨.ref s.heap.objs.size,_,I.laid (t':=s.toks) (o:=.tup (revT xs)) (λb ob q=>af _ q) (ac _) ?_,rfl,q _ _ (I.hok.fresh (ac _)) (.inr ⟨rfl,d⟩)⟩;exact⟨ao (zH xs) hz,_,r.revT,⟨_,ar _ rfl,rfl,_,rfl⟩⟩
def rExtU:V->List V->Hp->VK->Prop:=λx vs H Q=>∃l b xs a,x = .ref l/\vs=[.ref b]/\H l=some (.lst xs)/\i8 H b a/\xs.length+a.length<=sizeLine/\Q .non (upd H l (.lst (xs++a)))
theorem NT {l b:Addr}{its its2:iR}{n n2:Nat}{od:Option Addr}{osl:Array (Option Value)}(a:(!its.isEmpty && Builtin.List.listTooLong (its.size+its2.size))=false)(j:its.size<=sizeLine)(i:its.size+its2.size<=sizeLine+1) :
  Meets (Builtin.«list.extend» ⟨[.ref l,.ref b],[]⟩) (λ_ R s=>s.heap.get? l=some {cls:=.type "list",data:=.seq its n}/\s.heap.get? b=some ⟨.type "tuple",od,.seq its2 n2,osl⟩ /\
   R (.ok (.ret .none)) {s with heap:=s.heap.update l (Obj.mapSeq λx=>x++its2)}):=by
 refine .of_wp λprog w A R c h=>?_;obtain⟨m,g,d,tk,os⟩:=c;obtain⟨hl,e,h⟩:=h;have a:¬(!its.isEmpty && Builtin.List.listTooLong (its.size+its2.size))=true:=by rw[a];decide
 have f1:=AutoSeq1.idx_int;have p:=AutoSeq1.sub_tuple_list;have o:=AutoSeq1.sub_list_tuple;have f:(its++its2).size<=sizeLine+1:=by rw[Array.size_append];exact i
 wp_walk using (wpAny_updateSeq hl rfl (hz:=j) (_hz':=f)),
  bg hl,bg e
 exact⟨_,rfl,h⟩
theorem iH {X:Cx}:RF X "list.extend" rExtU:=by
 intro a s σ H x vs v us Q I f g h;obtain⟨l,b,xs,p,j,o,c,d|d,hz,q⟩:=h
 ·exact GG a s σ H x vs v us Q I f g ⟨l,b,xs,p,j,o,c,d,hz,q⟩
 subst j o;cases f;obtain⟨u,rfl,t⟩:=g.one;cases t;obtain⟨z,its,n,r,hl,e⟩:=I.lstM c;obtain⟨its2,i,⟨⟨J,od,w,osl⟩,B,E,n2,C⟩,G⟩:=I.tuple (gF.of d);cases E;cases C;have A:=i.length;have hsz:its.toArray.size+its2.toArray.size<=sizeLine:=by rw[ag,ag];omega
 have m:=NT (l:=l) (b:=b) (its:=its.toArray) (its2:=its2.toArray) (n:=n) (n2:=n2) (od:=od) (osl:=osl) (by rw[tP hsz,Bool.and_false]) (by rw[ag];omega) (by omega);refine call_meets F.slot_list_extend ⟨_,e,rfl⟩ F.entry_list_extend (F.args_list_extend_2 _ _) m ⟨e,B,?_⟩;refine⟨.non,_,I.lset (its':=its++its2) c e (by simp) (r.append i) ?_,rfl,q⟩;rw[aq];omega
noncomputable def tl1 (z:Str):Str:=⟨(z.cps.toList.drop 1).toArray⟩
def rSlTx:V->Option Int->Option Int->Hp->VK->Prop:=λx a b H Q=>∃z,x = .str z/\a=some 1/\b=none/\1<=z.length/\z.length<=sizeLine/\Q (.str (tl1 z)) H
theorem FU (z:Str)(h:1<=z.length)(u:Tok):slicePicked z (some (1,u)) none none=(List.range (z.length - 1)).map λm=>1+m:=by
 show Builtin.Str.strSliceIndices (some 1) none 1 z.length=_;unfold Builtin.Str.strSliceIndices;dsimp only;rw[ab (show ¬(1:Int)<0 by decide),ai (show(1:Int) > 0 by decide),ai (show(1:Int) > 0 by decide)];have e:max 0 (min 1 (z.length:Int))=1:=by omega
 rw[e];unfold sliceRange;dsimp only;rw[ai (by decide)];have c:(if (1:Int)<(z.length:Int)then((z.length:Int) - 1+1 - 1) / 1 else 0).toNat=z.length - 1:=by
  split
  ·rw[Int.ediv_one];omega
  ·omega
 rw[c];refine List.map_congr_left λm _=>?_;omega
theorem O1 {X:Cx}:RY X rSlTx:=by
 intro a s σ H x v j i p r o Q I b d pl c h;obtain⟨z,rfl,rfl,rfl,g,hz,q⟩:=h;obtain⟨t,rfl⟩:=b;cases pl;rename_i tk;cases c;refine⟨"str",_,F.slot_str_getitem.lookup,typeIs_str _ _ _,?_⟩;refine wpAny_getItem_str_slice (l:=some (1,tk)) (u:=none) (st:=none) d rfl ?_;have f:=FU z g tk;unfold sliceMade;rw[f,ab (by intro w;rw[Bool.and_eq_true]at w;have:=eq_of_beq w.2;simp at this;omega)];have e:(((List.range (z.length - 1)).map λm=>1+m).filterMap (z.cps[·]?)).toArray=(z.cps.toList.drop 1).toArray:=by have:=pick_run z.cps 1 (z.length - 1);rw[this];congr 1;rw[List.take_of_length_le];rw[bx,br];exact ac _
 rw[e];refine⟨?_,.str (tl1 z),H,I.tok _,⟨_,rfl⟩,q⟩;show(z.cps.toList.drop 1).toArray.size<=sizeLine;have hd:(z.cps.toList.drop 1).length=z.cps.size - 1:=by simp
 rw[ag,hd];exact ao (Nat.sub_le _ _) hz
noncomputable def SN (z:Str):It:=⟨λi _=>i<z.cps.size,λi H x H'=>H'=H/\∃c,z.cps[i]?=some c/\x = .str ⟨#[c]⟩,λi _=>i=z.cps.size⟩
theorem HP {P:Program}{w:World}{K:PySem.W.Frag}{L:Expr}(it:Addr)(z:Str)(t:Tok):q8 P w K L (SN z) [it] it (λi h=>h.IsStrIter it "str_ascii_iterator" z t i) where
 mem:=by simp
 obj:=λi h st b f=>by
  obtain rfl:b=it:=by simpa using f
  obtain⟨o,e,c,d⟩:=st;exact⟨o,e,λv q=>by rw[d]at q;cases q⟩
 keep:=λi h h' st k=>by obtain⟨o,e,r⟩:=st;exact⟨o,k it (by simp) o e,r⟩
 item:=by intro X A m B x i a s σ H E I l st j;subst A m B;obtain⟨J,f1,f2,G,F,C⟩:=l it (by simp);have W:=Walks.strAscii (prog:=X.prog) (w:=X.w) (I.ok.hd x) it z t;refine W.item i s _ _ j st λv h' tk O g N=>?_;obtain⟨c,u,p,rfl⟩:=O;have S:aO X a σ H {s with heap:=h',toks:=tk}:=I.turned (λb o f e=>N b o (by simpa using f) e) J f1 G F C;obtain⟨o,e,R,d⟩:=id g;exact⟨_,rfl,wF (s:={s with heap:=h',toks:=tk}) e R d (by decide) ⟨.str ⟨#[c]⟩,H,S,⟨u,rfl⟩,⟨rfl,c,p,rfl⟩,g,λb f=>(l b f).1⟩⟩
 done:=by intro X A m B x i a s σ H E I l st j;subst A m B;obtain⟨J,f1,f2,G,F,C⟩:=l it (by simp);have j:i=z.cps.size:=j;subst j;exact wpAny_pyNext_ascii_end (I.ok.hd x) st (by simp) λh' Q=>⟨rfl,I.turned (t':=s.toks) (λb o f e=>Q b o f e) J f1 G F C⟩
 self:=λ_ _ _ _ _ st h=>wpAny_pyIter_striter_ascii st h
def iTxt (a:TE):TI:=λσ H R=>a σ H λx b=>∃z:Str,x = .str z/\z.cps.all (· < 128)=true/\R (SN z) b
theorem IW {X:Cx}{g e:Expr}{f:TE}(j:PE X e f):PI X g e (iTxt f):=by
 intro a s σ H R I h;refine thn (j a s σ H _ I h) λv c ⟨x,p,d,r1,i⟩=>?_;obtain⟨z,rfl,m,q⟩:=i;obtain⟨t,rfl⟩:=r1;refine wpAny_pyIter_ascii m ?_;refine⟨c.heap.objs.size,[c.heap.objs.size],_,_,p,rfl,d.kept (t':=c.toks) λb o e=>af _ e,HP _ z t,⟨_,ar _ rfl,rfl,rfl⟩,λb l=>?_,q⟩;obtain rfl:b=c.heap.objs.size:=by simpa using l
 exact d.fpOk (ac _) (d.hok.fresh (ac _))
theorem dF {src:List (Option Nat)}{a:TI}{g:TG}{b:TT}{c:TE}:tComp src a g b c=λσ H Q=>a σ H λJ d=>n5 J g b c Q (stC src σ) d:=rfl
theorem eM {a:TI}{g:TG}{b:TS}:tFor a g b=λD σ H=>a σ H λJ c=>sD J g b D σ c:=rfl
theorem bX {c:Bool}{a b:Prop}(e:c=true->a)(d:c=false->b):(if c=true then a else b):=by
 cases c with
 | true=>rw[ai rfl];exact e rfl
 | false=>rw[ab (by decide)];exact d rfl
section
variable {X:Cx}{CX:BJ}{k:Nat}{sp:Sp}{E:XK}{x m:Str}{C:Addr}{p pos apos:Pos}{o e:Expr}{es:lM}{ta:TE}{t:TA}
theorem oB {pl:Sem Bool}(O:BF X.prog X.w X.K X.mg X.base CX k C m sp)(h:eP k X.A)(d:k6 CX X E)(i:PE X o ta)(l:PA X (e::es) t)
  (a:starEach (e::es) X.env=(false,eval e X.env)::starEach es X.env:=by rfl) (b:(backTo pos (starEach es X.env)).any (·.1)=false:=by rfl)
  (g:eval (.Call (.Attribute o m apos) (e::es) [] pos) X.env=(do
   let ov ←eval o X.env
   standAt apos.atName
   let(f,first) ←holding [ov] (getMethod ov m pl)
   callWith pos f first (backTo pos (starEach (e::es) X.env)) (backToKw pos (keywordEach [] X.env))):=by rfl):PE X (.Call (.Attribute o m apos) (e::es) [] pos) (tMeth C m sp [] E ta t):=by
 obtain⟨f,p,ps,F,M,j,c⟩:=O;exact ML i c M F h j .nil d l a b g
def Q0 (P:Program)(w:World)(K:PySem.W.Frag)(mg:jF)(base:Heap)(CX:BJ)(k:Nat)(x:Str)(C:Addr)(b:Sp):Prop :=
 ∃f a ps,bY P w K mg base CX k f a ps b/\mg x=some (.ref C)/\Mk K C f/\eN K a ps []
theorem RP (O:Q0 X.prog X.w X.K X.mg X.base CX k x C sp)(d:eP (k+1) X.A)(c:k6 CX X E)(g:Gl X x)(j:PA X (e::es) t)(b:(x == ("__debug__" : Str))=false:=by decide)
  (h:starEach (e::es) X.env=(false,eval e X.env)::starEach es X.env:=by rfl) (a:(backTo pos (starEach es X.env)).any (·.1)=false:=by rfl):PE X (.Call (.Name x p) (e::es) [] pos) (tMake C sp [] E t):=by
 obtain⟨f,l,ps,F,hm,M,i⟩:=O;exact MM M F d g hm i .nil c j b h a
end
section
variable {g:TG}{tt:TT}{te:TE}{Q:VK}{σ:St}{H:Hp}
theorem wO {z:Str}(Pv:Nat->List V->St->Hp->Prop)(f:Pv 0 [] σ H)(b:∀i c a σ H,z.cps[i]?=some c->Pv i a σ H->CStep g tt te (.str ⟨#[c]⟩) a σ H (Pv (i+1)))
  (hd:∀a σ H,Pv z.cps.size a σ H->∀p,H p=none->Q (.ref p) (upd H p (.lst a))):n5 (SN z) g tt te Q σ H :=
 kA (n:=z.cps.size) Pv f (λi a σ H d p=>⟨d,λx H' y=>by obtain⟨rfl,c,e,rfl⟩:=y;exact b i c a σ _ e p⟩) λa σ H p=>⟨rfl,hd a σ H p⟩
end
noncomputable def inTx (z:Str)(c:Nat):Bool:=!(Builtin.Str.occurrences z ⟨#[c]⟩ 0 z.length 1).isEmpty
end L2
namespace L2
open PySem PySem.Spec PyProof.Rows PySem.W
def iM (n:Nat)(lt:Nat->Nat->Bool){α:Type}:KasT α->(α->Prop)->Prop
 | .ret a,Q=>Q a
 | .ask i j k,Q=>i<n/\j<n/\iM n lt (k (lt i j)) Q
theorem iM.bind {n:Nat}{lt:Nat->Nat->Bool}{α β:Type}{f:α->KasT β}{Q:β->Prop}{R:α->Prop}(b:∀a,R a->iM n lt (f a) Q):∀{t:KasT α},iM n lt t R->iM n lt (t.bind f) Q
 | .ret a,h=>b a h
 | .ask i j k,h=>⟨h.1,h.2.1,iM.bind b h.2.2⟩
theorem iM.mono {n:Nat}{lt:Nat->Nat->Bool}{α:Type}{Q R:α->Prop}(b:∀a,R a->Q a):∀{t:KasT α},iM n lt t R->iM n lt t Q
 | .ret a,h=>b a h
 | .ask i j k,h=>⟨h.1,h.2.1,iM.mono b h.2.2⟩
structure R1 (n:Nat)(lt:Nat->Nat->Bool):Prop where
 irr:∀i,lt i i=false
 asym:∀i j,lt i j=true->lt j i=false
 tr:∀i j k,lt j i=false->lt k j=false->lt k i=false
section
variable {n:Nat}{lt:Nat->Nat->Bool}
def le (lt:Nat->Nat->Bool)(i j:Nat):Prop:=lt j i=false
noncomputable abbrev pa (p:Array Nat)(i:Nat):Nat:=p.getD i 0
def Up (lt:Nat->Nat->Bool)(p:Array Nat)(k:Nat):Prop:=∀i j,i<=j->j<k->le lt (pa p i) (pa p j)
def Dn (lt:Nat->Nat->Bool)(p:Array Nat)(k:Nat):Prop:=∀i j,i<=j->j<k->le lt (pa p j) (pa p i)
def Gd (n:Nat)(p:Array Nat):Prop:=p.Perm (List.range n).toArray
theorem Gd.size {p:Array Nat}(h:Gd n p):p.size=n:=by have:=h.size_eq;simpa using this
theorem Gd.inn {p:Array Nat}(h:Gd n p)(b:1<=n)(i:Nat):pa p i<n:=by
 by_cases a:i<p.size
 ·have e:pa p i=p[i]:=by simp[pa,Array.getD,a]
  rw[e];have hm:p[i]∈p.toList:=by simp
  have:=(Array.perm_iff_toList_perm.mp h).mem_iff.mp hm
  simpa using this
 ·have e:pa p i=0:=by simp[pa,Array.getD,a]
  rw[e];exact b
theorem zS {p q:Array Nat}{i j:Nat}(h:p[i]?=q[j]?):pa p i=pa q j:=by unfold pa;rw[Array.getD_eq_getD_getElem?,Array.getD_eq_getD_getElem?,h]
theorem kP {p:Array Nat}{i j:Nat}(a:j<=p.size)(k:Nat):pa (kas_rev p i j) k=if i<=k/\k<j then pa p (i+j - 1 - k)else pa p k:=by
 have e:=getElem?_mirror_all (xs:=p) (i:=i) a k;unfold kas_rev;by_cases h:i<=k/\k<j
 ·rw[ai h]at e⊢;exact zS e
 ·rw[ab h]at e⊢;exact zS e
theorem PF {p:Array Nat}{src d:Nat}(c:src<p.size)(hd:d<=src)(k:Nat):pa (bubble p src d) k=if k=src - d then pa p src else if src - d<k/\k<=src then pa p (k - 1)else pa p k:=by
 have e:=getElem?_bubble (xs:=p) c d hd k;by_cases b:k=src - d
 ·rw[ai b]at e⊢;exact zS e
 ·rw[ab b]at e⊢;by_cases a:src - d<k/\k<=src
  ·rw[ai a]at e⊢;exact zS e
  ·rw[ab a]at e⊢;exact zS e
theorem Gd.rev {p:Array Nat}(h:Gd n p)(i j:Nat):Gd n (kas_rev p i j):=(mirror_perm p i j _).trans h
theorem Gd.bub {p:Array Nat}(h:Gd n p)(i j:Nat):Gd n (bubble p i j):=(bubble_perm p i j).trans h
variable (O:R1 n lt)
include O
theorem R1.le_refl (i:Nat):le lt i i:=O.irr i
theorem R1.le_trans {i j k:Nat}(a:le lt i j)(b:le lt j k):le lt i k:=O.tr i j k a b
theorem R1.le_of {i j:Nat}(h:lt i j=true):le lt i j:=O.asym i j h
theorem Up.snoc {p:Array Nat}{k:Nat}(h:Up lt p k)(d:1<=k)(e:le lt (pa p (k - 1)) (pa p k)):Up lt p (k+1):=by
 intro i j b f;by_cases a:j<k
 ·exact h i j b a
 ·have:j=k:=by omega
  subst this;by_cases c:i=j
  ·subst c;exact O.le_refl _
  ·exact O.le_trans (h i (j - 1) (by omega) (by omega)) e
theorem Dn.snoc {p:Array Nat}{k:Nat}(h:Dn lt p k)(d:1<=k)(e:le lt (pa p k) (pa p (k - 1))):Dn lt p (k+1):=by
 intro i j b f;by_cases a:j<k
 ·exact h i j b a
 ·have:j=k:=by omega
  subst this;by_cases c:i=j
  ·subst c;exact O.le_refl _
  ·exact O.le_trans e (h i (j - 1) (by omega) (by omega))
theorem uM {p:Array Nat}(g:Gd n p)(i:1<=n):∀(f k:Nat),1<=k->Up lt p k->iM n lt (kas_asc p f k) λm=>k<=m/\m<=k+f/\Up lt p m/\(m<k+f->lt (pa p m) (pa p (m - 1))=true)
 | 0,k,j,h=>⟨ac _,ac _,h,λz=>absurd z (cf _)⟩
 | f+1,k,j,h=>by
  refine⟨g.inn i _,g.inn i _,?_⟩;cases c:lt (p.getD k 0) (p.getD (k - 1) 0)with
  | true =>
   dsimp only;rw[ai rfl];exact⟨ac _,by omega,h,λ_=>c⟩
  | false =>
   dsimp only;rw[ab (by decide)];exact(uM g i f (k+1) (by omega) (Up.snoc O h j c)).mono λm ⟨a,b,d,e⟩=>⟨by omega,by omega,d,λz=>e (by omega)⟩
theorem oN {p:Array Nat}{k:Nat}(g:Gd n p)(d:1<=n)(up:Up lt p k):∀(f l r:Nat),r - l<=f->l<=r->r<=k->(∀i,i<l->le lt (pa p i) (pa p k))->(∀i,r<=i->i<k->le lt (pa p k) (pa p i)) ->
  iM n lt (kas_place p k f l r) λm=>m<=k/\(∀i,i<m->le lt (pa p i) (pa p k))/\(∀i,m<=i->i<k->le lt (pa p k) (pa p i))
 | 0,l,r,s,j,a,h,e=>by
  have:l=r:=by omega
  subst this;exact⟨a,h,e⟩
 | f+1,l,r,s,j,a,h,e=>by
  unfold kas_place;by_cases b:l ≥ r
  ·rw[ai b];have:l=r:=by omega
   subst this;exact⟨a,h,e⟩
  ·rw[ab b];refine⟨g.inn d _,g.inn d _,?_⟩;cases c:lt (p.getD k 0) (p.getD ((l+r) / 2) 0)with
   | true =>
    dsimp only;rw[ai rfl];refine oN g d up f l ((l+r) / 2) (by omega) (by omega) (by omega) h λi o q=>?_;exact O.le_trans (O.le_of c) (up _ _ o q)
   | false =>
    dsimp only;rw[ab (by decide)];refine oN g d up f ((l+r) / 2+1) r (by omega) (by omega) a (λi o=>?_) e;exact O.le_trans (up i ((l+r) / 2) (by omega) (by omega)) c
theorem OS {p:Array Nat}{k l:Nat}(g:k<p.size)(up:Up lt p k)(hl:l<=k)(m:∀i,i<l->le lt (pa p i) (pa p k))(h:∀i,l<=i->i<k->le lt (pa p k) (pa p i)):Up lt (bubble p k (k - l)) (k+1):=by
 have e:=PF (p:=p) g (Nat.sub_le k l);have o:k - (k - l)=l:=by omega
 rw[o]at e;intro i j b q;rw[e i,e j];by_cases f:i=l
 ·rw[ai f];by_cases a:j=l
  ·rw[ai a];exact O.le_refl _
  ·rw[ab a,ai (by omega)];exact h _ (by omega) (by omega)
 ·rw[ab f];by_cases d:l<i/\i<=k
  ·rw[ai d,ab (by omega),ai (by omega)];exact up _ _ (by omega) (by omega)
  ·rw[ab d];by_cases a:j=l
   ·rw[ai a];exact m _ (by omega)
   ·rw[ab a];by_cases c:l<j/\j<=k
    ·rw[ai c];exact up _ _ (by omega) (by omega)
    ·rw[ab c];exact up _ _ b (by omega)
theorem A8 (b:1<=n):∀(f:Nat) (p:Array Nat) (k:Nat),Gd n p->k+f<=n->Up lt p k->iM n lt (kas_bin f p k) λq=>Gd n q/\Up lt q (k+f)
 | 0,p,k,g,c,up=>⟨g,up⟩
 | f+1,p,k,g,c,up=>by
  unfold kas_bin;refine iM.bind (R:=λm=>m<=k/\(∀i,i<m->le lt (pa p i) (pa p k))/\(∀i,m<=i->i<k->le lt (pa p k) (pa p i))) (λm hm=>?_) (oN O g b up k 0 k (by omega) (by omega) (ac _) (λi a=>absurd a (Nat.not_lt_zero _)) λi a c=>absurd a (by omega));refine(A8 b f (bubble p k (k - m)) (k+1) (g.bub _ _) (by omega) (OS O (by rw[g.size];omega) up hm.1 hm.2.1 hm.2.2)).mono λq h=>⟨h.1,?_⟩
  rw[show k+(f+1)=k+1+f by omega];exact h.2
def RG (lt:Nat->Nat->Bool)(p:Array Nat)(n q:Nat):Prop:=∀i j,n - (q+1)<=i->i<n->n - (q+1)<=j->j<n->le lt (pa p i) (pa p j)
theorem KU {p:Array Nat}{k q:Nat}(b:k<=p.size)(dn:Dn lt p k)(eq:RG lt p k q):Dn lt (kas_rev p (k - (q+1)) k) k:=by
 intro i j a e;rw[kP b,kP b];by_cases d:k - (q+1)<=i/\i<k
 ·rw[ai d,ai (by omega)];exact eq _ _ (by omega) (by omega) (by omega) (by omega)
 ·rw[ab d];by_cases c:k - (q+1)<=j/\j<k
  ·rw[ai c];exact dn _ _ (by omega) (by omega)
  ·rw[ab c];exact dn _ _ a e
theorem tL {p:Array Nat}{i j:Nat}(a:j<=p.size){k:Nat}(h:j<=k):pa (kas_rev p i j) k=pa p k:=by rw[kP a,ab (by omega)]
theorem nJ (e:1<=n):∀(f:Nat) (p:Array Nat) (k q:Nat),Gd n p->1<=k->k+f<=n->q+1<=k->Dn lt p k->RG lt p k q->iM n lt (kas_desc f p k q) λr=>Gd n r.1/\k<=r.2.1/\r.2.1<=k+f/\r.2.2+1<=r.2.1/\Dn lt r.1 r.2.1/\RG lt r.1 r.2.1 r.2.2
 | 0,p,k,q,g,h,v,m,dn,eq=>⟨g,ac _,ac _,m,dn,eq⟩
 | f+1,p,k,q,g,h,v,m,dn,eq=>by
  refine⟨g.inn e _,g.inn e _,?_⟩;have one:∀o:Array Nat,RG lt o (k+1) 0:=λo i j a b c d=>by
   have:i=k:=by omega
   have:j=k:=by omega
   subst_vars
   exact O.le_refl _
  have more:∀r:Array Nat×Nat×Nat,(Gd n r.1/\k+1<=r.2.1/\r.2.1<=k+1+f/\r.2.2+1<=r.2.1/\Dn lt r.1 r.2.1/\RG lt r.1 r.2.1 r.2.2)->(Gd n r.1/\k<=r.2.1/\r.2.1<=k+(f+1)/\r.2.2+1<=r.2.1/\Dn lt r.1 r.2.1/\RG lt r.1 r.2.1 r.2.2):=λr ⟨a,b,c,d⟩=>⟨a,by omega,by omega,d⟩
  have hz:k<=p.size:=by rw[g.size];omega
  cases c:lt (p.getD k 0) (p.getD (k - 1) 0)with
  | true =>
   dsimp only;rw[ai rfl];have s:=O.le_of c;by_cases u:q > 0
   ·rw[ai u];have B:=KU O hz dn eq;have A:pa (kas_rev p (k - (q+1)) k) k=pa p k:=tL O hz (ac _);have z:le lt (pa p k) (pa (kas_rev p (k - (q+1)) k) (k - 1)):=by rw[kP hz,ai (by omega)];exact O.le_trans s (eq _ _ (by omega) (by omega) (by omega) (by omega))
    exact(nJ e f _ (k+1) 0 (g.rev _ _) (by omega) (by omega) (by omega) (Dn.snoc O B h (by rw[A];exact z)) (one _)).mono more
   ·rw[ab u];exact(nJ e f p (k+1) 0 g (by omega) (by omega) (by omega) (Dn.snoc O dn h s) (one _)).mono more
  | false =>
   dsimp only;rw[ab (by decide)];refine⟨g.inn e _,g.inn e _,?_⟩;cases c2:lt (p.getD (k - 1) 0) (p.getD k 0)with
   | true =>
    dsimp only;rw[ai rfl];exact⟨g,ac _,by show k<=k+(f+1);omega,m,dn,eq⟩
   | false =>
    dsimp only;rw[ab (by decide)];refine(nJ e f p (k+1) (q+1) g (by omega) (by omega) (by omega) (Dn.snoc O dn h c2) ?_).mono more;have E:le lt (pa p (k - 1)) (pa p k):=c;have C:le lt (pa p k) (pa p (k - 1)):=c2;intro i j G x F w;by_cases t:i=k
    ·by_cases l:j=k
     ·subst t;subst l;exact O.le_refl _
     ·subst t;exact O.le_trans C (eq _ _ (by omega) (by omega) (by omega) (by omega))
    ·by_cases l:j=k
     ·subst l;exact O.le_trans (eq _ _ (by omega) (by omega) (by omega) (by omega)) E
     ·exact eq _ _ (by omega) (by omega) (by omega) (by omega)
theorem LV {p:Array Nat}{k:Nat}(a:k<=p.size)(dn:Dn lt p k):Up lt (kas_rev p 0 k) k:=by intro i j b c;rw[kP a,kP a,ai (by omega),ai (by omega)];exact dn _ _ (by omega) (by omega)
theorem uL (b:1<=n){p:Array Nat}{k m:Nat}(g:Gd n p)(c:1<=k)(d:k<=m)(hm:m<=n)(dn:Dn lt p k):iM n lt (kas_tail3 k m p) λr=>Gd n r.2/\1<=r.1/\r.1<=m/\Up lt r.2 r.1:=by
 have hz:k<=p.size:=by rw[g.size];omega
 unfold kas_tail3;refine iM.bind (λa h=>?_) (uM O (g.rev 0 k) b (m - k) k c (LV O hz dn));exact⟨g.rev 0 k,by have:=h.1;show 1<=a;omega,by have:=h.2.1;show a<=m;omega,h.2.2.1⟩
theorem nR (l:1<=n){p:Array Nat}{k m:Nat}(g:Gd n p)(s:1<=k)(q:k+1<=m)(hm:m<=n)(dn:Dn lt p (k+1)):iM n lt (kas_descPart k m p) λr=>Gd n r.2/\1<=r.1/\r.1<=m/\Up lt r.2 r.1:=by
 unfold kas_descPart
 refine iM.bind (λr h=>?_) (nJ O l (m - (k+1)) p (k+1) 0 g (by omega) (by omega) (by omega) dn λi j a b c d=>by
  have:i=k:=by omega
  have:j=k:=by omega
  subst_vars
  exact O.le_refl _)
 obtain⟨a,b,c,d,e,f⟩:=h;by_cases o:r.2.2 > 0
 ·rw[ai o];exact uL O l (a.rev _ _) (by omega) (by omega) hm (KU O (by rw[a.size];omega) e f)
 ·rw[ab o];exact uL O l a (by omega) (by omega) hm e
theorem C4 (d:1<=n){p:Array Nat}(g:Gd n p):iM n lt (kas_count n p) λr=>Gd n r.2/\1<=r.1/\r.1<=n/\Up lt r.2 r.1:=by
 unfold kas_count
 refine iM.bind (λm h=>?_) (uM O g d (n - 1) 1 (ac _) λi j a b=>by
  have:i=0:=by omega
  have:j=0:=by omega
  subst_vars
  exact O.le_refl _)
 obtain⟨f,v,up,q⟩:=h;by_cases e:m=n
 ·rw[ai (by simpa using e)];exact⟨g,f,by show m<=n;omega,up⟩
 ·rw[ab (by simpa using e)];have t:=q (by omega);by_cases s:m > 1
  ·rw[ai s];refine⟨g.inn d _,g.inn d _,?_⟩;cases c:lt (p.getD 0 0) (p.getD (m - 1) 0)with
   | true =>
    dsimp only;rw[ai rfl];exact⟨g,f,by show m<=n;omega,up⟩
   | false =>
    dsimp only;rw[ab (by decide)];have hz:m<=p.size:=by rw[g.size];omega
    have all:∀i j,i<m->j<m->le lt (pa p i) (pa p j):=λi j u l=>O.le_trans (O.le_trans (up i (m - 1) (by omega) (by omega)) c) (up 0 j (by omega) l);refine nR O d (g.rev 0 m) f (by omega) (ac _) (Dn.snoc O (λi j o l=>?_) f ?_)
    ·rw[kP hz,kP hz,ai (by omega),ai (by omega)];exact all _ _ (by omega) (by omega)
    ·rw[tL O hz (ac _),kP hz,ai (by omega)];exact O.le_trans (O.le_of t) (all _ _ (by omega) (by omega))
  ·rw[ab s];have:m=1:=by omega
   subst this;refine nR O d g (ac _) (by omega) (ac _) (Dn.snoc O (λi j o l=>?_) (ac _) (O.le_of t));have:i=0:=by omega
   have:j=0:=by omega
   subst_vars
   exact O.le_refl _
theorem G8 (b:1<=n):iM n lt (kas_sort n) λq=>Gd n q/\Up lt q n:=by
 unfold kas_sort;refine iM.bind (λr h=>?_) (C4 O b (Array.Perm.refl _));obtain⟨g,d,c,up⟩:=h;by_cases h:r.1<n
 ·rw[ai h,show max r.1 1=r.1 by omega];refine(A8 O b (n - r.1) r.2 r.1 g (by omega) up).mono λq a=>⟨a.1,?_⟩
  rw[←show r.1+(n - r.1)=n by omega];exact a.2
 ·rw[ab h];have:r.1=n:=by omega
  rw[this]at up;exact⟨g,up⟩
end
theorem FB {n:Nat}{lt:Nat->Nat->Bool}{α:Type}{b:Nat->Nat->(Bool->Shared->Prop)->Shared->Prop}(J:Shared->Prop)(f:∀i j C s,i<n->j<n->J s->(∀c,J c->C (lt i j) c)->b i j C s){Q:α->Prop}{R:α->Shared->Prop}(g:∀a s,J s->Q a->R a s) :
  ∀{t:KasT α},iM n lt t Q->∀s,J s->t.kasWp b R s
 | .ret a,h,s,e=>g a s e h
 | .ask i j k,h,s,e=>f i j _ s h.1 h.2.1 e λc d=>FB J f g h.2.2 c d
end L2
namespace L2
open PySem PySem.Spec PyProof.Rows PySem.SeqAt
open PySem.AutoSeq1 (wpAny_loadPart')
open PySem.MeetsSeq PySem.MeetsSeq2 PySem.MeetsSeq3
def LK (A:Around)(s:Shared)(y x:Value)(b:Bool):Prop:=∀(prog:Program) (w:World) (E:cL) (Q:cL),Q (.bool b) s->wpAny (model prog w) A (richCompare .Lt y x) Q E s
inductive vJ (A:Around)(s:Shared):cA->cA->Bool->Prop
 | nn:vJ A s [] [] false
 | nc {v:Value} {vs:cA}:vJ A s [] (v::vs) true
 | cn {u:Value} {us:cA}:vJ A s (u::us) [] false
 | eq {u v:Value} {us vs:cA} {b:Bool}:EqAt A s u v true->vJ A s us vs b->vJ A s (u::us) (v::vs) b
 | ne {u v:Value} {us vs:cA} {b:Bool}:EqAt A s u v false->LK A s u v b->vJ A s (u::us) (v::vs) b
def Q2 (us:iR)(i:Nat)(xs:cA):Prop:=i<=us.size/\us.toList.drop i=xs
theorem Q2.end_ {us:iR}{i:Nat}(h:Q2 us i []):us.size=i/\us[i]?=none:=by have e:=congrArg List.length h.2;rw[bx,br,List.length_nil]at e;have:=h.1;exact⟨by omega,Array.getElem?_eq_none (by omega)⟩
theorem Q2.next {us:iR}{i:Nat}{x:Value}{xs:cA}(h:Q2 us i (x::xs)):i<us.size/\us[i]?=some x/\Q2 us (i+1) xs:=by
 have e:=congrArg List.length h.2;rw[bx,br,ap]at e;have lt:i<us.toList.length:=by rw[br];omega
 have a:=h.2;rw[List.drop_eq_getElem_cons lt]at a;injection a with c b;rw[br]at lt;refine⟨lt,?_,lt,b⟩;rw[Array.getElem?_eq_getElem lt,←c];rfl
abbrev uW (l b:Addr)(ol ob:Obj)(xs ys:cA):PySem.Spec:=λA R s=>s.heap.get? l=some ol/\s.heap.get? b=some ob/\∃r,vJ A.in1 s xs ys r/\R (.ok (.ret (.bool r))) s
theorem sY {l b:Addr}{c ob:Obj}{xs a:cA}{i:Nat}{prog:Program}{w:World}{A:Around}{R:Result->Shared->Prop}{s:Shared}(m:Meets (Builtin.«list.__eq__.loop» (ltAsk l b i)) (uW l b c ob xs a))(h:uW l b c ob xs a A R s) :
  (Code.builtin "list.__eq__.loop" (ltAsk l b i)).quiet=true/\codeAny (model prog w) A (.builtin "list.__eq__.loop" (ltAsk l b i)) R s:=by
 refine⟨plainId_quiet plain_eq_loop (ltAsk l b i),codeAny_builtin entry_eq_loop ?_⟩;have u:=A.under_plainId plain_eq_loop (ltAsk l b i);rw[u];exact m prog w A R s h
theorem vO (l b:Addr)(us vs:iR)(n k:Nat)(E C:Option Addr)(u t:Array (Option Value)):∀(xs o:cA) (i:Nat),Q2 us i xs->Q2 vs i o ->
  Meets (Builtin.«list.__eq__.loop» (ltAsk l b i)) (uW l b {cls:=.type "list",dict:=E,data:=.seq us n,slots:=u} {cls:=.type "list",dict:=C,data:=.seq vs k,slots:=t} xs o)
 | [],o,i,f,g=>by
  rintro prog w A R ⟨v,B,d,tk,os⟩ ⟨a,c,r,q,h⟩;obtain⟨z,s⟩:=f.end_;have j:r=decide (us.size<vs.size):=by
   cases q with
   | nn=>exact(bj (by rw[z,(g.end_).1];exact cf _)).symm
   | nc=>exact(bh (by rw[z];exact(g.next).1)).symm
  rw[j]at h
  wp_walk using bg a,bg c
  rw[show((i:Nat):Int).toNat=i from rfl,s];cases vs[i]? <;> wp_walk using bg a,bg c <;> exact h
 | x::xs,[],i,f,g=>by
  rintro prog w A R ⟨v,B,d,tk,os⟩ ⟨a,c,r,q,h⟩;obtain⟨z,s⟩:=g.end_;obtain⟨lt,is,_⟩:=f.next
  cases q;have j:false=decide (us.size<vs.size):=(bj (by omega)).symm;rw[j]at h
  wp_walk using bg a,bg c
  rw[show((i:Nat):Int).toNat=i from rfl,s,is]
  wp_walk using bg a,bg c
  exact h
 | x::xs,y::o,i,f,g=>by
  have go:=vO l b us vs n k E C u t xs o (i+1) (f.next).2.2 (g.next).2.2;rintro prog w A R ⟨v,B,d,tk,os⟩ ⟨a,c,r,q,h⟩;obtain⟨_,p,_⟩:=f.next
  obtain⟨_,isV,_⟩:=g.next
  wp_walk using bg a,bg c
  rw[show((i:Nat):Int).toNat=i from rfl,p,isV];cases q with
  | eq e rest =>
   refine aa (e prog w _ _ ?_)
   wp_walk
   exact sY go ⟨a,c,r,rest,h⟩
  | ne e m =>
   refine aa (e prog w _ _ ?_);have m:=m prog w
   wp_walk using bg a,bg c
   rw[p,isV]
   wp_walk using m
   exact h
theorem yA (l b:Addr)(us vs:iR)(n k:Nat)(i g:Option Addr)(f e:Array (Option Value)) :
  Meets (Builtin.«list.__lt__» ⟨[.ref l,.ref b],[]⟩) (uW l b {cls:=.type "list",dict:=i,data:=.seq us n,slots:=f} {cls:=.type "list",dict:=g,data:=.seq vs k,slots:=e} us.toList vs.toList):=by
 have go:=vO l b us vs n k i g f e us.toList vs.toList 0 ⟨au _,rfl⟩ ⟨au _,rfl⟩;rintro prog w A R ⟨j,m,d,tk,os⟩ ⟨a,c,h⟩;have kind:=AutoSeq1.sub_list_list
 wp_walk using bg a,bg c
 exact sY go ⟨a,c,h⟩
theorem uY (l b:Addr)(us vs:iR)(n k:Nat)(G F:Option Addr)(v u:Array (Option Value)) :
  Meets (Builtin.«tuple.__lt__» ⟨[.ref l,.ref b],[]⟩) (uW l b {cls:=.type "tuple",dict:=G,data:=.seq us n,slots:=v} {cls:=.type "tuple",dict:=F,data:=.seq vs k,slots:=u} us.toList vs.toList):=by
 refine .of_wp λprog w A R z h=>?_;obtain⟨t,g,d,tk,os⟩:=z;obtain⟨hl,E,r,C,h⟩:=h;have f2:=AutoSeq1.sub_tuple_tuple
 wp_walk using bg hl,bg E,wpAny_forIn_list _ (λrest b p=>b.1=none/\p=⟨t,g,d,tk,os⟩/\∃(xs o:cA),rest=xs.zip o/\vJ A.in1 ⟨t,g,d,tk,os⟩ xs o r/\xs.length+vs.size=o.length+us.size) _
 case turn =>
  rintro⟨y,x⟩ rest b p ⟨m,rfl,xs,o,hz,j,a⟩;cases j with
  | nn=>cases hz
  | nc=>cases hz
  | cn=>cases hz
  | eq c more =>
   rw[List.zip_cons_cons]at hz;injection hz with i f;injection i with q s;subst q s;simp only[ap]at a;refine aa (c prog w _ _ ?_)
   wp_walk
   exact⟨rfl,rfl,_,_,f,more,by omega⟩
  | ne c e =>
   rw[List.zip_cons_cons]at hz;injection hz with i f;injection i with q s;subst q s;refine aa (c prog w _ _ ?_);have e:=e prog w
   wp_walk using e
   refine⟨_,rfl,?_⟩
   simpa using h
 case fin =>
  rintro⟨I,H⟩ p ⟨m,rfl,xs,o,hz,j,a⟩;simp only at m;subst m;have B:r=decide (us.size<vs.size):=by
   cases j with
   | nn =>
    simp only[List.length_nil]at a;exact(bj (by omega)).symm
   | nc =>
    simp only[List.length_nil,ap]at a;exact(bh (by omega)).symm
   | cn =>
    simp only[List.length_nil,ap]at a;exact(bj (by omega)).symm
   | eq _ _=>rw[List.zip_cons_cons]at hz;cases hz
   | ne _ _=>rw[List.zip_cons_cons]at hz;cases hz
  rw[B]at h
  wp_walk
  exact⟨_,rfl,by simpa [Builtin.Tuple.tupleCompareSizes] using h⟩
 case h =>
  exact⟨rfl,rfl,us.toList,vs.toList,rfl,C,by simp[Nat.add_comm]⟩
end L2
namespace L2
open PySem PySem.Spec PyProof.Rows
theorem aO.adopt {X:Cx}{d:c9}{σ:St}{H:Hp}{s:Shared}{a:Addr}{o:HO}(I:aO X d σ H s)(f:fS X d H a)(new:cK X.prog X.w (upd H a o) s.heap a o):aO X d σ (upd H a o) s:=by
 obtain⟨C,f1,f2,B,A,v⟩:=f;have keep:∀b u,H b=some u->upd H a o b=some u:=λb u e=>by rw[aE (aG e C)];exact e
 refine {ok:=I.ok,os:=I.os,bare:=I.bare,base:=?_,loc:=I.loc,cell:=I.cell,free:=?_,freeC:=?_,pin:=?_,hok:=?_,len:=I.len}
 ·have u:=I.base
  exact {
   keep:=u.keep,slot:=u.slot,there:=u.there,tups:=λb xs e=>keep _ _ (u.tups b xs e),frzs:=λb q r e=>keep _ _ (u.frzs b q r e),
   tbls:=λb ps e=>by obtain⟨more,h⟩:=u.tbls b ps e;exact⟨more,keep _ _ h⟩,
   free:=λb q e n g=>by
    have ne:b≠a:=λz=>by
     rcases B with h|h
     ·exact g (z ▸ h)
     ·exact cf _ (bf (az e) (z ▸ h))
    rw[aE ne]
    exact u.free b q e n g}
 ·rw[aE (Ne.symm f1)];exact I.free
 ·intro x c e;rw[aE (A x c e)];exact I.freeC x c e
 ·intro p i;obtain⟨t,m,l⟩:=I.pin p i;exact⟨t,by rw[aE (v p i)];exact m,l⟩
 ·intro b u e;by_cases j:b=a
  ·subst j;rw[upd_same]at e;cases e;exact new
  ·rw[aE j]at e;exact(I.hok b u e).stay (λ_ _ _ q=>q) (λc q=>keep _ _ q) (λc xs q=>keep _ _ q)
theorem fS.at {X:Cx}{a:c9}{H H':Hp}{b:Addr}(f:fS X a H b)(h:H' b=none):fS X a H' b:=⟨h,f.2⟩
def yZ (vs:cA)(ks:List fR):Prop:=ks.length=vs.length/\∀(i:Nat) (k:fR) (v:Value),ks[i]?=some k->vs[i]?=some v->keyIs k v=true/\v.scannable=true
def LM (P:Program)(w:World)(h:Heap)(S:Addr)(ks:List fR)(i:Nat):Prop:=h.SetOf (cN P w) S (λk=>(ks.take i).any λx=>decide (x=k)) i
theorem LM.at {P:Program}{w:World}{h h':Heap}{S:Addr}{ks:List fR}{i:Nat}(x:LM P w h S ks i)(k:∀o,h.get? S=some o->h'.get? S=some o):LM P w h' S ks i:=by obtain⟨o,es,a,t,e,r⟩:=x;exact⟨o,es,a,t,k _ e,r⟩
local macro_rules | `(tactic| walk_at "sd_on")=>`(tactic| (repeat (any_goals (first | assumption | wp_step))))
section
variable {P:Program}{w:World}{A:Around}
theorem ED {I S:Addr}{R:Result->Shared->Prop}{s:Shared}(h:wpAny (model P w) A.in1 (Builtin.«set.update.loop» ⟨[.ref S,.ref I],[]⟩) (λy a=>match y with | .done f=>R (.ok f) a | .again c=>c.quiet=true/\codeAny (model P w) A c R a) (λe a=>R (.error e) a) s):codeAny (model P w) A (.builtin "set.update.loop" ⟨[.ref S,.ref I],[]⟩) R s :=
 codeAny_builtin F.entry_set_update_loop (by rw[Around.under_plainId F.plain_set_update_loop _];exact h)
theorem IG {l I S:Addr}{items:cA}{ks:List fR}(U:A.handled=none)(E:yZ items ks)(nd:ks.Nodup)(Y:items.length+1<scanBound)(n1:S≠I)(n2:l≠I)(n3:l≠S){R:Result->Shared->Prop} :
  ∀(j i:Nat) (s:Shared),i+j=items.length->s.heap.IsListIter I l i->s.heap.IsList l items.toArray->LM P w s.heap S ks i ->
   (∀h' tk,LM P w h' S ks items.length->(∀b o,b≠S->b≠I->s.heap.get? b=some o->h'.get? b=some o)->R (.ok (.ret .none)) {s with heap:=h',toks:=tk}) ->
   codeAny (model P w) A (.builtin "set.update.loop" ⟨[.ref S,.ref I],[]⟩) R s:=by
 intro j
 induction j with
 | zero =>
  intro i s e it hl u v;rw[Nat.add_zero]at e;subst e;refine ED ?_;refine aa (wpAny_pyNext_list_end (A:=A.in1) U it hl (by simp) λh' K=>?_);exact ak (v h' s.toks (u.at λo z=>K _ _ n1 z) λb o _ W z=>K b o W z)
 | succ j Q =>
  intro i s e it hl u v;have p:i<items.length:=by omega
  have H:i<ks.length:=by rw[E.1];exact p
  obtain⟨is,O⟩:=E.2 i ks[i] items[i] (aw H) (aw p);refine ED ?_;refine aa (wpAny_pyNext_list_item (A:=A.in1) (x:=items[i]) it hl (by simp[p]) λB h c=>?_);have r:LM P w B S ks i:=u.at λo z=>(c.2 S n1).trans z;show wpAny _ A.in1 (holding [items[i]] (setAdd S items[i]) >>= _) _ _ {s with heap:=B};refine aa (ck (show wpAny _ _ (setAdd S items[i]) _ _ _ from ?_));unfold setAdd;refine ck (aa ((cN P w).pyHash (k:=ks[i]) is ?_));refine wpAny_setAddHashed_of (knd:=cN P w) (s:={s with heap:=B,toks:=s.toks+1}) is O r (by omega) λJ a d=>?_;have new:((ks.take i).any λx=>decide (x=ks[i]))=false:=by rw[List.any_eq_false];intro x T z;have z:=bu z;obtain⟨m,hm,C⟩:=List.mem_iff_getElem.mp T;rw[z]at C;rw[bv]at hm;rw[List.getElem_take]at C;have:=(List.getElem_inj nd).mp C;omega
  rw[new]at d;have X:(λG=>((ks.take i).any λx=>decide (x=G)) || decide (G=ks[i]))=λk=>(ks.take (i+1)).any λx=>decide (x=k):=by funext k;rw[List.take_succ_eq_append_getElem H,List.any_append,List.any_cons,List.any_nil,Bool.or_false];congr 1;exact decide_eq_decide.mpr eq_comm
  rw[X]at d;have q:LM P w J S ks (i+1):=d;refine ak ⟨plainId_quiet F.plain_set_update_loop _,Q (i+1) {s with heap:=J,toks:=s.toks+1} (by omega) ?_ ?_ q λh' tk t kp=>?_⟩
  ·obtain⟨o,g,f⟩:=h;exact⟨o,(a.2 I n1.symm).trans g,f⟩
  ·obtain⟨o,g,f⟩:=hl;exact⟨o,(a.2 l n3).trans ((c.2 l n2).trans g),f⟩
  ·exact v h' tk t λb o L N z=>kp b o L N ((a.2 b L).trans ((c.2 b N).trans z))
theorem G2 {E:cL}{s:Shared}{l:Addr}{items:cA}{ks:List fR}{Q:cL}(G:A.handled=none)(hl:s.heap.IsList l items.toArray)(C:yZ items ks)(nd:ks.Nodup)(I:items.length+1<scanBound)
  (h:∀(h':Heap) (tk:Nat),LM P w h' s.heap.objs.size ks items.length->(∀b o,s.heap.get? b=some o->h'.get? b=some o)->Q (.ref s.heap.objs.size) {s with heap:=h',toks:=tk}) :
  wpAny (model P w) A (call (.type "set") [.ref l]) Q E s:=by
 obtain⟨c,tl,T⟩:=F.called_set.mro;have S:=F.called_set.made;have O:=F.called_set.sub;refine wpAny_call (codeAny_of_tree (ak ⟨Code.quiet_builtin _ (by decide +kernel),codeAny_builtin F.entry_type_call ?_⟩));have v:=weight_type_call_type "set" [.ref l] [];rw[Around.under_plain v rfl];have N:=F.called_set.notType;have L:=F.called_set.canCreate;have K:=F.typeCall_set_1 (.ref l)
 walk_at "sd_on"
 refine codeAny_mono (code_set_new_1 (.ref l) (E:=E) (Q₁:=λobj t=>∃a:Bool,obj = .ref s.heap.objs.size/\t={s with heap:=s.heap.push {cls:=.type "set",dict:=none,data:=.set #[] 0 (.fresh 0 0 a)} }) λa=>⟨a,rfl,rfl⟩) λr t g=>?_;cases r with
 | error e=>exact g
 | ok fl =>
  cases fl with
  | next=>exact g.elim
  | brk=>exact g.elim
  | cont=>exact g.elim
  | ret obj =>
   obtain⟨a,rfl,rfl⟩:=g;have u:(s.heap.push {cls:=.type "set",dict:=none,data:=.set #[] 0 (.fresh 0 0 a)}).get? s.heap.objs.size=some {cls:=.type "set",dict:=none,data:=.set #[] 0 (.fresh 0 0 a)}:=ar _ rfl;have x:Shared.TypeIs {s with heap:=s.heap.push {cls:=.type "set",dict:=none,data:=.set #[] 0 (.fresh 0 0 a)} } (.ref s.heap.objs.size) "set":=⟨_,u,rfl⟩
   have Z:=F.called_set.init.lookup;have Y:=F.called_set.init.bind (.ref s.heap.objs.size)
   walk_at "sd_on"
   refine codeAny_mono (codeAny_call_builtin (R:=wants (λr s2=>r = .none/\∃h' tk,s2={s with heap:=h',toks:=tk}/\LM P w h' s.heap.objs.size ks items.length/\∀b o,s.heap.get? b=some o->h'.get? b=some o) E) F.called_set.init.plain F.entry_set_init (check_set_init_1 x ?_)) λB s2 d=>?_
   ·obtain⟨⟨c1,d1,t1,z⟩,ho,j,n1,i⟩:=id hl;simp only at j i;subst j i;have ho':=af {cls:=.type "set",dict:=none,data:=.set #[] 0 (.fresh 0 0 a)} ho;have X:=F.sub_list_set;have W:=F.sub_list_frozenset;have U:(Value.type "list" == Value.type "dict")=false:=by decide
    have hl':(s.heap.push {cls:=.type "set",dict:=none,data:=.set #[] 0 (.fresh 0 0 a)}).IsList l items.toArray:=⟨_,ho',rfl,n1,rfl⟩
    unfold Builtin.«set.__init__» Builtin.Frozenset.updateFrom noKeywords;generalize q:pyIter=PI
    wp_walk
    subst q;refine wpAny_pyIter_list hl' (aa (wpAny_runValue ?_));have lt:=az ho;have m:(s.heap.push {cls:=.type "set",dict:=none,data:=.set #[] 0 (.fresh 0 0 a)}).objs.size=s.heap.objs.size+1:=Heap.size_push _ _;refine IG (P:=P) (w:=w) (items:=items) (ks:=ks) (l:=l) (by simp[G]) C nd I (by rw[m];exact bo (Nat.lt_succ_self _)) (by rw[m];exact bo (Nat.lt_succ_of_lt lt)) (bo lt) items.length 0 _ (Nat.zero_add _) ⟨_,ar _ rfl,rfl,rfl⟩ (hl'.push _) ?_ λh' tk f kp=>?_
    ·have J:=af {cls:=.type "list_iterator",data:=.fields #[.ref l,.int 0 0]} u;refine⟨_,#[],0,.fresh 0 0 a,J,⟨rfl,rfl,rfl⟩,rfl,(λe H=>absurd H (by simp)),λk=>?_,(by show 0<scanBound;omega),(by cases a <;> decide),rfl⟩;simp
    ·refine ak (ak ⟨rfl,h',tk,rfl,f,λb o e=>kp b o (bo (az e)) (by rw[m];exact bo (Nat.lt_succ_of_lt (az e))) (af _ (af _ e))⟩)
   ·cases B with
    | error e=>exact d
    | ok f2 =>
     cases f2 with
     | next=>exact d.elim
     | brk=>exact d.elim
     | cont=>exact d.elim
     | ret r =>
      obtain⟨rfl,h',tk,rfl,f,p⟩:=d
      walk_at "sd_on"
      exact h _ _ f p
end
noncomputable abbrev BB (P:Program)(w:World)(a:Addr)(n:Nat):HO:=.ext λh=>∃ks,LM P w h a ks n
theorem L4 {P:Program}{w:World}{H:Hp}{h:Heap}{a:Addr}{n:Nat}{ks:List fR}(x:LM P w h a ks n):cK P w H h a (BB P w a n):=by refine⟨⟨ks,x⟩,?_,λd c ⟨b,y⟩ k=>⟨b,y.at λo e=>k o e⟩⟩;obtain⟨o,_,_,_,e,_⟩:=x;exact⟨o,e⟩
theorem CK:∀{b:aS} {us:cA},aW (b.map V.str) us->yZ us (b.map Sum.inr):=by
 intro b us h;refine⟨by rw[ae,←h.length,ae],λi k v a e=>?_⟩;rw[bI]at a;cases hs:b[i]? with
 | none=>rw[hs]at a;cases a
 | some x =>
  rw[hs]at a;cases a;obtain⟨u,c,d⟩:=h.get (i:=i) (x:=.str x) (by rw[bI,hs];rfl);rw[e]at c;cases c;obtain⟨t,rfl⟩:=d;exact⟨qU x t,rfl⟩
section
variable {X:Cx}
def rSetT (P:Program)(w:World):List V->Hp->VK->Prop:=λxs H Q=>∃(l:Addr) (ss:aS),xs=[.ref l]/\H l=some (.lst (ss.map V.str))/\ss.Nodup/\ss.length<=100/\∀p,H p=none->Q (.ref p) (upd H p (BB P w p ss.length))
theorem wR (i:X.calm=true):dR X (.type "set") (rSetT X.prog X.w):=by
 intro b s σ H xs us Q I d h;obtain⟨l,a,rfl,hl,nd,le,q⟩:=h;obtain⟨u,rfl,f⟩:=aW.one d;cases f;obtain⟨its,r,pl,hz⟩:=I.list (dN.of hl);have len:its.length=a.length:=by rw[←r.length,ae]
 refine G2 (P:=X.prog) (w:=X.w) (I.ok.hd i) pl.isList (CK r) ((List.pairwise_map.mpr (nd.imp λh e=>h (Sum.inr.inj e)))) (by rw[len];exact aj (Nat.succ_le_succ le) (by decide)) λh' tk c kp=>?_;have g:H s.heap.objs.size=none:=I.hok.fresh (ac _);rw[len]at c;exact⟨.ref s.heap.objs.size,_,I.laid (t':=tk) (o:=BB X.prog X.w s.heap.objs.size a.length) kp (ac _) (L4 c),rfl,q _ g⟩
def rLenS (P:Program)(w:World):List V->Hp->VK->Prop:=λxs H Q=>∃(a:Addr) (n:Nat),xs=[.ref a]/\H a=some (BB P w a n)/\Q (.int n) H
theorem wS:dR X (.builtin "len") (rLenS X.prog X.w):=by intro c s σ H xs us Q I d h;obtain⟨a,n,rfl,j,q⟩:=h;obtain⟨u,rfl,e⟩:=aW.one d;cases e;obtain⟨⟨ks,o,es,l,t,ho,b,hd,_,_,i,g,f⟩,_⟩:=I.hok a _ j;have m:es.size<4096:=i;refine call_len_set ho b hd g (by omega) ?_;rw[f];exact⟨.int n,H,I.tok _,⟨_,rfl⟩,q⟩
end
section
variable {P:Program}{w:World}{A:Around}{E:cL}{s:Shared}{it a tp:Addr}{first:Value}{i n ep:Nat}{es:Array (Int×Value)}{t:SetTable}{od:List Nat}
theorem perm_erase {α:Type}:∀(l:List α) (i:Nat) (h:i<l.length),(l[i]::l.eraseIdx i).Perm l
 | x::l,0,_=>.rfl
 | x::l,i+1,h=>(List.Perm.swap ..).trans ((perm_erase l i (Nat.lt_of_succ_lt_succ h)).cons x)
end
section
variable {X:Cx}
def rRevL:V->Option Int->Option Int->Option Int->Hp->VK->Prop:=λx b c st H Q=>b=none/\c=none/\st=some (-1)/\∃a xs,x = .ref a/\H a=some (.lst xs)/\∀p,H p=none->Q (.ref p) (upd H p (.lst xs.reverse))
theorem tI (its:cA):(List.range its.length).filterMap (λm=>its.toArray[its.length - 1 - m]?)=its.reverse:=by
 have e:(List.range its.length).filterMap (λm=>its.toArray[its.length - 1 - m]?)=((List.range its.length).map (its.length - 1 - ·)).filterMap (λj=>its.toArray[j]?):=by rw[List.filterMap_map];rfl
 have a:(List.range its.length).map (its.length - 1 - ·)=(List.range its.length).reverse:=by
  apply List.ext_getElem
  ·simp
  ·intro i c b;simp
 rw[e,a,List.filterMap_reverse];have r:=pick_run its.toArray 0 its.length;simp only[Nat.zero_add,List.drop_zero,List.map_id']at r;rw[r];simp
theorem IU (its:cA):slicePick its.toArray none none (some (-1))=its.reverse.toArray:=by
 unfold slicePick;rw[ag];have e:sliceBounds none none (some (-1)) its.length=((its.length:Int) - 1,-1,-1):=by
  simp only[sliceBounds,Option.getD_some];refine Prod.ext ?_ (Prod.ext ?_ rfl)
  ·simp
  ·simp
 rw[e];have a:sliceRange ((its.length:Int) - 1) (-1) (-1)=(List.range its.length).map λm=>its.length - 1 - m:=by
  unfold sliceRange;have c:(if (-1:Int) > 0 then(if (its.length:Int) - 1 < -1 then(-1 - ((its.length:Int) - 1) + -1 - 1) / -1 else 0)else(if (its.length:Int) - 1 > -1 then((its.length:Int) - 1 - -1 - -1 - 1) / (- -1)else 0)).toNat=its.length:=by
   rw[ab (by decide)];split
   ·rw[show(- -1:Int)=1 from rfl,Int.ediv_one];omega
   ·omega
  dsimp only;rw[c];refine List.map_congr_left λm hm=>?_;have:=List.mem_range.mp hm;omega
 dsimp only;rw[a,List.filterMap_map];exact congrArg List.toArray (tI its)
theorem O3:LF X rRevL:=by intro c s σ H x v m j l t u st p Q I e g pl f pt h;obtain⟨rfl,rfl,rfl,a,xs,rfl,i,q⟩:=h;cases e;obtain⟨its,r,hl,hz⟩:=I.list (dN.of i);refine⟨"list",_,slot_list_getitem.lookup,hl.isList.typeIs,?_⟩;have d:=r.length;refine wpAny_getItem_list_slice hl.isList g pl f pt (by decide) ?_ (by rw[ag] <;> omega);rw[IU];refine⟨.ref s.heap.objs.size,_,I.laid (t':=s.toks) (o:=.lst xs.reverse) (λb ob q=>af _ q) (ac _) ?_,rfl,q _ (I.hok.fresh (ac _))⟩;exact⟨by rw[List.length_reverse];exact hz,_,0,r.reverse,ar _ rfl⟩
end
def rRevI:V->Option Int->Option Int->Option Int->Hp->VK->Prop:=λx b c st H Q=>b=some (-2)/\c=none/\st=some (-1)/\∃a xs,x = .ref a/\H a=some (.lst xs)/\xs≠[]/\∀p,H p=none->Q (.ref p) (upd H p (.lst xs.dropLast.reverse))
theorem AQ {α β:Type}{f g:α->Option β}:∀{l:List α},(∀x∈l,f x=g x)->l.filterMap f=l.filterMap g:=by
 intro l
 induction l with
 | nil=>intro _;rfl
 | cons a l b=>intro h;rw[List.filterMap_cons,List.filterMap_cons,h a av,b λx c=>h x (ay _ c)]
theorem FV (its:cA)(h:its≠[]):slicePick its.toArray (some (-2)) none (some (-1))=its.dropLast.reverse.toArray:=by
 obtain⟨k,hk⟩:∃k,its.length=k+1:=⟨its.length - 1,by have:=List.length_pos_iff.mpr h;omega⟩
 unfold slicePick;rw[ag,hk];have e:sliceBounds (some (-2)) none (some (-1)) (k+1)=((k:Int) - 1,-1,-1):=by
  simp only[sliceBounds,Option.getD_some];refine Prod.ext ?_ (Prod.ext ?_ rfl)
  ·simp <;> omega
  ·simp
 rw[e];have b:sliceRange ((k:Int) - 1) (-1) (-1)=(List.range k).map λm=>k - 1 - m:=by
  unfold sliceRange;have c:(if (-1:Int) > 0 then(if (k:Int) - 1 < -1 then(-1 - ((k:Int) - 1) + -1 - 1) / -1 else 0)else(if (k:Int) - 1 > -1 then((k:Int) - 1 - -1 - -1 - 1) / (- -1)else 0)).toNat=k:=by
   rw[ab (by decide)];split
   ·rw[show(- -1:Int)=1 from rfl,Int.ediv_one];omega
   ·omega
  dsimp only;rw[c];refine List.map_congr_left λm hm=>?_;have:=List.mem_range.mp hm;omega
 dsimp only;rw[b,List.filterMap_map];have a:its.dropLast.length=k:=by rw[List.length_dropLast,hk];rfl
 have r:=tI its.dropLast;rw[a]at r;rw[←r];refine congrArg List.toArray (AQ λm hm=>?_);have:=List.mem_range.mp hm;show its.toArray[k - 1 - m]?=its.dropLast.toArray[k - 1 - m]?;rw[List.getElem?_toArray,List.getElem?_toArray,List.getElem?_dropLast,ai (by omega)]
section
variable {X:Cx}
theorem L1:LF X rRevI:=by intro c s σ H x v m j l t u st p Q I e g pl f pt h;obtain⟨rfl,rfl,rfl,a,xs,rfl,i,ne,q⟩:=h;cases e;obtain⟨its,r,hl,hz⟩:=I.list (dN.of i);refine⟨"list",_,slot_list_getitem.lookup,hl.isList.typeIs,?_⟩;have d:=r.length;refine wpAny_getItem_list_slice hl.isList g pl f pt (by decide) ?_ (by rw[ag] <;> omega);rw[FV its (w6 r ne)];refine⟨.ref s.heap.objs.size,_,I.laid (t':=s.toks) (o:=.lst xs.dropLast.reverse) (λb ob q=>af _ q) (ac _) ?_,rfl,q _ (I.hok.fresh (ac _))⟩;exact⟨by rw[List.length_reverse,List.length_dropLast];omega,_,0,r.dropLast.reverse,ar _ rfl⟩
end
def tOrT (K:PySem.W.Frag)(d b:TE):TE:=λσ H Q=>d σ H λx a=>∃c,LC K x a c/\if c=true then Q x a else b σ a Q
theorem PB {X:Cx}{a b:Expr}{rest:lM}{e:Pos}{g f:TE}(r:PE X a g)(q:PE X (.BoolOp .Or (b::rest) e) f):PE X (.BoolOp .Or (a::b::rest) e) (tOrT X.K g f):=by
 intro d s σ H Q I h;refine BoolOp_or (thn (r d s σ H _ I h) λv p ⟨x,m,w,r1,c,o,i⟩=>?_);refine thn (HR d p σ m x v (λk H'=>k=c/\H'=m) w r1 ⟨c,o,rfl,rfl⟩) λk s2 ⟨l,j,u,t⟩=>?_;subst u t;cases k with
 | true=>exact⟨x,l,j,r1,i⟩
 | false=>exact q d s2 σ l Q j i
section
variable {β:Type}{F:Heap->Addr->β->Prop}{e0:β}{mk:Sem Value}{ce:Expr}{cls:List Comprehension}
variable {X:Cx}{scope:Scope}{N':aS}{src:List (Option Nat)}{pins:c9}{σ:St}{H₂:Hp}{s₂:Shared}{fp:List Addr}{it:Addr}{tn:LI}{J:It}{tg iter:Expr}{ifs:lM}{g:TG}{tt:TT}{tl:β->St->Hp->(β->Hp->Prop)->Prop}
end
theorem BQ:fillsNumberSlot (.type "tuple") "mul" = pure false:=PySem.fillsNumberSlot_seq (id:="tuple.__mul__") (r:=some (.builtin "tuple.__rmul__")) F.slot_tuple_mul.lookup (by decide +kernel) F.slot_tuple_rmul.lookup (by decide +kernel)
theorem y8:seqRepeat? (.type "tuple")=pure (some (.builtin "tuple.__mul__")):=by have a:=PySem.seqSlot_of (T:="tuple") (name:="__mul__") (id:="tuple.__mul__") F.slot_tuple_mul.lookup (by decide +kernel);have b:=PySem.seqSlot_of (T:="tuple") (name:="__rmul__") (id:="tuple.__rmul__") F.slot_tuple_rmul.lookup (by decide +kernel);unfold seqRepeat?;rw[a,b];rfl
theorem w9 {a:Int}{t:Tok}{l:Addr}{its:iR}{n:Nat}{c:Option Addr}{b:Array (Option Value)} :
  Meets (Builtin.«int.__rmul__» ⟨[.int a t,.ref l],[]⟩) (λ_ R s=>s.heap.get? l=some {cls:=.type "tuple",dict:=c,data:=.seq its n,slots:=b}/\R (.ok (.ret Value.notImplemented)) s) :=
 .of_wp λprog w A R s ⟨hl,h⟩=>by
  obtain⟨d,e,f,tk,os⟩:=s
  wp_walk
  exact⟨_,rfl,h⟩
theorem wG {its:iR}:∀(k:Nat) (a:iR),((List.replicate k its).foldl (λc b=>c++b) a).size=a.size+k * its.size
 | 0,a=>by simp
 | k+1,a=>by rw[List.replicate_succ,List.foldl_cons,wG k,Array.size_append,Nat.succ_mul];omega
section
variable {P:Program}{w:World}{A:Around}{E:cL}{s:Shared}
theorem A4 {l:Addr}{its:iR}{k:Nat}{t:Tok}{Q:cL}(hl:IsTup s.heap l its)(m:its.size≠0)(r:k<1000)(hz:its.size * k<=sizeLine)
  (j:k=1->Q (.ref l) s) (g:k≠1->Q (.ref s.heap.objs.size) {s with heap:=s.heap.push {cls:=.type "tuple",data:=.seq ((List.replicate k its).foldl (· ++ ·) #[])} }):wpAny (model P w) A (call (.builtin "tuple.__mul__") [.ref l,.int k t]) Q E s:=by
 have⟨o,ho,hc,n,hd⟩:=id hl;refine wpAny_call_entry F.slot_tuple_mul ⟨o,ho,hc⟩ F.entry_tuple_mul (show wpAny _ _ (Builtin.«tuple.__mul__» _) _ _ _ from ?_) (F.args_tuple_mul_2 _ _);unfold Builtin.«tuple.__mul__»;have items:∀{c:iR->Shared->Prop} {E':cL},c its s->wpAny (model P w) A.in1 (Builtin.Tuple.tupleItemsOf (.ref l)) c E' s:=λh=>aa (wpAny_seqItems ho hd (ak h));have b:∀{c:Bool->Shared->Prop} {E':cL},c true s->wpAny (model P w) A.in1 (Builtin.Tuple.tupleIsExact (.ref l)) c E' s:=λh=>aa (wpAny_typeOf (T:="tuple") ⟨o,ho,hc⟩ (ak h));refine aa (wpAny_of_eq (rfl:asIndex (.int k t)=pure (k:Int)) ?_);dsimp only;rw[ab (by simp;omega)];refine aa (items ?_);have ne:its.isEmpty=false:=by
  cases z:its.isEmpty with
  | false=>rfl
  | true=>exact absurd (by simpa using z) m
 by_cases d:k=1
 ·rw[ai (by simp[d])];refine aa (b ?_);rw[ai rfl];exact aa (wpAny_rule (ak ⟨_,rfl,j d⟩))
 ·rw[ab (by rw[ne];simp;omega)];have mk:∀{xs:iR},xs.size<=sizeLine->Q (.ref s.heap.objs.size) {s with heap:=s.heap.push {cls:=.type "tuple",data:=.seq xs} }->wpAny (model P w) A.in1 (Builtin.Tuple.tupleExact xs >>= λa=>ret a) (λfin i=>∃v,fin=PySem.Fin.done (.ret v)/\Q v i) E s:=λe h=>aa (ci (ak ⟨_,rfl,h⟩) e);by_cases p:k=0
  ·subst p;rw[ai (by simp)];exact mk (au _) (g d)
  ·rw[ab (by rw[ne];simp;omega)];have f:((its.size * k:Nat):Int)<=((sizeLine:Nat):Int):=Int.ofNat_le.mpr hz;rw[Int.natCast_mul]at f;have q:((sizeLine:Nat):Int)<=(2 ^ 63 - 1) / 8:=by decide
   rw[ab (by omega),ab (by unfold Builtin.Tuple.tupleTooMany;simp;exact f),cq];refine mk ?_ (g d);rw[wG,Array.size_empty,Nat.zero_add,Nat.mul_comm];exact hz
end
section
variable {X:Cx}
def rRepT:R2:=λx y H Q=>∃(l:Addr) (k:Nat) (xs:List V),x = .ref l/\y = .int k/\H l=some (.tup xs)/\xs≠[]/\k<1000/\xs.length * k<=sizeLine/\(k=1->Q (.ref l) H)/\(k≠1->∀p,H p=none->Q (.ref p) (upd H p (.tup (List.replicate k xs).flatten)))
theorem MY:iQ X (binaryOp .Mult) rRepT:=by
 intro e s σ H x y v u Q I m j h;obtain⟨l,k,xs,rfl,rfl,C,ne,E,hz,A,p⟩:=h;cases m;obtain⟨t,rfl⟩:=j;obtain⟨G,its,r,tp⟩:=(show cK X.prog X.w H s.heap l (.tup xs)from I.hok l _ C)
 obtain⟨⟨cls,K,data,J⟩,ho,f,n,hd⟩:=id tp;dsimp only at f hd;subst f hd
 have B:its.toArray.size≠0:=λz=>ne (by
  rw[ag]at z
  exact List.length_eq_zero_iff.mp (r.length.trans z))
 refine wpAny_binaryOp_repeat_ref (T:="tuple") (U:="int") (by decide) ⟨_,ho,rfl⟩ (λi=>typeIs_int i k t) BQ F.fills_int_mul F.slot_int_rmul y8 F.slot_int_index.lookup
  (call_meets F.slot_int_rmul (typeIs_int s k t) F.entry_int_rmul (F.args_int_rmul_2 _ _) w9 ⟨ho,rfl,⟨_,ho,rfl⟩,A4 tp B E (by rw[ag,←r.length];exact hz) (λz=>⟨.ref l,H,I,rfl,A z⟩) (λz=>?_)⟩)
 ·refine⟨.ref s.heap.objs.size,_,I.laid (t':=s.toks) (o:=.tup (List.replicate k xs).flatten) (λb ob q=>af _ q) (ac _) ?_,rfl,p z _ (I.hok.fresh (ac _))⟩;have fl:=qV its k [];rw[List.nil_append]at fl;refine⟨by rw[EF,Nat.mul_comm];exact hz,_,r.rep k,?_⟩;have g:(s.heap.push {cls:=.type "tuple",data:=.seq ((List.replicate k its.toArray).foldl (λd c=>d++c) #[])}).get? s.heap.objs.size=some {cls:=.type "tuple",data:=.seq ((List.replicate k its.toArray).foldl (λd c=>d++c) #[])}:=ar _ rfl;exact⟨_,g,rfl,_,congrArg (λa=>Data.seq a) fl⟩
def rRepS:R2:=λx y H Q=>∃(l:Addr) (k:Nat) (xs:List V),x = .ref l/\y = .int k/\H l=some (.tup xs)/\xs≠[]/\k<1000/\xs.length * k<=sizeLine/\∀p H',aD H H'->H' p=some (.tup (List.replicate k xs).flatten)->Q (.ref p) H'
theorem xW:iQ X (binaryOp .Mult) rRepS:=by intro a s σ H x y v u Q I d c h;obtain⟨l,k,xs,i,g,b,ne,f,hz,q⟩:=h;refine MY a s σ H x y v u Q I d c ⟨l,k,xs,i,g,b,ne,f,hz,λz=>q l H (aD.refl _) ?_,λ_ p e=>q p _ (aD.upd e) upd_same⟩;rw[z,b];simp
def rCatS:R2:=λx y H Q=>∃(a b:Addr) (xs ys:List V),x = .ref a/\y = .ref b/\H a=some (.tup xs)/\H b=some (.tup ys)/\xs.length+ys.length<=sizeLine/\∀p H',aD H H'->H' p=some (.tup (xs++ys))->Q (.ref p) H'
theorem nB:iQ X (binaryOp .Add) rCatS:=by
 intro c s σ H x y v u Q I i g h;obtain⟨a,b,xs,f,A,t,e,d,hz,q⟩:=h;by_cases ne:xs=[]
 ·subst ne A t;cases i;cases g;obtain⟨_,its,r1,C⟩:=(show cK X.prog X.w H s.heap a (.tup [])from I.hok a _ e)
  obtain⟨_,its2,O,B⟩:=(show cK X.prog X.w H s.heap b (.tup f)from I.hok b _ d)
  cases r1;obtain⟨⟨R,L,t1,G⟩,l,r,n1,o⟩:=C;obtain⟨⟨P,K,N,E⟩,j,k2,n2,m⟩:=B;dsimp only at r o k2 m;subst r o k2 m;exact concat_meets ⟨_,l,rfl⟩ ⟨_,j,rfl⟩ noFill_tuple_add seq_tuple_add PySem.F.slot_tuple_add PySem.F.entry_tuple_add (PySem.F.args_tuple_add_2 _ _) (tuple_addW0 a b #[] its2.toArray n1 n2 L K G E rfl) ⟨l,j,.ref b,H,I,rfl,q b H (aD.refl _) d⟩
 ·exact D5 c s σ H x y v u Q I i g ⟨a,b,xs,f,A,t,gF.of e,gF.of d,ne,hz,λz=>q a H (aD.refl _) (by rw[z,bn];exact e),λ_ p J=>q p _ (aD.upd J) upd_same⟩
end
section
variable {β:Type}{J:It}{g:TG}{tt:TT}{te:TE}{tb:TS}{D:hZ}{tl:β->St->Hp->(β->Hp->Prop)->Prop}{Fin:β->Hp->Prop}{σ:St}{H:Hp}{e0:β}
theorem EQ {n:Nat}(Pv:Nat->St->Hp->Prop)(c:Pv 0 σ H)(b:∀i σ H,i<n->Pv i σ H->J.go i H/\∀x H',J.yld i H x H'->g x σ H' λa d=>tb {D with nx:=Pv (i+1),ct:=Pv (i+1),bk:=D.nx} a d)
  (hd:∀σ H,Pv n σ H->J.stop n H/\D.nx σ H):sD J g tb D σ H:=by
 refine⟨λi m σ H=>m=n - i/\i<=n/\Pv i σ H,⟨n,by simp,au _,c⟩,?_⟩;rintro i m σ H ⟨rfl,f,p⟩;by_cases lt:i<n
 ·obtain⟨go,step⟩:=b i σ H lt p;exact .inr ⟨go,Pv (i+1),λe H' q=>⟨n - (i+1),by omega,rfl,lt,q⟩,step⟩
 ·obtain rfl:i=n:=by omega
  exact .inl (hd σ H p)
end
section
variable {prog:Program}{w:World}{A:Around}{E:cL}{s:Shared}
theorem IN {v:Value}{T id:String}{Q:cL}(c:s.TypeIs v T)(b:Slot T "__reversed__" id)(k:∀A:Around,wpAny (model prog w) A (call (.builtin id) [v]) Q E s)(ne:(Value.builtin id == Value.none)=false:=by rfl) :
  codeAny (model prog w) A (.call (.builtin "reversed.__new__") ⟨[.type "reversed",v],[]⟩) (wants Q E) s:=by
 refine codeAny_of_tree (show wpAny _ A.in1 (checkBuiltinCall "reversed.__new__" ⟨[.type "reversed",v],[]⟩ >>= λ_=>again (.builtin "reversed.__new__" ⟨[.type "reversed",v],[]⟩)) _ _ s from aa (wpAny_of_eq (F.newCall_reversed_1 v) (ak ⟨plainId_quiet F.plain_reversed_new _,codeAny_builtin F.entry_reversed_new ?_⟩)));rw[Around.under_plainId F.plain_reversed_new,Builtin.«reversed.__new__»];refine aa (wpAny_of_eq (newClass_reversed v) (aa (wpAny_of_eq (a:=()) (by first|rfl|kernel_rfl) (aa (wpAny_of_eq (a:=()) (by first|rfl|kernel_rfl) (aa (wpAny_specialOf c b.lookup ?_)))))));refine aa (wpAny_of_eq (b.bind v) ?_);dsimp only;rw[ab (by rw[ne];exact Bool.false_ne_true)];refine aa (wpAny_rule (aa (show wpAny _ _ (call (.builtin id) [v]) _ _ _ from wpAny_mono (k _) (λu t z=>?_) λ_ _ z=>z)))
 first|exact ak ⟨u,rfl,z⟩|exact ak z|exact aa (ak (ak z))
noncomputable abbrev rvObj (n:Nat):Obj:={cls:=.type "range_iterator",data:=.fields #[rawInt ((n:Int) - 1),rawInt n,rawInt (-1)]}
theorem FR {r:Addr}{n:Nat}{t u v:Tok}{Q:cL}(d:IsRange s.heap r 0 n 1 t u v)(f:n<=1000000)(h:Q (.ref s.heap.objs.size) {s with heap:=s.heap.push (rvObj n)}):wpAny (model prog w) A (call (.builtin "range.__reversed__") [.ref r]) Q E s:=by
 refine wpAny_call_entry F.slot_range_reversed ⟨_,d,rfl⟩ F.entry_range_reversed ?_ (F.args_range_reversed_1 _);have c:∀{A:Around} {R:Int×Int×Int->Shared->Prop} {E':cL},R (0,(n:Int),1) s->wpAny (model prog w) A (Builtin.Range.rangeFields (.ref r)) R E' s:=λz=>by rw[Builtin.Range.rangeFields];refine aa (wpAny_field d rfl (x:=.int 0 t) rfl (aa (wpAny_of_eq (a:=some 0) rfl (aa (wpAny_field d rfl (x:=.int n u) rfl (aa (wpAny_of_eq (a:=some (n:Int)) rfl (aa (wpAny_field d rfl (x:=.int 1 v) rfl (aa (wpAny_of_eq (a:=some 1) rfl (ak z))))))))))))
 have size:Builtin.Range.rangeSize 0 n 1=(n:Int):=by rw[rangeSize_one];split <;> omega
 have b:∀i:Int,-2000000<=i->i<=2000000->Builtin.Range.rangeFitsLong i=true:=λi j g=>by unfold Builtin.Range.rangeFitsLong;refine Bool.and_eq_true_iff.mpr ⟨bh ?_,bh ?_⟩ <;> omega
 rw[Builtin.«range.__reversed__»];refine aa (wpAny_of_eq (a:=Value.ref r) rfl (aa (c ?_)));dsimp only;rw[size,b 0 (by omega) (by omega),b n (by omega) (by omega),b 1 (by omega) (by omega),b (-1) (by omega) (by omega),b (0 - 1) (by omega) (by omega)];simp only[Bool.and_self,Bool.not_true,Bool.false_eq_true,if_false,if_true];refine aa (ci (ak ⟨_,rfl,?_⟩));have e:(0:Int)+((n:Int) - 1) * 1=(n:Int) - 1:=by omega
 rw[e];exact h
theorem y9:isSubtype (.type "range_iterator") (.type "reversed")=pure false:=by rw[isSubtype_type];kernel_rfl
theorem vI {r:Addr}{n:Nat}{t u v:Tok}{Q:cL}(b:IsRange s.heap r 0 n 1 t u v)(c:n<=1000000)(h:Q (.ref s.heap.objs.size) {s with heap:=s.heap.push (rvObj n)}):wpAny (model prog w) A (call (.type "reversed") [.ref r]) Q E s :=
 callType_other (U:="range_iterator") (Q₁:=λo a=>o = .ref s.heap.objs.size/\a={s with heap:=s.heap.push (rvObj n)}) (by decide +kernel) F.create_reversed ⟨_,_,F.mro_reversed⟩ F.made_reversed y9 (F.typeCall_reversed_1 _) (IN ⟨_,b,rfl⟩ F.slot_range_reversed λ_=>FR b c ⟨rfl,rfl⟩)
  λo a z=>by obtain⟨rfl,rfl⟩:=z;exact⟨⟨_,ar _ rfl,rfl⟩,h⟩
end
noncomputable def Q7 (n:Nat):It:=⟨λi _=>i<n,λi H x H'=>H'=H/\x = .int ((n - 1 - i:Nat):Int),λi _=>n<=i⟩
theorem FH {P:Program}{w:World}{K:PySem.W.Frag}{B:Expr}(it:Addr)(n:Nat):q8 P w K B (Q7 n) [it] it (λi h=>IsRangeIter h it (((n:Int) - 1)+(i:Nat) * (-1)) ((n:Int) - (i:Nat)) (-1)) where
 mem:=by simp
 obj:=λi h st b c=>by
  obtain rfl:b=it:=by simpa using c
  exact⟨_,st,λv z=>nomatch (show Data.fields _=Data.cell v from z)⟩
 keep:=λi h h' st k=>k it (by simp) _ st
 item:=by intro X m g p l i a s σ H E I f st j;subst m g p;have A:i<n:=j;obtain⟨x,f1,f2,u,r,q⟩:=f it (by simp);refine(Walks.range (prog:=X.prog) (w:=X.w) (I.ok.hd l) it ((n:Int) - 1) (-1) n).item i s _ _ A st λv h' tk F d C=>?_;obtain⟨t,rfl⟩:=F;have J:aO X a σ H {s with heap:=h',toks:=tk}:=I.turned (λb o c e=>C b o (by simpa using c) e) x f1 u r q;exact⟨_,rfl,wF (s:={s with heap:=h',toks:=tk}) (n:="range_iterator") d rfl rfl (by decide) ⟨.int ((n - 1 - i:Nat):Int),H,J,⟨t,by rw[show((n:Int) - 1)+(i:Int) * (-1)=((n - 1 - i:Nat):Int)by omega]⟩,⟨rfl,rfl⟩,d,λb c=>(f b c).1⟩⟩
 done:=by intro X m g p l i a s σ H E I f st j;subst m g p;have A:n<=i:=j;obtain⟨x,f1,f2,u,r,q⟩:=f it (by simp);exact wpAny_pyNext_range_end (I.ok.hd l) st (by omega) λh' G=>⟨rfl,I.turned (t':=s.toks) (λb o c e=>G b o c e) x f1 u r q⟩
 self:=λ_ _ _ _ _ st h=>wpAny_pyIter_rangeiter st h
def iDown (a:TA):TI:=λσ H R=>a σ H λvs b=>∃n:Nat,vs=[.int (n:Int)]/\n<=1000000/\R (Q7 n) b
theorem MI {X:Cx}{r e:Expr}{l:TA}{p q g a:Pos}(x:Gl X "reversed")(hm:X.mg "reversed" = none)(j:Gl X "range")(i:X.mg "range" = none)(A:PA X [e] l)(v:starEach [e] X.env=[(false,eval e X.env)]:=by rfl)(f:starEach [.Call (.Name "range" q) [e] [] a] X.env=[(false,eval (.Call (.Name "range" q) [e] [] a) X.env)]:=by rfl) :
  PI X r (.Call (.Name "reversed" p) [.Call (.Name "range" q) [e] [] a] [] g) (iDown l):=by
 intro d s σ H R I h;refine Call_ (kR I x hm boot_reversed (PyProof.Rows.callWith_type1 ?_ f rfl));rw[f];refine Calls.spliced_cons (Call_ (kR I j i boot_range (PyProof.Rows.callWith_type1 (thn (A a d s σ H _ I h) λus c ⟨vs,m,B,r1,u⟩=>?_) v rfl)));obtain⟨n,rfl,w,q⟩:=u;obtain⟨C,rfl,t,rfl⟩:=vals1 r1;refine call_range_1 (Calls.spliced_nil (vI (IsRange.new ..) w ?_));have J:aO X d σ m {c with heap:=c.heap.push {cls:=.type "range",data:=.fields #[.int 0 c.toks,.int n t,.int 1 (c.toks+1)]},toks:=c.toks+1+1}:=B.kept λb o e=>af _ e;generalize ({c with heap:=c.heap.push {cls:=.type "range",data:=.fields #[.int 0 c.toks,.int n t,.int 1 (c.toks+1)]},toks:=c.toks+1+1}:Shared)=s2 at J⊢;have st:IsRangeIter (s2.heap.push (rvObj n)) s2.heap.objs.size (((n:Int) - 1)+((0:Nat):Int) * (-1)) ((n:Int) - ((0:Nat):Int)) (-1):=by rw[show((n:Int) - 1)+((0:Nat):Int) * (-1)=(n:Int) - 1 by omega,show(n:Int) - ((0:Nat):Int)=(n:Int)by omega];exact ar _ rfl
 refine wpAny_pyIter_rangeiter (s:={s2 with heap:=s2.heap.push (rvObj n)}) st ?_;refine⟨s2.heap.objs.size,[s2.heap.objs.size],_,_,m,rfl,J.kept (t':=s2.toks) λb o e=>af _ e,FH _ n,st,λb z=>?_,q⟩;obtain rfl:b=s2.heap.objs.size:=by simpa using z
 exact J.fpOk (ac _) (J.hok.fresh (ac _))
section
variable {g:TG}{tb:TS}{D:hZ}{σ:St}{H:Hp}
theorem GU {n:Nat}(Pv:Nat->St->Hp->Prop)(d:Pv 0 σ H)(c:∀i σ H,i<n->Pv i σ H->g (.int ((n - 1 - i:Nat):Int)) σ H λb e=>tb {D with nx:=Pv (i+1),ct:=Pv (i+1),bk:=D.nx} b e)(hd:∀σ H,Pv n σ H->D.nx σ H):sD (Q7 n) g tb D σ H :=
 EQ (n:=n) Pv d (λi σ H a p=>⟨a,λx H' y=>by obtain⟨rfl,rfl⟩:=y;exact c i σ _ a p⟩) λσ H p=>⟨ac _,hd σ H p⟩
theorem CY {d:TT}{e:TE}{Q:VK}{K:PySem.W.Frag}{a:Addr}(xs:List V)(Pv:Nat->List V->St->Hp->Prop)(h:Pv 0 [] σ H)(hl:∀i b σ H,i<=xs.length->Pv i b σ H->H a=some (.lst xs))
  (f:∀i x b σ H,i<xs.length->xs[xs.length - 1 - i]?=some x->Pv i b σ H->CStep g d e x b σ H (Pv (i+1))) (hd:∀b σ H,Pv xs.length b σ H->∀p,H p=none->Q (.ref p) (upd H p (.lst b))):n5 (SA K a xs) g d e Q σ H :=
 kA (n:=xs.length) Pv h (λi b σ H c p=>⟨⟨dN.of (hl i b σ H (Nat.le_of_lt c) p),c⟩,λx H' y=>by obtain⟨rfl,y⟩:=y;exact f i x b σ _ c y p⟩) λb σ H p=>⟨⟨dN.of (hl _ b σ H (ac _) p),rfl⟩,hd b σ H p⟩
end
def R9 (P:Program)(w:World)(K:PySem.W.Frag)(a:Addr)(b:List (fR×V)):Prop:=(a == sysModules)=false/\∀h:Heap,K.In h->∃vs,KV b vs/\h.DictOf (cN P w) a vs
section
variable {X:Cx}{a:Addr}{kvs:List (fR×V)}
def HW (a:Addr)(b:List (fR×V))(c ty:TE):TE:=λσ H Q=>c σ H λx e=>ty σ e λy d=>∃k v,x = .ref a/\y=kV k/\valV b k=some v/\Q v d
theorem I9 {o i:Expr}{f:Pos}{g ty:TE}(C:R9 X.prog X.w X.K a kvs)(ho:PE X o g)(B:PE X i ty)(A:N4 i):PE X (.Subscript o i f) (HW a kvs g ty):=by intro b s σ H Q I h;refine DH PySem.F.slot_dict_getitem.lookup A (thn (ho b s σ H _ I h) λu m ⟨x,L,G,q,t⟩=>thn (B b m σ L _ G t) λO s2 ⟨y,J,l,p,k,v,ex,E,e,r⟩=>?_);subst ex E;obtain rfl:u=Value.ref a:=q;obtain⟨vs,d,j⟩:=C.2 _ l.kIn;obtain⟨N,z,c⟩:=kZ.some_of (v:=v) (o:=valueAt vs k) (by rw[←e];exact d.val k);exact⟨j.typeIs,wpAny_getItem_of (rH p) j.mapOf z ⟨v,J,l.tok _,c,r⟩⟩
end
section
variable {β:Type}{F:Heap->Addr->β->Prop}{e0:β}{mk:Sem Value}{ce:Expr}{cls:List Comprehension}{ob:HO}
variable {X:Cx}{scope:Scope}{N':aS}{src:List (Option Nat)}{pins:c9}{σ:St}{H₂:Hp}{s₂:Shared}{fp:List Addr}{it:Addr}{tn:LI}{J:It}{tg iter:Expr}{ifs:lM}
variable {g:TG}{tt:TT}{tl:β->St->Hp->(β->Hp->Prop)->Prop}
end
theorem MJ (K:PySem.W.Frag){X:Cx}(e:X.K=K){es:lM}{k:Nat}{t:LO}{n:Nat}{a:Pos}(d:X.calm=true)(h:RE X es t)
  (c:(assignEach es X.env).length=n:=by rfl) (b:(assignEach es X.env).findIdx? (·.1)=none:=by rfl):PG X (.Tuple es k a) (gTup K n t):=by subst e;exact tK d h c b
noncomputable def splV (xs:List V)(a c:Option Int)(b:List V):List V:=xs.take (HT.sIx xs.length 0 a)++b++xs.drop (max (HT.sIx xs.length 0 a) (HT.sIx xs.length xs.length c))
def gSpl (c:TE)(tl d:TO):TG:=λv σ H Q=>c σ H λo h=>tl σ h λe g=>d σ g λf b=>∃p xs q a,o = .ref p/\v = .ref q/\p≠q/\b p=some (.lst xs)/\b q=some (.lst a)/\xs.length+a.length<=sizeLine/\Q σ (upd b p (.lst (splV xs e f a)))
section
variable {X:Cx}
theorem qM {M:Model}{A:Around}{E:cL}{s:Shared}{a:Addr}{o:Obj}{u v w y:Value}{k:Option Int}{i:Nat}{β:Type}{f:Value->Sem β}{Q:β->Shared->Prop}(g:s.heap.get? a=some o)(d:o.data = .fields #[u,v,w])(e : #[u,v,w][i]?=some y)(p:IsPart y k)(h:wpAny M A (f (rawPart k)) Q E s):wpAny M A (do let z ←field (.ref a) i;let z ←listPart z;f z) Q E s :=
 aa (wpAny_field g d e (aa (wpAny_listPart p h)))
theorem JD {M:Model}{A:Around}{E:cL}{s:Shared}{c:Addr}{b a:Value}{e f:Option Int}{Q:Value×Value×Value->Shared->Prop}(j:s.heap.IsSliceOf c b a .none)(pl:IsPart b e)(i:IsPart a f)(h:Q (rawPart e,rawPart f,.none) s):wpAny M A (Builtin.List.listSliceParts (.ref c)) Q E s:=by obtain⟨o,g,_,d⟩:=j;rw[listSliceParts_eq];refine qM g d (y:=.none) (k:=none) rfl .none ?_;rw[ab (show ¬(rawPart none == rawInt 0)=true from Bool.false_ne_true)];exact qM g d rfl pl (qM g d rfl i (ak h))
theorem CV {α:Type}(xs c:List α)(a b:Nat):(xs.take a++c++xs.drop (max a b)).length<=xs.length+c.length:=by simp only[aq,bv,bx];omega
theorem K7 {α:Type}(xs c:List α)(a b:Nat):(xs.take a++c++xs.drop b).toArray=xs.toArray.extract 0 a++c.toArray++xs.toArray.extract b:=by apply Array.toList_inj.mp;simp[List.take_of_length_le]
theorem BX {f:c9}{s:Shared}{σ:St}{H:Hp}{p q i:Addr}{xs l:List V}{C B:Value}{b c:Option Int}{Q:Unit->Shared->Prop}{E:cL}(I:aO X f σ H s)(L:H p=some (.lst xs))(T:H q=some (.lst l))(o:p≠q)(hz:xs.length+l.length<=sizeLine)
  (K:s.heap.IsSliceOf i C B .none) (pl:IsPart C b) (S:IsPart B c) (h:∀G,aO X f σ (upd H p (.lst (splV xs b c l))) G->Q () G):wpAny (model X.prog X.w) X.A (setItem (.ref p) (.ref i) (.ref q)) Q E s:=by
 obtain⟨its,n,r,ho,_⟩:=I.lst L;obtain⟨d,m,J,N,_⟩:=I.lst T;have hl:s.heap.IsList p its.toArray:=PySem.IsL.isList (n:=n) ho;have u:s.heap.IsList q d.toArray:=PySem.IsL.isList (n:=m) N;obtain⟨os,t,v,U⟩:=id K;have j:s.TypeIs (.ref i) "slice":=⟨os,t,v⟩
 have O:=r.length;have Y:=J.length;unfold setItem
 try with_reducible refine ck ?_
 first|refine aa (ak ?_)|skip
 refine aa (wpAny_sequenceKey hl.typeIs (by decide) ?_);refine aa (wpAny_callSpecial?_slot (name:=Str.ofString "__setitem__") hl.typeIs PySem.F.slot_list_setitem (wpAny_call_entry PySem.F.slot_list_setitem hl.typeIs entry_list_setitem ?_ (args_list_setitem _ _ _)));have items:∀{A:Around} {a:Addr} {us:cA} {k:Nat} {R:iR->Shared->Prop} {E':cL},s.heap.get? a=some {cls:=.type "list",data:=.seq us.toArray k}->R us.toArray s->wpAny (model X.prog X.w) A (Builtin.List.listItems (.ref a)) R E' s:=λg z=>aa (wpAny_seqItems g rfl (ak z));have none_of:∀{A:Around} {R:Option Int->Shared->Prop} {E':cL},R none s->wpAny (model X.prog X.w) A (Builtin.List.listSubscript? (.ref i)) R E' s:=λz=>aa (wpAny_specialOf j slice_no_index (ak z));have same:Builtin.List.listSameRef (.ref p) (.ref q)=false:=by
  show(p == q)=false
  simpa using o
 have x:Builtin.List.listTooLong (its.toArray.size+d.toArray.size)=false:=by unfold Builtin.List.listTooLong;simp only[ag,←O,←Y];exact bj (by omega)
 unfold Builtin.«list.__setitem__»;refine aa (wpAny_of_eq (a:=(Value.ref p,[Value.ref i,Value.ref q])) rfl (aa (none_of (aa (wpAny_typeOf j ?_)))));rw[ab (show ¬((Value.type "slice" != .type "slice")=true)by decide)];refine aa (JD K pl S ?_);dsimp only;rw[same,ab Bool.false_ne_true];refine aa (aa (wpAny_typeOf u.typeIs ?_));rw[ai (show(Value.type "list" == .type "list" || Value.type "list" == .type "tuple")=true from rfl)];have e:=oY b c its.toArray.size;refine items N (aa (items ho (aa (wpAny_of_eq (sliceIndices_raw b c none its.toArray.size (by simp)) ?_))));have len:=CV its d (HT.sIx its.length 0 b) (HT.sIx its.length its.length c);simp only[ag]at e;rw[x,ab Bool.false_ne_true,ai (show((sliceBounds b c none its.toArray.size).2.2 == 1)=true by rw[ag,e.2.2];rfl)];simp only[ag,e.1,e.2.1];have W:(max (HT.sIx its.length 0 b:Int) (HT.sIx its.length its.length c:Int)).toNat=max (HT.sIx its.length 0 b) (HT.sIx its.length its.length c):=by omega
 rw[W,cq];refine aa (wpAny_rule (aa (wpAny_updateSeq ho rfl (aa (wpAny_letGo (ak ⟨_,rfl,ak (h _ ?_)⟩))) ?_ ?_)))
 ·refine I.lstUpd L ho (its':=its.take (HT.sIx its.length 0 b)++d++its.drop (max (HT.sIx its.length 0 b) (HT.sIx its.length its.length c))) (by rw[K7];rfl) ?_ ?_ s.toks
  ·have r1:=r.take (HT.sIx its.length 0 b);have P:=r.drop (max (HT.sIx its.length 0 b) (HT.sIx its.length its.length c));unfold splV;rw[O];exact(r1.append J).append P
  ·have:=CV xs l (HT.sIx xs.length 0 b) (HT.sIx xs.length xs.length c);unfold splV;omega
 ·have:=line63;rw[ag];omega
 ·have:=CV its d (HT.sIx its.length 0 b) (HT.sIx its.length its.length c);rw[←K7,ag];omega
theorem FX {o:Expr}{e f:Option Expr}{w:TE}{tl z:TO}{c m:Pos}(ho:PE X o w)(hl:PO X e tl)(J:PO X f z)
  (N:∀v,assign (.Subscript o (.Slice e f none m) c) X.env v=(do
   let d ←holding [v] (eval o X.env)
   let iv ←holding [v,d] (eval (.Slice e f none m) X.env)
   standAt c
   holding [v,d,iv] (setItem d iv v)
   release [iv,v,d] []):=by intro _;rfl):PG X (.Subscript o (.Slice e f none m) c) (gSpl w tl z):=by
 intro a s σ H v u Q I r h;rw[N];refine aa (ck (thn (ho a s σ H _ I h) λd C ⟨x,Y,T,r1,F⟩=>aa (ck (wpAny_Slice (thn (hl a C σ Y _ T F) λB s2 ⟨l,W,S,pl,E⟩=>thn (J a s2 σ W _ S E) λA g ⟨i,U,R,G,j⟩=>?_)))));obtain⟨p,xs,q,Z,rfl,rfl,t,L,K,hz,j⟩:=j;cases r1;cases r;rw[evalPart_none];have P:aO X a σ U {g with heap:=g.heap.push {cls:=.type "slice",data:=.fields #[B,A,.none]} }:=R.kept (t':=g.toks) λb ob q=>af _ q;exact ak (aa (wpAny_standAt (aa (ck (BX P L K t hz (Heap.IsSliceOf.new ..) pl G λs5 O=>wpAny_release ⟨σ,_,O,j⟩)))))
end
theorem FZ (P:Program)(w:World){X:Cx}(h:X.prog=P)(e:X.w=w)(K:PySem.W.Frag)(j:X.K=K){a:Addr}{b:List (fR×V)}(l:R9 P w K a b){o i:Expr}{c:Pos}{d ty:TE}(ho:PE X o d)(g:PE X i ty)(f:N4 i):PE X (.Subscript o i c) (HW a b d ty):=by subst h e j;exact I9 l ho g f
section
variable {prog:Program}{w:World}{A:Around}{E:cL}
structure OM (h h':Heap)(e it:Addr)(i:Nat)(x:Value)(tk:Tok)(I:Heap->Prop):Prop where
 out:IsEnumOut h' e it ((i:Int)+1) x h.objs.size
 inn:I h'
 tup:h'.get? h.objs.size=some {cls:=.type "tuple",data:=.seq #[.int i tk,x]}
 siz:h'.objs.size=h.objs.size+1
 old:∀b o,b≠e->b≠it->h.get? b=some o->h'.get? b=some o
def SH (prog:Program)(w:World)(A:Around)(m:Sem PySem.Fin)(Q:cL)(E:cL)(s:Shared):Prop:=wpAny (model prog w) A m (λr t=>∃v,r = .done (.ret v)/\Q v t) E s
theorem KO {e it:Addr}{i:Nat}{x old:Value}{s:Shared}{I:Heap->Prop}{Q:cL}(u:IsEnum s.heap e it i old)(t:e≠it)
  (L:∀h h':Heap,(∀b o,b≠e->h.get? b=some o->h'.get? b=some o)->I h->I h')
  (nx:∀R:cL,(∀f,Heap.SameBut it s.heap f->I f->R x {s with heap:=f})->wpAny (model prog w) A (Builtin.SmallTypes.nextOf (.ref it)) R E s)
  (q:∀h',OM s.heap h' e it i x s.toks I->Q (.ref s.heap.objs.size) {s with heap:=h',toks:=s.toks+1}) :
  SH prog w A (Builtin.«enumerate.__next__» ⟨[.ref e],[]⟩) Q E s:=by
 obtain⟨j,g,d,a,os⟩:=s;change wpAny _ _ (field (.ref e) 2 >>= _) _ _ _;refine aa (wpAny_field u rfl (x:=.ref it) rfl (aa (nx _ λf H Y=>?_)));have G:IsEnum f e it i old:=(H.2 e t).trans u;refine aa (wpAny_field G rfl (x:=rawInt i) rfl (aa (wpAny_field G rfl (x:=.none) rfl ?_)));change wpAny _ _ (mkInt i >>= _) _ _ ⟨f,g,d,a,os⟩;refine aa (wpAny_mkInt (aa (wpAny_setField_rec G (by simp) λh2 F W=>?_)))
 replace F:IsEnum h2 e it ((i:Int)+1) old:=F
 refine aa (wpAny_setField_rec F (by simp) λc C U=>aa (wpAny_newTuple ?_))
 replace C:IsEnum c e it ((i:Int)+1) old:=C
 have m:c.objs.size=j.objs.size:=U.1.trans (W.1.trans H.1);have l:IsEnum (c.push {cls:=.type "tuple",data:=.seq #[.int i a,x]}) e it ((i:Int)+1) old:=af _ C;have K:(c.push {cls:=.type "tuple",data:=.seq #[.int i a,x]}).get? j.objs.size=some {cls:=.type "tuple",data:=.seq #[.int i a,x]}:=m ▸ ar _ rfl;have J:(c.push {cls:=.type "tuple",data:=.seq #[.int i a,x]}).objs.size=j.objs.size+1:=(Heap.size_push ..).trans (congrArg (· + 1) m);have r:∀b o,b≠e->f.get? b=some o->(c.push {cls:=.type "tuple",data:=.seq #[.int i a,x]}).get? b=some o:=λb o n z=>af _ (U.extBut b o n (W.extBut b o n z));change wpAny _ _ (Builtin.SmallTypes.ownedTupleIsFree (.ref e) >>= _) _ _ ⟨c.push {cls:=.type "tuple",data:=.seq #[.int i a,x]},g,d,a+1,os⟩;rw[m];generalize c.push {cls:=.type "tuple",data:=.seq #[.int i a,x]}=h4 at l K J r⊢;have X:=L _ _ r Y;have lt:e<j.objs.size:=az u;refine aa ?_;rw[Builtin.SmallTypes.ownedTupleIsFree];refine aa (wpAny_field l rfl (x:=.none) rfl (ak ?_));simp only[if_true];refine aa (wpAny_rule (aa (wpAny_field l rfl (x:=old) rfl (aa (wpAny_setField_rec l (by simp) λO B T=>?_)))))
 replace B:IsEnum O e it ((i:Int)+1) x:=B
 refine aa ?_;change wpAny _ _ (Builtin.SmallTypes.ownedTupleHandOut (.ref e) (.ref j.objs.size)) _ _ ⟨O,g,d,a+1,os⟩;rw[Builtin.SmallTypes.ownedTupleHandOut];refine aa (wpAny_setField_rec B (by simp) λZ v S=>?_)
 replace v:IsEnumOut Z e it ((i:Int)+1) x j.objs.size:=v
 refine wpAny_setField_rec v (by simp) λN e7 P=>aa (wpAny_letGo (ak ⟨_,rfl,q N ?_⟩));have p:∀b o,b≠e->h4.get? b=some o->N.get? b=some o:=λb o n z=>P.extBut b o n (S.extBut b o n (T.extBut b o n z));exact⟨e7,L _ _ p X,p _ _ (Nat.ne_of_gt lt) K,P.1.trans (S.1.trans (T.1.trans J)),λb o n1 n2 z=>p b o n1 (r b o n1 (H.extBut b o n2 z))⟩
theorem CA {it t:Addr}{i:Nat}{items:iR}{x:Value}{s:Shared}{R:cL}(a:s.heap.IsTupleIter it t i)(e:s.heap.IsTuple t items)(c:items[i]?=some x)
  (q:∀b,Heap.SameBut it s.heap b->b.IsTupleIter it t (i+1)->R x {s with heap:=b}):wpAny (model prog w) A (Builtin.SmallTypes.nextOf (.ref it)) R E s:=by
 rw[Builtin.SmallTypes.nextOf];refine aa (wpAny_callSpecial?_slot (name:=Str.ofString "__next__") a.typeIs F.slot_tuple_iterator_next (wpAny_call_entry F.slot_tuple_iterator_next a.typeIs F.entry_tuple_iterator_next ?_ (F.args_tuple_iterator_next_1 _)));obtain⟨o,ho,f,hd⟩:=a;obtain⟨u,d,_,m,hm⟩:=e;refine(show wpAny _ _ (field (.ref it) 0 >>= _) _ _ _ from aa (wpAny_field ho hd (x:=.ref t) rfl ?_));refine(show wpAny _ _ (if (Value.ref t == Value.none)=true then _ else _) _ _ _ from ?_);rw[ab (λz:(Value.ref t == Value.none)=true=>Bool.false_ne_true z)];refine(show wpAny _ _ (field (.ref it) 1 >>= _) _ _ _ from aa (wpAny_field ho hd (x:=.int i 0) rfl ?_));refine(show wpAny _ _ (seqItems? (.ref t) >>= _) _ _ _ from aa (wpAny_seqItems d hm ?_));simp only[c,cq];refine aa (wpAny_setField ho hd (by simp) (ak ⟨x,rfl,ak (q _ (Heap.SameBut.update ..) ?_)⟩));exact⟨_,Heap.get?_update_self _ ho (Obj.isFreed_of_fields (Obj.data_mapFields hd _)),(Obj.cls_mapFields ..).trans f,by rw[Obj.data_mapFields hd];simp[rawInt]⟩
theorem zW {it t:Addr}{i:Nat}{items:iR}{s:Shared}{R:cL}(h:A.handled=none)(b:s.heap.IsTupleIter it t i)(g:s.heap.IsTuple t items)(d:items[i]?=none)
  (q:∀c e,Heap.ExtBut it s.heap c->(∃o,c.get? e=some o/\o.cls = .type "StopIteration")->E (.ref e) {s with heap:=c}):wpAny (model prog w) A (Builtin.SmallTypes.nextOf (.ref it)) R E s:=by
 rw[Builtin.SmallTypes.nextOf];refine aa (wpAny_callSpecial?_slot (name:=Str.ofString "__next__") b.typeIs F.slot_tuple_iterator_next (wpAny_call_entry F.slot_tuple_iterator_next b.typeIs F.entry_tuple_iterator_next ?_ (F.args_tuple_iterator_next_1 _)));obtain⟨o,ho,j,hd⟩:=b;obtain⟨u,f,_,m,hm⟩:=g;refine(show wpAny _ _ (field (.ref it) 0 >>= _) _ _ _ from aa (wpAny_field ho hd (x:=.ref t) rfl ?_));refine(show wpAny _ _ (if (Value.ref t == Value.none)=true then _ else _) _ _ _ from ?_);rw[ab (λz:(Value.ref t == Value.none)=true=>Bool.false_ne_true z)];refine(show wpAny _ _ (field (.ref it) 1 >>= _) _ _ _ from aa (wpAny_field ho hd (x:=.int i 0) rfl ?_));refine(show wpAny _ _ (seqItems? (.ref t) >>= _) _ _ _ from aa (wpAny_seqItems f hm ?_));simp only[d,cq];refine aa (wpAny_rule (aa (wpAny_setField ho hd (by simp) (show wpAny _ _ (newExc (.type "StopIteration") [] >>= _) _ _ _ from ?_))));simp only[newExc,newTuple];refine aa (aa (ci (aa (m:=firstArgMember _ _) (wpAny_of_eq (a:=Value.none) (by first|rfl|(simp only[firstArgMember];rfl)) (ci ?_ (by size_fits)))) (by size_fits)));simp only[raiseNew];exact aa (wpAny_handled (by rw[show A.in1.handled=none from h];exact aa (ak (wpAny_throw (q _ _ (((Heap.SameBut.update ..).extBut.push _).push _) ⟨_,ar _ rfl,rfl⟩)))))
theorem CS {e it t:Addr}{i:Nat}{items:iR}{x old:Value}{s:Shared}{Q:Option Value->Shared->Prop}(c:IsEnum s.heap e it i old)(b:s.heap.IsTupleIter it t i)(f:s.heap.IsTuple t items)(d:items[i]?=some x)(a:e≠it)
  (q:∀h',OM s.heap h' e it i x s.toks (λh=>h.IsTupleIter it t (i+1))->Q (some (.ref s.heap.objs.size)) {s with heap:=h',toks:=s.toks+1}):wpAny (model prog w) A (pyNext (.ref e)) Q E s:=by
 have ty:s.TypeIs (.ref e) "enumerate":=⟨_,c,rfl⟩
 refine aa (wpAny_attempt (wpAny_callSpecial?_slot (name:=Str.ofString "__next__") ty F.slot_enumerate_next (wpAny_call_entry F.slot_enumerate_next ty F.entry_enumerate_next ?_ (F.args_enumerate_next_1 _))));exact KO c a (λh h' k ⟨o,ho,r⟩=>⟨o,k _ _ a.symm ho,r⟩) (λR h=>CA b f d h) λh' z=>ak (q h' z)
theorem GW {e it t:Addr}{i:Nat}{items:iR}{old:Value}{s:Shared}{Q:Option Value->Shared->Prop}(g:A.handled=none)(c:IsEnum s.heap e it i old)(a:s.heap.IsTupleIter it t i)(f:s.heap.IsTuple t items)(d:items[i]?=none)
  (q:∀h',Heap.ExtBut it s.heap h'->Q none {s with heap:=h'}):wpAny (model prog w) A (pyNext (.ref e)) Q E s:=by
 have ty:s.TypeIs (.ref e) "enumerate":=⟨_,c,rfl⟩
 refine aa (wpAny_attempt (wpAny_callSpecial?_slot (name:=Str.ofString "__next__") ty F.slot_enumerate_next (wpAny_call_entry F.slot_enumerate_next ty F.entry_enumerate_next ?_ (F.args_enumerate_next_1 _))));change wpAny _ _ (field (.ref e) 2 >>= _) _ _ _;refine aa (wpAny_field c rfl (x:=.ref it) rfl (aa (zW g a f d λl y j ⟨o,ho,h⟩=>?_)));exact aa (wpAny_isInstance (T:="StopIteration") (b:=true) ⟨o,ho,h⟩ isSubtype_stop (ak (q _ j)))
noncomputable def KS (h:Heap)(t:Addr):Heap:=(h.push {cls:=.type "tuple_iterator",data:=.fields #[.ref t,.int 0 0]}).push {cls:=.type "enumerate",data:=.fields #[.none,.bool false,.ref h.objs.size,rawInt 0,.none,.none]}
theorem NV (t:Addr)(items:iR)(n:Nat)(dct:Option Addr)(f:Array (Option Value)) :
  Meets (Builtin.«enumerate.__new__» ⟨[.type "enumerate",.ref t],[]⟩) (λ_ R s=>s.heap.get? t=some {cls:=.type "tuple",dict:=dct,data:=.seq items n,slots:=f} /\
   R (.ok (.ret (.ref (s.heap.push {cls:=.type "tuple_iterator",data:=.fields #[.ref t,.int 0 0]}).objs.size))) {s with heap:=KS s.heap t}) :=
 .of_wp λprog w A R s ⟨a,h⟩=>by
  obtain⟨j,g,d,i,os⟩:=s;have b:=sub_enumerate;have e:Heap.IsTuple (Shared.heap ⟨j,g,d,i,os⟩) t items:=⟨_,a,rfl,n,rfl⟩
  wp_walk using bg a
  refine wpAny_stack_any λ_=>ak ?_;split
  ·rename_i c _ _ _ _ _;cases (c == Value.type "enumerate") <;> (wp_walk using bg a,wpAny_pyIter_tuple e;exact⟨_,rfl,h⟩)
  ·wp_walk using bg a,wpAny_pyIter_tuple e
   exact⟨_,rfl,h⟩
theorem K9 {t:Addr}{items:iR}{s:Shared}{Q:cL}(g:s.heap.IsTuple t items)
  (q:∀h',IsEnum h' (s.heap.objs.size+1) s.heap.objs.size 0 .none->h'.IsTupleIter s.heap.objs.size t 0->(∀b o,s.heap.get? b=some o->h'.get? b=some o)->Q (.ref (s.heap.objs.size+1)) {s with heap:=h'}) :
  wpAny (model prog w) A (call (.type "enumerate") [.ref t]) Q E s:=by
 obtain⟨⟨c,dct,h,d⟩,e,f,n,hd⟩:=g;obtain rfl:c = .type "tuple":=f;obtain rfl:h = .seq items n:=hd;have hz:(s.heap.push {cls:=.type "tuple_iterator",data:=.fields #[.ref t,.int 0 0]}).objs.size=s.heap.objs.size+1:=Heap.size_push ..;have a:IsEnum (KS s.heap t) (s.heap.objs.size+1) s.heap.objs.size 0 .none:=hz ▸ ar _ rfl;refine callType_new F.called_enumerate (by decide) (F.typeCall_enumerate_1 _) (F.newCall_enumerate_1 _) (λobj=>F.args_object_init_2 obj _) F.entry_enumerate_new (NV t items n dct d) ⟨e,?_⟩;change _/\_;rw[hz];exact⟨⟨_,a,rfl⟩,q _ a ⟨_,af _ (ar _ rfl),rfl,rfl⟩ λb o x=>af _ (af _ x)⟩
end
theorem x8 {c e it:Addr}(h:c∈[e,it]):c=e∨c=it:=by simpa using h
noncomputable def N8 (a:Addr)(xs:List V):It :=
 ⟨λi H=>H a=some (.tup xs)/\i<xs.length,λi H z H'=>∃T x,z = .ref T/\xs[i]?=some x/\H T=none/\H'=upd H T (.tup [.int i,x]),λi H=>H a=some (.tup xs)/\xs.length<=i⟩
theorem BO {P:Program}{w:World}{K:PySem.W.Frag}{l:lM}{tk0}{j:Pos}{xs:List V}(a e it:Addr)(D:e≠it) :
  q8 P w K (.Tuple l tk0 j) (N8 a xs) [e,it] e (λi h=>(∃old,IsEnum h e it i old)/\h.IsTupleIter it a i) where
 mem:=by simp
 obj:=λi h ⟨⟨old,d⟩,⟨o,O,_,d1⟩⟩ c b=>by
  rcases x8 b with rfl|rfl
  ·exact⟨_,d,λv z=>by cases z⟩
  ·exact⟨_,O,λv z=>by rw[d1]at z;cases z⟩
 keep:=λi h h' ⟨⟨old,d⟩,⟨o,O,r⟩⟩ k=>⟨⟨old,k e (by simp) _ d⟩,⟨o,k it (by simp) _ O,r⟩⟩
 item:=by
  intro X L C N b i f s σ H E I m st F;subst L C N;obtain⟨J,Y⟩:=F;obtain⟨its,A,p,B⟩:=I.tuple (gF.of J);have Q:xs[i]?=some xs[i]:=by simp[Y]
  obtain⟨u,T,R⟩:=A.get Q;obtain⟨⟨old,d⟩,t⟩:=st;refine CS d t p (x:=u) (by simpa using T) D λh' z=>?_;refine⟨_,rfl,wpAny_letOwnedTupleGo_enum (s:={s with heap:=h',toks:=s.toks+1}) z.out λZ G g=>?_⟩;have lt:∀{c:Addr} {o:Obj},s.heap.get? c=some o->s.heap.objs.size≠c:=λe z=>cf _ (z ▸ az e);have S:∀c∈[e,it],c≠s.heap.objs.size:=λc b=>by
   rcases x8 b with rfl|rfl
   ·exact(lt d).symm
   ·obtain⟨_,z,_⟩:=t;exact(lt z).symm
  have I1:aO X f σ (upd H s.heap.objs.size (.tup [.int i,xs[i]])) {s with heap:=Z,toks:=s.toks+1}:=I.turnedLaid (t':=s.toks+1) (ch:=[e,it]) (λc o b y=>g.extBut _ _ (λq=>b (by simp[q])) (z.old c o (λq=>b (by simp[q])) (λq=>b (by simp[q])) y)) m (ac _)
   ⟨by show 2<=sizeLine;decide,[_,u],.cons ⟨_,rfl⟩ (.cons R .nil),⟨_,g.extBut _ _ (lt d) z.tup,rfl,_,rfl⟩⟩
  refine⟨.ref s.heap.objs.size,_,I1,rfl,⟨s.heap.objs.size,xs[i],rfl,Q,I.hok.fresh (ac _),rfl⟩,⟨⟨u,?_⟩,z.inn.extBut g.extBut D.symm⟩,λc b=>?_⟩
  ·have e2:((i+1:Nat):Int)=(i:Int)+1:=by omega
   rw[e2];exact G
  ·rw[aE (S c b)];exact(m c b).1
 done:=by
  intro X L C N b i f s σ H E I m st F;subst L C N;obtain⟨J,hd⟩:=F;obtain⟨its,A,p,B⟩:=I.tuple (gF.of J);obtain⟨⟨old,d⟩,t⟩:=st;have l1:=A.length;refine GW (I.ok.hd b) d t p (by simp;omega) λh' U=>⟨rfl,?_⟩
  exact I.turnedL (t':=s.toks) (ch:=[e,it]) (λc o b z=>U c o (λq=>b (by simp[q])) z) m
 self:=λ_ _ _ _ _ st h=>wpAny_pyIter_enum st.1.choose_spec h
def QM (c:TA):TI:=λσ H R=>c σ H λvs b=>∃a xs,vs=[.ref a]/\b a=some (.tup xs)/\R (N8 a xs) b
theorem vD {X:Cx}{f:lM}{i:_}{b:Pos}{a:Expr}{l:TA}{p d:Pos}(w:Gl X "enumerate")(hm:X.mg "enumerate" = none)(A:PA X [a] l)(u:starEach [a] X.env=[(false,eval a X.env)]:=by rfl) :
  PI X (.Tuple f i b) (.Call (.Name "enumerate" p) [a] [] d) (QM l):=by
 intro e s σ H R I h;refine Call_ (kR I w hm boot_enumerate (PyProof.Rows.callWith_type1 (thn (A d e s σ H _ I h) λus j ⟨vs,F,g,r1,t1,xs,B,t,q⟩=>?_) u rfl));subst B;obtain⟨G,rfl,C⟩:=vals1 r1;cases C;obtain⟨its,J,o,r⟩:=g.tuple (gF.of t);refine K9 o λh' m E v=>wpAny_pyIter_enum (s:={j with heap:=h'}) m ?_;refine⟨_,[_,_],_,_,F,rfl,g.kept (t':=j.toks) v,BO t1 _ _ (by intro z;have z:(_:Nat)=_:=z;omega),⟨⟨_,m⟩,E⟩,λc x=>?_,q⟩;have le:j.heap.objs.size<=c:=by
  rcases x8 x with rfl|rfl
  ·exact Nat.le_add_right _ _
  ·exact ac _
 exact g.fpOk le (g.hok.fresh le)
theorem QN {g:TG}{b:TS}{D:hZ}{σ:St}{H:Hp}{a:Addr}{xs:List V}(Pv:Nat->St->Hp->Prop)(j:Pv 0 σ H)(hl:∀i σ H,Pv i σ H->H a=some (.tup xs))
  (f:∀i x T σ H,xs[i]?=some x->Pv i σ H->H T=none->g (.ref T) σ (upd H T (.tup [.int i,x])) λc m=>b {D with nx:=Pv (i+1),ct:=Pv (i+1),bk:=D.nx} c m) (hd:∀σ H,Pv xs.length σ H->D.nx σ H):sD (N8 a xs) g b D σ H :=
 EQ (n:=xs.length) Pv j (λi σ H lt p=>⟨⟨hl i σ H p,lt⟩,λx H' ⟨T,y,e,d,h,l⟩=>by
  subst e l
  exact f i y T σ H d p h⟩) λσ H p=>⟨⟨hl _ σ H p,ac _⟩,hd σ H p⟩
theorem AX {g:TG}{c:TT}{d:TE}{Q:VK}{σ:St}{H:Hp}{a:Addr}{xs:List V}(Pv:Nat->List V->St->Hp->Prop)(l:Pv 0 [] σ H)(hl:∀i b σ H,Pv i b σ H->H a=some (.tup xs))
  (h:∀i x T b σ H,xs[i]?=some x->Pv i b σ H->H T=none->CStep g c d (.ref T) b σ (upd H T (.tup [.int i,x])) (Pv (i+1))) (hd:∀b σ H,Pv xs.length b σ H->∀p,H p=none->Q (.ref p) (upd H p (.lst b))):n5 (N8 a xs) g c d Q σ H :=
 kA (n:=xs.length) Pv l (λi b σ H lt p=>⟨⟨hl i b σ H p,lt⟩,λx H' ⟨T,y,e,f,j,m⟩=>by
  subst e m
  exact h i y T b σ H f p j⟩) λb σ H p=>⟨⟨hl _ b σ H p,ac _⟩,hd b σ H p⟩
end L2
namespace L2
open PySem
variable {X:Cx}
end L2
namespace L2
open PySem PySem.Spec PyProof.Rows PySem.SeqAt
section
variable {X:Cx}{pins:c9}{σ:St}{H:Hp}{s:Shared}
variable {x:Str}{C:Addr}{p pos:Pos}{e:Expr}{es:lM}{ta:TA}
end
section
variable {a:Addr}{z:Str}{k:Tok}
variable {s:Shared}{A:Around}
end
end L2
namespace L2
open PySem PySem.Spec PyProof.Rows
section
variable {P:Program}{w:World}{A:Around}{E:cL}
theorem CT {it l:Addr}{items:cA}(ne:l≠it):∀(j i:Nat) (s:Shared) (Q:cA->Shared->Prop),i+j=items.length->s.heap.IsListIter it l i->s.heap.IsList l items.toArray ->
  (∀h',h'.IsListIter it l items.length->h'.IsList l items.toArray->(∀b o,b≠it->s.heap.get? b=some o->h'.get? b=some o)->Q (items.drop i) {s with heap:=h'})->wpAny (model P w) A (draw (.ref it) j) Q E s:=by
 intro j
 induction j with
 | zero =>
  intro i s Q e h hl q;rw[Nat.add_zero]at e;subst e;have:=q s.heap h hl λ_ _ _ z=>z;rw[List.drop_length]at this;exact ak this
 | succ j r =>
  intro i s Q e h hl q;have lt:i<items.length:=by omega
  refine aa (wpAny_pyNext_list_item (x:=items[i]) h hl (by simp[lt]) λp g m=>?_);have d:p.IsList l items.toArray:=by obtain⟨o,a,b⟩:=hl;exact⟨o,(m.2 l ne).trans a,b⟩
  refine aa (ck (r (i+1) {s with heap:=p} _ (by omega) g d λt f c kp=>ak ?_));rw[←List.drop_eq_getElem_cons lt];exact q t f c λb o n z=>kp b o n ((m.2 b n).trans z)
theorem heldB {α β:Type}{M:Model}{B:Around}{E:cL}{s:Shared}{vs:cA}{m:Sem α}{f:α->Sem β}{Q:β->Shared->Prop}(h:wpAny M B m (λa t=>wpAny M B (f a) Q E t) E s):wpAny M B (holding vs m >>= f) Q E s:=aa (ck h)
theorem uX {s:Shared}{l:Addr}{items:cA}{c:List (Bool×(Value->Sem Unit))}{Q:Unit->Shared->Prop}(j:A.handled=none)(hl:s.heap.IsList l items.toArray)(i:c.length=items.length)(d:c.findIdx? (·.1)=none)
  (h:∀h',(∀b o,s.heap.get? b=some o->h'.get? b=some o)->wpAny (model P w) A (assignInOrder (c.map (·.2)) items) Q E {s with heap:=h'}):wpAny (model P w) A (unpack (.ref l) c) Q E s:=by
 have lt:l<s.heap.objs.size:=by obtain⟨o,a,_⟩:=hl;exact az a
 unfold unpack;rw[i,d];refine heldB ?_;unfold unpackItems notIterableAtAll;refine aa (aa (wpAny_specialOf hl.typeIs slot_list_iter.lookup (ak ?_)));show wpAny _ _ (if false=true then _ else _) _ _ _;rw[ab (by decide)];refine heldB (wpAny_pyIter_list hl ?_);refine heldB (CT (l:=l) (items:=items) (bo lt) items.length 0 _ _ (Nat.zero_add _) ⟨_,ar _ rfl,rfl,rfl⟩ (hl.push _) λq g e f=>?_);rw[List.drop_zero,ab (cf _)];refine heldB (wpAny_pyNext_list_end j g e (by simp) λm p=>?_);rw[ab (by decide)];exact ak (h m λb o z=>p b o (bo (az z)) (f b o (bo (az z)) (af _ z)))
end
section
variable {X:Cx}{pos:Pos}
def gSq (n:Nat)(t:LO):TG:=λv σ H Q=>∃a xs,v = .ref a/\i8 H a xs/\xs.length=n/\t xs σ H Q
theorem RN {es:lM}{k:Nat}{t:LO}{n:Nat}(g:X.calm=true)(h:RE X es t)(f:(assignEach es X.env).length=n:=by rfl)(c:(assignEach es X.env).findIdx? (·.1)=none:=by rfl):PG X (.Tuple es k pos) (gSq n t):=by
 rintro b s σ H v u Q I r ⟨a,xs,rfl,d|d,hl,q⟩
 ·cases r;obtain⟨its,e,i⟩:=gE I.hok d;rw[assign_Tuple];refine aa (wpAny_standAt (uX (I.ok.hd g) i (by rw[f,←hl,e.length]) c λh' k=>?_));exact h b _ σ H xs its Q (I.kept (t':=s.toks) k) e q
 ·exact tK g h f c b s σ H (.ref a) u Q I r ⟨a,xs,rfl,gF.of d,hl,q⟩
theorem IX {i j:Nat}{x y:Str}{e d:Pos}{k:_}(h:X.calm=true)(c:X.N.Nodup)(g:X.N[i]?=some x)(f:X.N[j]?=some y)(b:X.env.scope.names.lookup x=some .local)(a:X.env.scope.names.lookup y=some .local) :
  PG X (.Tuple [.Name x e,.Name y d] k pos) (gSq 2 (gCons (gName i) (gCons (gName j) gNil))) :=
 RN h (eV (bA c g (.inl b) (.inr b)) (eV (bA c f (.inl a) (.inr a)) pH))
end
theorem A9 {prog:Program}{w:World}{A:Around}{E:cL}{s:Shared}{f:Addr}{e c d:Value}{n:Nat}{Q:Int×Int×Nat->Shared->Prop}(i:s.heap.IsSliceOf f e c d)(pl:IsPart e none)(g:IsPart c none)(pt:IsPart d (some (-1)))
  (h:Q ((n:Int) - 1,-1,n) s):wpAny (model prog w) A (Builtin.Slice.sliceApplied (.ref f) (pure (n:Int))) Q E s:=by
 obtain⟨os,a,j,b⟩:=id i;unfold Builtin.Slice.sliceApplied Builtin.Slice.sliceFields;refine aa (aa (wpAny_field a b (x:=e) rfl (aa (wpAny_field a b (x:=c) rfl (aa (wpAny_field a b (x:=d) rfl (ak ?_)))))));refine aa (HT.slicePart_ pt ?_);show wpAny _ _ (if ((-1:Int) == 0)=true then _ else _) _ _ s;rw[ab (by decide)];refine aa (HT.slicePart_ pl (aa (HT.slicePart_ g (aa (ak ?_)))));have m:Builtin.Slice.sliceAdjust none none (-1) (n:Int)=((n:Int) - 1,-1):=by
  unfold Builtin.Slice.sliceAdjust;refine Prod.ext ?_ ?_
  ·simp
  ·simp
 have l:Builtin.Slice.slicePlaces ((n:Int) - 1) (-1) (-1)=n:=by
  unfold Builtin.Slice.slicePlaces;rw[ab (by decide)];split
  ·rw[show(- -1:Int)=1 from rfl,Int.ediv_one];omega
  ·omega
 show wpAny _ _ (match Builtin.Slice.sliceAdjust none none (-1) (n:Int)with|(lo,hi)=>pure (lo,(-1:Int),Builtin.Slice.slicePlaces lo hi (-1))) _ _ s;rw[m];show wpAny _ _ (pure ((n:Int) - 1,(-1:Int),Builtin.Slice.slicePlaces ((n:Int) - 1) (-1) (-1))) _ _ s;rw[l];exact ak h
theorem FI {prog:Program}{w:World}{A:Around}{E:cL}{s:Shared}{t b:Addr}{its:cA}{j g i:Value}{Q:cL}(a:IsTup s.heap t its.toArray)(l:s.heap.IsSliceOf b j g i)(pl:IsPart j none)(o:IsPart g none)(pt:IsPart i (some (-1)))(hz:its.length<=sizeLine)
  (h:Q (.ref s.heap.objs.size) {s with heap:=s.heap.push {cls:=.type "tuple",data:=.seq its.reverse.toArray} }):wpAny (model prog w) A (getItem (.ref t) (.ref b)) Q E s:=by
 obtain⟨os,c,d,p⟩:=id l;have f:s.TypeIs (.ref b) "slice":=⟨os,c,d⟩
 unfold getItem
 try with_reducible refine ck ?_
 first|refine aa (ak ?_)|skip
 refine aa (wpAny_sequenceKey a.typeIs (by decide) ?_)
 refine aa (wpAny_callSpecial?_slot (name:=Str.ofString "__getitem__") a.typeIs PyProof.Rows.slot_tuple_getitem
  (wpAny_call_entry PyProof.Rows.slot_tuple_getitem a.typeIs entry_tuple_getitem ?_ (args_tuple_getitem _ _)))
 show wpAny _ _ (Builtin.Tuple.tupleItemsOf (.ref t) >>= _) _ _ s;refine aa (tupleItemsOf_ a ?_);refine aa (wpAny_typeOf f ?_);rw[ai (by decide)];refine aa (A9 (n:=its.toArray.size) l pl o pt ?_);dsimp only;rw[ab (by intro q;rw[Bool.and_eq_true,Bool.and_eq_true]at q;exact absurd q.1.2 (by decide))];have e:((List.range its.toArray.size).filterMap λ(m:Nat)=>its.toArray[(((its.toArray.size:Nat):Int) - 1+(m:Int) * -1).toNat]?).toArray=its.reverse.toArray:=by
  rw[ag,←tI its];refine congrArg List.toArray (AQ λm hm=>?_);have:=List.mem_range.mp hm;have q:((its.length:Int) - 1+(m:Int) * -1).toNat=its.length - 1 - m:=by omega
  rw[q]
 rw[e];have hsz:sizeOk (.seq its.reverse.toArray):=by show its.reverse.toArray.size<=sizeLine;rw[ag];rw[List.length_reverse];exact hz
 first
  | exact aa (m:=Builtin.Tuple.tupleExact _) (ci (ak ⟨_,rfl,ak h⟩) hsz)
  | exact aa (m:=Builtin.Tuple.tupleExact _) (ci (aa (ak (ak ⟨_,rfl,ak h⟩))) hsz)
  | exact aa (aa (m:=Builtin.Tuple.tupleExact _) (ci (ak (ak ⟨_,rfl,ak h⟩)) hsz))
  | exact aa (aa (m:=Builtin.Tuple.tupleExact _) (ci (ak ⟨_,rfl,ak h⟩) hsz))
def rRevU:V->Option Int->Option Int->Option Int->Hp->VK->Prop:=λx b c st H Q=>b=none/\c=none/\st=some (-1)/\∃a xs,x = .ref a/\i8 H a xs/\∀p o,H p=none->((o = .lst xs.reverse/\H a=some (.lst xs))∨(o = .tup xs.reverse/\H a=some (.tup xs)))->Q (.ref p) (upd H p o)
theorem L0 {X:Cx}:LF X rRevU:=by
 intro c s σ H x v m j l w z st t Q I e g pl f pt h;obtain⟨rfl,rfl,rfl,a,xs,rfl,d|d,q⟩:=h
 ·exact O3 c s σ H _ v m j l none none (some (-1)) t Q I e g pl f pt ⟨rfl,rfl,rfl,a,xs,rfl,d,λp u=>q p _ u (.inl ⟨rfl,d⟩)⟩
 ·cases e;obtain⟨its,r,hl,hz⟩:=I.tuple (gF.of d);refine⟨"tuple",_,PyProof.Rows.slot_tuple_getitem.lookup,hl.typeIs,?_⟩;have i:=r.length;refine FI hl g pl f pt (by omega) ?_;refine⟨.ref s.heap.objs.size,_,I.laid (t':=s.toks) (o:=.tup xs.reverse) (λb ob q=>af _ q) (ac _) ?_,rfl,q _ _ (I.hok.fresh (ac _)) (.inr ⟨rfl,d⟩)⟩;exact⟨by rw[List.length_reverse];exact hz,_,r.reverse,⟨_,ar _ rfl,rfl,_,rfl⟩⟩
end L2
namespace L2
open PySem PySem.Spec PyProof.Rows PyProof.Rows.LSm
def rMaxL:List V->Hp->VK->Prop:=λxs H Q=>∃(p:Addr) (ns:List Int),xs=[.ref p]/\H p=some (.lst (ns.map V.int))/\ns≠[]/\∀M,M∈ns->(∀a∈ns,a<=M)->Q (.int M) H
theorem G3 {X:Cx}(x:X.calm=true):dR X (.builtin "max") rMaxL:=by
 rintro g s σ H _ us Q I r ⟨p,ns,rfl,o,ne,q⟩;obtain⟨u,rfl,e⟩:=vals1 r;cases e;obtain⟨its,l,pl,hz⟩:=I.list (dN.of o);have f:IntsAre its ns:=kT l;obtain⟨b,h⟩:=f.allInts.items;have d:s.heap.IsList p (intItems b):=h ▸ pl.isList;have is:ns=b.toList.map (·.1):=by rw[←nums_intItems,←h];exact(show numsOf its.toArray.toList=ns from f.numsOf).symm
 have c:0<b.size:=by
  have:=List.length_pos_iff.mpr ne;rw[is,ae]at this
  simpa using this
 refine max_intList (I.ok.hd x) d c λv h' tk m t=>?_;obtain⟨tok,rfl⟩:=intItems_at m;have top:=argBest_gt (numAt b) (b.size - 1);have at_:∀j,j<b.size->numAt b j=(ns[j]?).getD 0:=λj _=>by rw[is];unfold numAt;rw[bI,Array.getElem?_toList]
 have len:ns.length=b.size:=by rw[is];simp
 refine⟨.int _,H,I.kept (t':=tk) t,⟨tok,rfl⟩,q _ ?_ λa z=>?_⟩
 ·rw[at_ _ (by omega)];have lt:argBest (λi j=>decide (numAt b i > numAt b j)) (b.size - 1)<ns.length:=by omega
  rw[aw lt];exact List.getElem_mem lt
 ·obtain⟨j,w,rfl⟩:=List.getElem_of_mem z;have:=top.2 j (by omega);rw[at_ j (by omega),aw w]at this;exact this
end L2
namespace L2
open PySem
theorem cC {N P:aS}{f:Scope}(a:f.kind = .function)(b:f.isCoroutine=false)(c:f.isGenerator=false)(d:N.take P.length=P)(e:N.Nodup/\(∀x∈P,f.names.lookup x=some .local∨f.names.lookup x=some .cell)/\∀y∈f.names,y.2≠.free):aT N P f:=⟨a,b,c,e.1,d,e.2.1,e.2.2⟩
noncomputable def abc:Str:="abcdefghijklmnopqrstuvwxyz"
theorem QX (j:Nat)(h:j<26):abc.cps.toList[j]?=some (97+j):=by
 have:∀j:Fin 26,abc.cps.toList[j.1]?=some (97+j.1):=by decide +kernel
 exact this ⟨j,h⟩
theorem N2:abc.cps.toList.length=26:=by decide +kernel
theorem J7 {H:Hp}{i:Int}(b:0<=i)(a:i<26):ixV H (.str abc) (.int i)=some (.str ⟨#[97+i.toNat]⟩):=by show(if abc.length<=sizeLine then(atI abc.cps.toList i).map λc=>V.str ⟨#[c]⟩else none)=_;rw[ai (by decide +kernel),uK b (by rw[N2];exact a),QX _ (by omega)];rfl
theorem tyL {K:PySem.W.Frag}{H:Hp}{p:Addr}{xs:List V}(h:H p=some (.lst xs)):tyV K "list" (.ref p) H:=.inl ⟨rfl,xs,dN.of h⟩
def jU (x:Str):Prop:=1<=x.cps.toList.length/\x.cps.toList.length<=6/\∀c∈x.cps.toList,97<=c/\c<=122
theorem vU {H:Hp}:∀(a:aS),Reps H (a.map D.str) (a.map V.str)
 | []=>rfl
 | x::r=>⟨.str x,r.map V.str,rfl,rfl,vU r⟩
theorem AV:∀a:aS,depDs (a.map D.str)=0
 | []=>rfl
 | x::r=>by rw[bd,depDs,AV r];rfl
theorem AM {x:Str}:∀a:aS,inD (.str x) (a.map D.str)=decide (x∈a)
 | []=>by simp[inD]
 | y::r=>by
  have b:=AM (x:=x) r;unfold inD at b⊢;rw[bd,List.any_cons,b];have e:eqD (.str y) (.str x)=decide (y=x):=by show(y == x)=_;rw[cg];simp
  rw[e,cg];simp only[Bool.or_eq_true,decide_eq_true_eq,cu];constructor
  ·rintro(h|h)
   ·exact .inl h.symm
   ·exact .inr h
  ·rintro(h|h)
   ·exact .inl h.symm
   ·exact .inr h
noncomputable def del (H:Hp)(p:Addr):Hp:=λb=>if b=p then none else H b
theorem mO {H:Hp}{p b:Addr}{o:HO}(h:H b=some o)(n:b≠p):del H p b=some o:=by unfold del;rw[ab n];exact h
theorem gR {H:Hp}{p b:Addr}{o:HO}(h:del H p b=some o):H b=some o/\b≠p:=by
 unfold del at h;by_cases e:b=p
 ·rw[ai e]at h;cases h
 ·rw[ab e]at h;exact⟨h,e⟩
theorem K1 (H:Hp)(p:Addr):aD (del H p) H:=λb o h=>(gR h).1
end L2
section
local macro_rules | `(tactic| walk_at "rd")=>do
 let xs:Array (Lean.TSyntax [`Lean.Parser.Tactic.simpStar,`Lean.Parser.Tactic.simpErase,`Lean.Parser.Tactic.simpLemma]):=("L2.start List.map_cons List.map_nil List.length_cons List.length_nil Nat.reduceAdd Nat.reduceSub Nat.zero_add List.replicate_succ List.replicate_zero List.cons_append List.nil_append List.set_cons_zero List.set_cons_succ L2.tSeq L2.tIfS L2.tTest L2.tOp L2.tVar L2.tC L2.rI0 L2.tAsg L2.gName L2.gSub L2.rI L2.tRet L2.tNext L2.rSetL L2.rAddF L2.rRep L2.tCB L2.r1 L2.tCons L2.tNil L2.tDrop L2.tAnd L2.tOr L2.tNot L2.tIf L2.tLst L2.tTup L2.tCall L2.tFor_eq L2.tComp_eq L2.tComp2_eq L2.iRng1 L2.iRng2 L2.iAny L2.iSq L2.iZip L2.iZip2 L2.iEnum L2.tRaise L2.tTry L2.rLtL L2.rAll L2.rAny L2.rSum L2.tUn L2.rU L2.gTup L2.gCons L2.gNil L2.tBM L2.tBM0 L2.rAppend L2.rPop L2.rPopAt L2.rExtend L2.tSl L2.tNoPart L2.tPart L2.rSlF L2.rSlU L2.rTupU L2.CStep L2.tYes L2.stC Option.bind_some Option.bind_none Option.join_some L2.tAndV L2.tOrV L2.tNotV L2.tNever not_true_eq_false not_false_eq_true L2.tChain L2.tTruth L2.rIs_eq L2.truV_bl L2.isV_ii L2.isV_ib L2.isV_ll L2.lenV_l L2.lenV_t L2.seqV_l L2.seqV_t L2.ixV_l L2.ixV_t if_true if_false Bool.not_true Bool.not_false Bool.false_eq_true Option.bind_eq_bind Option.pure_def L2.rEqD_ii L2.rNeD_ii L2.rEqD_bb L2.rNeD_bb L2.isV_bb L2.rEqD_ss L2.rNeD_ss Int.zero_add L2.catO_i L2.catO_s L2.addV L2.intV L2.atI_zero L2.atI_one L2.ixN_zero L2.ixN_one L2.upd_same L2.upd_upd Option.map_some Option.map_none List.getElem?_cons_zero List.getElem?_cons_succ Option.some.injEq L2.V.int.injEq L2.V.ref.injEq L2.V.bl.injEq L2.V.str.injEq L2.HO.lst.injEq List.cons.injEq and_true true_and exists_eq_left exists_eq_left' exists_eq_right exists_eq_right' exists_and_left exists_and_right exists_const reduceCtorEq false_and and_false exists_false or_false false_or decide_eq_true_eq ite_eq_left_iff Bool.not_eq_true Bool.not_eq_eq_eq_not decide_eq_false_iff_not decide_true decide_false".splitOn " ").toArray.map λs=>⟨Lean.mkNode `Lean.Parser.Tactic.simpLemma #[Lean.mkNullNode,Lean.mkNullNode,Lean.mkIdent s.toName]⟩
 let xs:=xs.push ⟨Lean.mkNode `Lean.Parser.Tactic.simpStar #[Lean.mkAtom "*"]⟩
 `(tactic| simp only [$xs,*])
namespace Lw
open PySem L2
noncomputable def rW:aS:=["_law_state","_law_many","_law_found"]
noncomputable def rQ:aS:=rW.take 2
theorem pA:aT rW rQ (aJ jI):=cC rfl rfl rfl rfl (by decide +kernel)
noncomputable def iL:aS:=["_law_state","_law_letters","_law_shift","_law_names","_law_j","_law_k","_law_fixed","_law_sums"]
noncomputable def pU:aS:=["_law_state"]
theorem cW:aT iL pU (aJ d8):=cC rfl rfl rfl rfl (by decide +kernel)
noncomputable def rX:aS:=["_law_state","_law_fixed","_law_k"]
noncomputable def rR:aS:=rX.take 2
theorem pB:aT rX rR (aJ jJ):=cC rfl rfl rfl rfl (by decide +kernel)
noncomputable def rV:aS:=["_law_state","_law_signs_here","_law_budget","_law_deep","_law_name","_law_many","_law_found","_law_left","_law_k","_law_share"]
noncomputable def hX:aS:=rV.take 4
theorem dH:aT rV hX (aJ fT):=cC rfl rfl rfl rfl (by decide +kernel)
noncomputable def R3:aS:=["_law_script","_law_cell","_law_state","_law_given","_law_noughts","_law_signs_here","_law_term_here","_law_one","_law_other_here","_law_shuffled_here"]
noncomputable def OJ:aS:=["_law_script"]
theorem kG:aT R3 OJ (aJ rE):=cC rfl rfl rfl rfl (by decide +kernel)
noncomputable def q9:aS:=["thing"]
noncomputable def wY:aS:=["thing"]
theorem BY:aT q9 wY (aJ j5):=cC rfl rfl rfl rfl (by decide +kernel)
noncomputable def oO:aS:=["signs","thing"]
noncomputable def uQ:aS:=oO.take 2
theorem zG:aT oO uQ (aJ kK):=cC rfl rfl rfl rfl (by decide +kernel)
noncomputable def lE:aS:=["signs","thing","todo","at","depth"]
noncomputable def pT:aS:=lE.take 2
theorem gK:aT lE pT (aJ fY):=cC rfl rfl rfl rfl (by decide +kernel)
noncomputable def LH:aS:=["term","found","todo","at"]
noncomputable def BC:aS:=["term"]
theorem mW:aT LH BC (aJ pD):=cC rfl rfl rfl rfl (by decide +kernel)
noncomputable def pX:aS:=["term"]
noncomputable def pS:aS:=["term"]
theorem vA:aT pX pS (aJ iE):=cC rfl rfl rfl rfl (by decide +kernel)
noncomputable def mS:aS:=["term"]
noncomputable def rP:aS:=["term"]
theorem xL:aT mS rP (aJ gY):=cC rfl rfl rfl rfl (by decide +kernel)
noncomputable def uT:aS:=["name","term"]
noncomputable def BE:aS:=uT.take 2
theorem FQ:aT uT BE (aJ pE):=cC rfl rfl rfl rfl (by decide +kernel)
noncomputable def oQ:aS:=["name","nought","parts","left","part"]
noncomputable def uS:aS:=oQ.take 3
theorem lU:aT oQ uS (aJ kM):=cC rfl rfl rfl rfl (by decide +kernel)
noncomputable def iB:aS:=["signs","name","parts","nought"]
noncomputable def lH:aS:=iB.take 3
theorem jZ:aT iB lH (aJ fL):=cC rfl rfl rfl rfl (by decide +kernel)
noncomputable def gU:aS:=["term","filling","whole","made","at","parts"]
noncomputable def nU:aS:=gU.take 3
theorem fV:aT gU nU (aJ fF):=cC rfl rfl rfl rfl (by decide +kernel)
noncomputable def rD:aS:=["thing"]
noncomputable def wZ:aS:=["thing"]
theorem BZ:aT rD wZ (aJ j6):=cC rfl rfl rfl rfl (by decide +kernel)
noncomputable def uU:aS:=["thing"]
noncomputable def uP:aS:=["thing"]
theorem zF:aT uU uP (aJ kJ):=cC rfl rfl rfl rfl (by decide +kernel)
noncomputable def fM:aS:=["thing","least","most","pair"]
noncomputable def lJ:aS:=fM.take 3
theorem j4:aT fM lJ (aJ eE):=cC rfl rfl rfl rfl (by decide +kernel)
noncomputable def gW:aS:=["pairs","names"]
noncomputable def nW:aS:=["pairs"]
theorem lW:aT gW nW (aJ eG):=cC rfl rfl rfl rfl (by decide +kernel)
noncomputable def jW:aS:=["fixed_rows","name","many"]
noncomputable def nV:aS:=["fixed_rows"]
theorem lV:aT jW nV (aJ fG):=cC rfl rfl rfl rfl (by decide +kernel)
noncomputable def fN:aS:=["sum_rows","bare_names","name","nought","noughts"]
noncomputable def lK:aS:=fN.take 2
theorem gH:aT fN lK (aJ eF):=cC rfl rfl rfl rfl (by decide +kernel)
noncomputable def fA:aS:=["self","fixed","sums","fixed_rows","sum_rows"]
noncomputable def gJ:aS:=fA.take 3
theorem fX:aT fA gJ (aJ cD):=cC rfl rfl rfl rfl (by decide +kernel)
noncomputable def lF:aS:=["self","name"]
noncomputable def lD:aS:=lF.take 2
theorem vC:aT lF lD (aJ eA):=cC rfl rfl rfl rfl (by decide +kernel)
noncomputable def jE:aS:=["self","name"]
noncomputable def jB:aS:=jE.take 2
theorem rY:aT jE jB (aJ cY):=cC rfl rfl rfl rfl (by decide +kernel)
noncomputable def BI:aS:=["_law_cell","_law_mixed_here"]
noncomputable def rT:aS:=["_law_cell"]
theorem pC:aT BI rT (aJ jK):=cC rfl rfl rfl rfl (by decide +kernel)
noncomputable def mU:aS:=["_law_state","_law_signs_here","_law_budget","_law_fixed","_law_sums","_law_some"]
noncomputable def rS:aS:=mU.take 3
theorem kH:aT mU rS (aJ gZ):=cC rfl rfl rfl rfl (by decide +kernel)
noncomputable def pY:aS:=["_law_name","_law_term_here","_law_found","_law_part"]
noncomputable def k9:aS:=pY.take 2
theorem jP:aT pY k9 (aJ fZ):=cC rfl rfl rfl rfl (by decide +kernel)
noncomputable def p0:aS:=["_law_state","_law_row","_law_left","_law_found"]
noncomputable def pW:aS:=p0.take 2
theorem jQ:aT p0 pW (aJ iG):=cC rfl rfl rfl rfl (by decide +kernel)
noncomputable def kD:aS:=["_law_state","_law_name","_law_row","_law_at"]
noncomputable def kB:aS:=kD.take 3
theorem fW:aT kD kB (aJ eZ):=cC rfl rfl rfl rfl (by decide +kernel)
noncomputable def iC:aS:=["_law_state","_law_noughts","_law_term_here","_law_more","_law_parts_here","_law_name","_law_row"]
noncomputable def h9:aS:=iC.take 4
theorem eX:aT iC h9 (aJ dC):=cC rfl rfl rfl rfl (by decide +kernel)
noncomputable def nZ:aS:=["_law_term_here"]
noncomputable def jT:aS:=["_law_term_here"]
theorem tG:aT nZ jT (aJ eH):=cC rfl rfl rfl rfl (by decide +kernel)
noncomputable def qA:aS:=["_law_term_here"]
noncomputable def lC:aS:=["_law_term_here"]
theorem vB:aT qA lC (aJ eY):=cC rfl rfl rfl rfl (by decide +kernel)
noncomputable def pZ:aS:=["_law_state","_law_noughts","_law_term_here","_law_found"]
noncomputable def pV:aS:=pZ.take 3
theorem nO:aT pZ pV (aJ iF):=cC rfl rfl rfl rfl (by decide +kernel)
noncomputable def kC:aS:=["_law_term_here","_law_at","_law_leaf_here","_law_found","_law_part","_law_many"]
noncomputable def gI:aS:=kC.take 3
theorem dG:aT kC gI (aJ dW):=cC rfl rfl rfl rfl (by decide +kernel)
noncomputable def mT:aS:=["_law_term_here","_law_at","_law_part","_law_many"]
noncomputable def jA:aS:=mT.take 2
theorem fK:aT mT jA (aJ eU):=cC rfl rfl rfl rfl (by decide +kernel)
noncomputable def nY:aS:=["_law_state","_law_given","_law_term_here","_law_fixed","_law_sums","_law_way","_law_at","_law_wish","_law_side","_law_names"]
noncomputable def nX:aS:=nY.take 3
theorem cI:aT nY nX (aJ gL):=cC rfl rfl rfl rfl (by decide +kernel)
noncomputable def uV:aS:=["signs","name","parts","whole","part"]
noncomputable def uR:aS:=uV.take 3
theorem jH:aT uV uR (aJ kL):=cC rfl rfl rfl rfl (by decide +kernel)
noncomputable def BH:aS:=["signs","term"]
noncomputable def uO:aS:=BH.take 2
theorem FP:aT BH uO (aJ cS):=cC rfl rfl rfl rfl (by decide +kernel)
noncomputable def C8:aS:=["signs","one","other","there","one_flat","back","other_flat"]
noncomputable def LG:aS:=C8.take 3
theorem xK:aT C8 LG (aJ tH):=cC rfl rfl rfl rfl (by decide +kernel)
noncomputable def jV:aS:=["signs","term","steps","made","place","at","name","parts"]
noncomputable def nS:aS:=jV.take 2
theorem dU:aT jV nS (aJ fE):=cC rfl rfl rfl rfl (by decide +kernel)
noncomputable def BG:aS:=["term","found","todo","place","at","within"]
noncomputable def BD:aS:=["term"]
theorem iN:aT BG BD (aJ lX):=cC rfl rfl rfl rfl (by decide +kernel)
noncomputable def jC:aS:=["name","nought","place","parts","one","other","front","behind","steps","number"]
noncomputable def mQ:aS:=jC.take 4
theorem cR:aT jC mQ (aJ eQ):=cC rfl rfl rfl rfl (by decide +kernel)
noncomputable def jD:aS:=["name","place","moved","behind","steps","key","many","number","at"]
noncomputable def mR:aS:=jD.take 4
theorem dA:aT jD mR (aJ eT):=cC rfl rfl rfl rfl (by decide +kernel)
structure Txt (mg:jF):Prop where
 n_len:mg "len" = none
 n_range:mg "range" = none
 n_int:mg "int" = none
 n_abs:mg "abs" = none
 n_min:mg "min" = none
 n_max:mg "max" = none
 n_tuple:mg "tuple" = none
 n_list:mg "list" = none
 n_dict:mg "dict" = none
 n_set:mg "set" = none
 n_isinstance:mg "isinstance" = none
 n_str:mg "str" = none
 n_bool:mg "bool" = none
 n_sorted:mg "sorted" = none
 n_reversed:mg "reversed" = none
 n_all:mg "all" = none
 n_any:mg "any" = none
 n_zip:mg "zip" = none
 n_repr:mg "repr" = none
 n_sum:mg "sum" = none
 n_enumerate:mg "enumerate" = none
 c_WISH_SIGNS:∃u,mg "WISH_SIGNS" = some u/\aY (.str "abcdefghijklmnopqrstuvwxyz0123456789") u
 c_LETTERS:∃u,mg "LETTERS" = some u/\aY (.str "abcdefghijklmnopqrstuvwxyz") u
 c_LONGEST_WISH:∃u,mg "LONGEST_WISH" = some u/\aY (.int 9) u
 c_DEEPEST:∃u,mg "DEEPEST" = some u/\aY (.int 1000) u
 c_LONGEST_NAME:∃u,mg "LONGEST_NAME" = some u/\aY (.int 6) u
 c_MOST_FIXED:∃u,mg "MOST_FIXED" = some u/\aY (.int 12) u
 c_MOST_SUMS:∃u,mg "MOST_SUMS" = some u/\aY (.int 3) u
 c_MOST_PARTS:∃u,mg "MOST_PARTS" = some u/\aY (.int 3) u
section
variable {P:Program}{w:World}{K:PySem.W.Frag}{mg:jF}{base:Heap}
def aP (H:Hp)(p:Addr):Prop:=∃a b:Int,H p=some (.lst [.int a,.int b])
theorem aP.but {p l:Addr}{H:Hp}{o:HO}(h:aP H p)(n:p≠l):aP (upd H l o) p:=by obtain⟨x,y,e⟩:=h;exact⟨x,y,by rw[aE n];exact e⟩
theorem aP.ne {p l:Addr}{H:Hp}(h:aP H p)(n:H l=none):p≠l:=by obtain⟨x,y,e⟩:=h;exact aG e n
def fP:Sp:=λvs H Q _=>∃p n,vs=[.ref p,.int n]/\aP H p/\0<n/\n<1073741824/\∀d a b,0<=d->d<n->Q (.int d) (upd H p (.lst [.int a,.int b]))
theorem M6 {f:Addr}{g:FuncData}(F:gG K "_law_take" "_law_take" jI f g)(T:Txt mg):bY P w K mg base bN 1 f g rQ fP:=by
 refine F.ok pA (λvs H Q E h=>?_) (λo A outer s H vs Q E j h=>?_)
 ·obtain⟨p,n,rfl,_⟩:=h;rfl
 ·obtain⟨p,n,rfl,⟨a,b,d⟩,c,l,k⟩:=h
  refine⟨_,(aC (bL (aQ tO (bC bW (pv 0) aF (λ_ _=>rfl)) aF (nomark _)) (aC (aU (i:=2) pA.nd rfl (Or.inl rfl) (bG oC (bC bW (pv 0) aF (λ_ _=>rfl)) (pv 1)))
   (aC (gB (bG D4 (bC bW (pv 0) aF (λ_ _=>rfl)) (pv 1)) (xT (pv 0) aF oZ))
   (aH (aN (pv 2))))) aR)
   (aC (gB (bG oC (bG bT (bG (mE.or tN) (bC bW (pv 0) aF (λ_ _=>rfl)) aF) aF) aF) (xT (pv 0) aF oZ))
   (aH (aN (bG oC (bG D4 (bG oC (bG (mE.or tN) (bC bW (pv 0) aF (λ_ _=>rfl)) (bC bW (pv 0) aF (λ_ _=>rfl))) aF) aF) (pv 1)))))),?_⟩
  clear j F T;have e:ixV H (.ref p) (.int 0)=some (.int a):=by rw[ixV_l d];rfl
  have m:ixV H (.ref p) (.int 1)=some (.int b):=by rw[ixV_l d];rfl
  refine⟨_,rfl,_,e,_,_,rfl,rfl,_,rfl,ite2 (λ_=>?_) λ_=>?_⟩
  ·exact⟨_,rfl,_,e,_,rfl,_,_,rfl,rfl,c,_,rfl,_,e,_,rfl,_,_,rfl,rfl,⟨c,l⟩,_,rfl,p,_,0,0,rfl,rfl,d,rfl,_,rfl,k _ _ _ (Int.emod_nonneg _ (by omega)) (Int.emod_lt_of_pos _ c)⟩
  ·have r:=Int.emod_nonneg (b * 39373+7919) (b:=2147483629) (by decide);have q:=Int.emod_lt_of_pos (b * 39373+7919) (b:=2147483629) (by decide);refine⟨_,rfl,_,m,.inl ⟨_,_,rfl,rfl,.inr (by decide),.inl ⟨_,rfl,_,_,rfl,rfl,(by decide:(0:Int)<2147483629),_,rfl,p,_,1,1,rfl,rfl,d,rfl,_,rfl,_,by rw[ixV_l upd_same];rfl,_,rfl,_,by rw[ixV_l upd_same];rfl,.inl ⟨_,_,rfl,rfl,.inl ⟨by omega,by omega⟩,_,_,rfl,rfl,(by decide:(0:Int)<2147483563),_,_,rfl,rfl,⟨by decide,by decide⟩,_,rfl,_,_,rfl,rfl,c,k _ _ _ (Int.emod_nonneg _ (by omega)) (Int.emod_lt_of_pos _ c)⟩⟩⟩⟩
def ID:Sp:=λvs H Q _=>∃n:Int,vs=[.int n]/\∀p x y,H p=none->Q (.ref p) (upd H p (.lst [.int x,.int y]))
theorem NG {f:Addr}{a:FuncData}(F:gG K "_law_from" "_law_from" jK f a)(T:Txt mg):bY P w K mg base bN 1 f a rT ID:=by
 refine F.ok pC (λvs H Q E h=>?_) (λd A outer s H vs Q E b h=>?_)
 ·obtain⟨n,rfl,_⟩:=h;rfl
 ·obtain⟨n,rfl,q⟩:=h
  refine⟨_,(aC (aU (i:=1) pC.nd rfl (Or.inl rfl) (bG oC (bG bT (bG (mE.or tN) (bG oC (pv 0) aF) aF) aF) aF))
   (aH (aN (bQ (aA (bG (mE.or tN) (pv 0) (cB G5 rfl T.n_int rfl (aA (jN OD (pv 0) (bG PN aF aF) (nomark _)) aB))) (aA (pv 1) aB)))))),?_⟩
  clear b F T;refine⟨_,rfl,_,_,rfl,rfl,(by decide:(0:Int)<2147483629),.inl ⟨_,_,rfl,rfl,.inr (by decide),.inl ⟨_,rfl,_,_,rfl,rfl,(by decide:(0:Int)<2147483647),?_⟩⟩⟩;refine⟨_,rfl,_,rfl,_,_,rfl,rfl,⟨by decide,by decide,by decide⟩,_,_,rfl,rfl,_,_,rfl,rfl,.inl ⟨_,_,rfl,rfl,.inr ?_,_,rfl,show 2<=sizeLine by decide,λp c=>q p _ _ c⟩⟩;split <;> decide
def aX (H H':Hp):Prop:=∀b xs,H b=some (.tup xs)->H' b=some (.tup xs)
theorem aX.trans {H e d:Hp}(a:aX H e)(b:aX e d):aX H d:=λc xs h=>b c xs (a c xs h)
theorem aX.of {H H':Hp}(s:aD H H'):aX H H':=λb xs h=>s b _ h
theorem aX.lst {H:Hp}{a:Addr}{c:List V}{o:HO}(h:H a=some (.lst c)):aX H (upd H a o):=λb xs e=>by rw[aE (λz=>by rw[z,h]at e;cases e)];exact e
theorem C3 {p a:Addr}{H H':Hp}{o:HO}(h:cG p H H')(n:H a=none):cG p H (upd H' a o):=λc u nc e=>by rw[aE (aG e n)];exact h c u nc e
theorem aX.pot {H:Hp}{p:Addr}{o:HO}(h:aP H p):aX H (upd H p o):=by obtain⟨x,y,e⟩:=h;exact aX.lst e
def cX (H:Hp):cH->List V->Prop
 | [],vs=>vs=[]
 | r::l,vs=>∃t us,vs = .ref t::us/\H t=some (.tup [.str r.1,.int r.2])/\cX H l us
def fJ (H:Hp):bH->List V->Prop
 | [],vs=>vs=[]
 | r::l,vs=>∃t us,vs = .ref t::us/\H t=some (.tup [.str r.1,.str r.2])/\fJ H l us
theorem cX.same {H H':Hp}(s:aX H H'):∀{l:cH} {vs:List V},cX H l vs->cX H' l vs
 | [],_,h=>h
 | _::_,_,⟨t,us,e,h,q⟩=>⟨t,us,e,s _ _ h,cX.same s q⟩
theorem fJ.same {H H':Hp}(s:aX H H'):∀{l:bH} {vs:List V},fJ H l vs->fJ H' l vs
 | [],_,h=>h
 | _::_,_,⟨t,us,e,h,q⟩=>⟨t,us,e,s _ _ h,fJ.same s q⟩
theorem cX.snoc {H:Hp}{n:Str}{k:Int}{t:Addr}(a:H t=some (.tup [.str n,.int k])):∀{l:cH} {vs:List V},cX H l vs->cX H (l++[(n,k)]) (vs++[.ref t])
 | [],_,h=>by cases h;exact⟨t,[],rfl,a,rfl⟩
 | _::_,_,⟨u,us,e,h,q⟩=>by subst e;exact⟨u,us++[.ref t],rfl,h,cX.snoc a q⟩
theorem fJ.snoc {H:Hp}{n k:Str}{t:Addr}(a:H t=some (.tup [.str n,.str k])):∀{l:bH} {vs:List V},fJ H l vs->fJ H (l++[(n,k)]) (vs++[.ref t])
 | [],_,h=>by cases h;exact⟨t,[],rfl,a,rfl⟩
 | _::_,_,⟨u,us,e,h,q⟩=>by subst e;exact⟨u,us++[.ref t],rfl,h,fJ.snoc a q⟩
theorem cX.len {H:Hp}:∀{l:cH} {vs:List V},cX H l vs->vs.length=l.length
 | [],_,h=>by cases h;rfl
 | _::_,_,⟨t,us,e,h,q⟩=>by subst e;simp[cX.len q]
theorem cX.get {H:Hp}:∀{l:cH} {vs:List V} {i:Nat} {v:V},cX H l vs->vs[i]?=some v->∃r t,l[i]?=some r/\v = .ref t/\H t=some (.tup [.str r.1,.int r.2])
 | [],_,_,_,h,e=>by cases h;simp at e
 | r::_,_,0,_,⟨t,us,e,h,q⟩,k=>by subst e;simp at k;exact⟨r,t,rfl,k.symm,h⟩
 | _::_,_,i+1,_,⟨t,us,e,h,q⟩,k=>by subst e;simp at k;obtain⟨r,t,c,b,a⟩:=cX.get q k;exact⟨r,t,by simpa using c,b,a⟩
noncomputable def zeros (a:cH):aS:=(a.filter λr=>decide (r.2=0)).map (·.1)
structure bF (fx:cH)(sm:bH):Prop where
 f1:1<=fx.length
 f2:fx.length<=12
 s2:sm.length<=3
 nm:∀x∈fx.map (·.1)++sm.map (·.1),jU x
 nd:(fx.map (·.1)++sm.map (·.1)).Nodup
 parts:∀r∈fx,0<=r.2/\r.2<=3
 bare:∃r∈fx,r.2=0
 nought:∀r∈sm,r.2≠("" : Str)->r.2∈zeros fx
 once:((sm.map (·.2)).filter λ(x:Str)=>decide (x≠("" : Str))).Nodup
theorem BK (a:cH)(r:Str×Int):zeros (a++[r])=zeros a++(if r.2=0 then [r.1]else []):=by unfold zeros;rw[List.filter_append,ax];congr 1;by_cases z:r.2=0 <;> simp[z]
theorem FE (a:cH):(zeros a).Sublist (a.map (·.1)):=List.Sublist.map _ List.filter_sublist
theorem bD {α:Type}{xs:List α}{i:Nat}{x:α}(h:xs[i]?=some x):xs.take (i+1)=xs.take i++[x]:=by rw[List.take_succ,h];rfl
def isWd (c:Nat):Prop:=(97<=c/\c<=122)∨(48<=c/\c<=57)
def c4 (x:Str):Prop:=∃l:List Nat,x=⟨(63::l).toArray⟩/\1<=l.length/\l.length<=8/\∀c∈l,isWd c
noncomputable def wds:Str:=PySem.Str.ofString "abcdefghijklmnopqrstuvwxyz0123456789"
def LD (p t:Addr)(c:cH)(sm:bH)(H:Hp):Prop:=∃(a b:Addr) (fv sv:List V),H t=some (.tup [.ref a,.ref b])/\H a=some (.lst fv)/\H b=some (.lst sv)/\cX H c fv/\fJ H sm sv/\a≠p/\b≠p
theorem aX.ofBut {p:Addr}{H H':Hp}(h:cG p H H')(a:aP H p):aX H H':=λb xs e=>h b _ (λz=>by obtain⟨x,y,q⟩:=a;rw[z,q]at e;cases e) e
theorem LD.but {p t:Addr}{g:cH}{sm:bH}{H H':Hp}(h:LD p t g sm H)(c:cG p H H')(d:aP H p):LD p t g sm H':=by obtain⟨a,b,r,i,q,o,m,l,j,f,e⟩:=h;exact⟨a,b,r,i,aX.ofBut c d _ _ q,c _ _ f o,c _ _ e m,l.same (aX.ofBut c d),j.same (aX.ofBut c d),f,e⟩
theorem fJ.get {H:Hp}:∀{l:bH} {vs:List V} {i:Nat} {v:V},fJ H l vs->vs[i]?=some v->∃r t,l[i]?=some r/\v = .ref t/\H t=some (.tup [.str r.1,.str r.2])
 | [],_,_,_,h,e=>by cases h;simp at e
 | r::_,_,0,_,⟨t,us,e,h,q⟩,k=>by subst e;simp at k;exact⟨r,t,rfl,k.symm,h⟩
 | _::_,_,i+1,_,⟨t,us,e,h,q⟩,k=>by subst e;simp at k;obtain⟨r,t,c,b,a⟩:=fJ.get q k;exact⟨r,t,by simpa using c,b,a⟩
theorem fJ.len {H:Hp}:∀{l:bH} {vs:List V},fJ H l vs->vs.length=l.length
 | [],_,h=>by cases h;rfl
 | _::_,_,⟨t,us,e,h,q⟩=>by subst e;simp[fJ.len q]
theorem cX.app {H:Hp}:∀{l m:cH} {vs us:List V},cX H l vs->cX H m us->cX H (l++m) (vs++us)
 | [],_,_,_,h,k=>by cases h;exact k
 | _::_,_,_,_,⟨t,us,e,h,q⟩,k=>by subst e;exact⟨t,_,rfl,h,cX.app q k⟩
def nM (a:cH)(sm:bH)(n:Str)(k:Nat):Prop:=(0<k/\(n,(k:Int))∈a)∨(2<=k/\n∈sm.map (·.1))
mutual
def bB (a:cH)(sm:bH)(os:aS):D->Prop
 | .str x=>x∈os∨x∈zeros a
 | .tup (.str n::ds)=>nM a sm n ds.length/\IsTms a sm os ds
 | .lst (.str n::ds)=>nM a sm n ds.length/\IsTms a sm os ds
 | _=>False
def IsTms (a:cH)(sm:bH)(os:aS):List D->Prop
 | []=>True
 | d::ds=>bB a sm os d/\IsTms a sm os ds
end
mutual
noncomputable def lvs:D->Nat
 | .tup (_::ds)=>lvss ds
 | .lst (_::ds)=>lvss ds
 | _=>1
noncomputable def lvss:List D->Nat
 | []=>0
 | d::ds=>lvs d+lvss ds
end
theorem IsTms.snoc {c:cH}{sm:bH}{os:aS}{d:D}(h:bB c sm os d):∀{ds:List D},IsTms c sm os ds->IsTms c sm os (ds++[d])
 | [],_=>⟨h,trivial⟩
 | _::_,⟨a,b⟩=>⟨a,IsTms.snoc h b⟩
theorem nC (d:D):∀ds:List D,lvss (ds++[d])=lvss ds+lvs d
 | []=>by simp[lvss]
 | e::ds=>by rw[List.cons_append,lvss,nC d ds,lvss];omega
theorem uH (d:D):∀ds:List D,depDs (ds++[d])=max (depDs ds) (depD d)
 | []=>Nat.max_comm _ _
 | e::ds=>by rw[List.cons_append,depDs,uH d ds,depDs,Nat.max_assoc]
theorem Reps.snoc {H:Hp}{d:D}{v:V}(h:aZ H d v):∀{ds:List D} {vs:List V},Reps H ds vs->Reps H (ds++[d]) (vs++[v])
 | [],_,e=>by cases e;exact⟨v,[],rfl,h,rfl⟩
 | _::_,_,⟨x,r,e,a,b⟩=>by subst e;exact⟨x,r++[v],rfl,a,Reps.snoc h b⟩
theorem Reps.len {H:Hp}:∀{ds:List D} {vs:List V},Reps H ds vs->vs.length=ds.length
 | [],_,e=>by cases e;rfl
 | _::_,_,⟨x,r,e,a,b⟩=>by subst e;simp[Reps.len b]
noncomputable def nw (H H':Hp):Hp:=λa=>if H a=none then H' a else none
noncomputable def nwB (r:Addr)(H H':Hp):Hp:=λa=>if H a=none/\a≠r then H' a else none
theorem mH {H H':Hp}{a:Addr}{o:HO}:nw H H' a=some o ↔ H a=none/\H' a=some o:=by
 unfold nw;by_cases h:H a=none
 ·rw[ai h];exact⟨λe=>⟨h,e⟩,λe=>e.2⟩
 ·rw[ab h];exact⟨λe=>(by cases e),λe=>absurd e.1 h⟩
def TI (p t o l rw:Addr)(a b parts:Nat)(nm:Str)(d:cH)(sm:bH)(os:aS)(H:Hp)(i:Nat)(σ:St)(c:Hp):Prop :=
 ∃(left:Nat) (ds:List D) (vs:List V) (o10 o11:Option V),σ=[some (.ref p),some (.ref t),some (.ref o),some (.int a),some (.int b),some (.ref l),some (.str nm),some (.int parts),some (.int left),some (.ref rw),o10,o11] /\
  cG p H c/\aP c p/\c rw=some (.lst (.str nm::vs))/\Reps (nwB rw H c) ds vs/\ds.length=i/\IsTms d sm os ds/\lvss ds+left+(parts - i)<=a/\depDs ds+1<=b
noncomputable def c31 (a j:Nat):Nat:=97+(7 * j+a) % 26
def C6 (d:Nat)(b:Nat->Nat)(a:aS):Prop:=a.length=12/\∀j x,a[j]?=some x->∃l,x.cps.toList=c31 d j::l/\l.length<=b j/\∀c∈l,97<=c/\c<=122
theorem C6.mono {c:Nat}{b d:Nat->Nat}{a:aS}(h:C6 c b a)(k:∀j,b j<=d j):C6 c d a :=
 ⟨h.1,λj x e=>by obtain⟨l,i,g,f⟩:=h.2 j x e;exact⟨l,i,ao g (k j),f⟩⟩
theorem C6.set {m:Nat}{b:Nat->Nat}{f:aS}{j c:Nat}{x:Str}(h:C6 m b f)(e:f[j]?=some x)(s:97<=c)(r:c<=122):C6 m (λi=>if i=j then b j+1 else b i) (f.set j (x++⟨#[c]⟩)):=by
 refine⟨by rw[List.length_set];exact h.1,λi y a=>?_⟩;by_cases z:i=j
 ·subst z;obtain⟨l,q,p,o⟩:=h.2 i x e;rw[List.getElem?_set_self (cr.mp e).1]at a;cases a;refine⟨l++[c],?_,by dsimp only;rw[ai rfl,aq];exact Nat.succ_le_succ p,λd hd=>?_⟩
  ·show(x.cps ++ #[c]).toList=_;rw[Array.toList_append,q];rfl
  ·obtain g|g:=cx.mp hd
   ·exact o d g
   ·rw[cs.mp g];exact⟨s,r⟩
 ·rw[List.getElem?_set_ne (λw=>z w.symm)]at a;dsimp only;rw[ab z];exact h.2 i y a
theorem C6.name {d:Nat}{b:Nat->Nat}{a:aS}(h:C6 d b a)(k:∀j,b j<=5){j:Nat}{x:Str}(e:a[j]?=some x):jU x:=by
 obtain⟨l,m,p,i⟩:=h.2 j x e;have o:=k j;unfold jU;rw[m];refine⟨by rw[ap];omega,by rw[ap];omega,λc f=>?_⟩;obtain g|g:=cu.mp f
 ·have:=Nat.mod_lt (7 * j+d) (show 0<26 by decide);unfold c31 at g;omega
 ·exact i c g
theorem C6.nd {d:Nat}{b:Nat->Nat}{a:aS}(h:C6 d b a):a.Nodup:=by rw[List.nodup_iff_pairwise_ne,List.pairwise_iff_getElem];intro i j q o p e;obtain⟨l,c,_⟩:=h.2 i _ (aw q);obtain⟨m,f,_⟩:=h.2 j _ (aw o);rw[e,f]at c;injection c with g _;have hl:=h.1;unfold c31 at g;omega
noncomputable def bO (i j:Nat):Nat:=if j∈([0,5,9]:List Nat).take i then 5 else 0
def TU (p l u:Addr)(b:Nat)(H:Hp)(i:Nat)(σ:St)(H':Hp):Prop:=∃(a:aS) (o4 o5:Option V),σ=[some (.ref p),some (.str abc),some (.int b),some (.ref l),o4,o5,none,none]/\cG p H H'/\aP H' p/\H' l=some (.lst (a.map V.str))/\H' u=some (.lst [.int 0,.int 5,.int 9])/\C6 b (bO i) a
def UI (p l u:Addr)(c:Nat)(H:Hp)(b:Nat->Nat)(j:Nat)(t:Nat)(σ:St)(H':Hp):Prop:=∃(a:aS) (o5:Option V),σ=[some (.ref p),some (.str abc),some (.int c),some (.ref l),some (.int j),o5,none,none]/\cG p H H'/\aP H' p/\H' l=some (.lst (a.map V.str))/\H' u=some (.lst [.int 0,.int 5,.int 9])/\C6 c (λi=>if i=j then t else b i) a
theorem CC {K0:PySem.W.Frag}{p l u:Addr}{s:Nat}{J:It}{d:aS}{H c:Hp}{D:hZ}(hJ:N9 K0 u [.int 0,.int 5,.int 9] J c)(hl:H l=none)(b1:cG p H c)(p1:aP c p)(l1:c l=some (.lst (d.map V.str)))(u1:c u=some (.lst [.int 0,.int 5,.int 9]))(T:u≠l)(C:u≠p)(g:l≠p)(w0:C6 s (bO 0) d)
  (fin:∀f F B H',cG p H H'->aP H' p->H' l=some (.lst (f.map V.str))->C6 s (bO 3) f->D.nx [some (.ref p),some (.str abc),some (.int s),some (.ref l),F,B,none,none] H') :
  sD J (gName 4) (λD σ H=>iRng1 (tCons (tCall fP [] E0 (tCons (tVar 0) (tCons (tC (V.int 6)) tNil))) tNil) σ H λJ c=>sD J (gName 5) (tAsg (tOp rAddF (tOp (λx y H Q=>∃v,ixV H x y=some v/\Q v H) (tVar 3) (tVar 4)) (tOp (λx y H Q=>∃v,ixV H x y=some v/\Q v H) (tVar 1) (tCall fP [] E0 (tCons (tVar 0) (tCons (tC (V.int 26)) tNil))))) (gSub (tVar 3) (tVar 4) rSetL)) D σ c) D [some (.ref p),some (.str abc),some (.int s),some (.ref l),none,none,none,none] c:=by
 refine gQ hJ (TU p l u s H) ⟨d,none,none,rfl,b1,p1,l1,u1,w0⟩ (λi σ H' _ ⟨_,_,_,_,_,_,_,h,_⟩=>by rw[h,u1]) ?_ ?_
 ·rintro i x σ o b ⟨f,F,B,rfl,Z,R,X,u2,N⟩;obtain⟨j,rfl,hj,hb0,hb1⟩:∃j:Nat,x = .int j/\j<12/\bO i j=0/\∀k,(if k=j then 5 else bO i k)<=bO (i+1) k:=by
   match i,b with
   | 0,b=>cases b;exact⟨0,rfl,by decide,by decide,λk=>by by_cases z:k=0 <;> simp[bO,z]⟩
   | 1,b=>cases b;exact⟨5,rfl,by decide,by decide,λk=>by by_cases z:k=5 <;> simp[bO,z]⟩
   | 2,b=>cases b;exact⟨9,rfl,by decide,by decide,λk=>by by_cases z:k=9 <;> simp[bO,z]⟩
   | i+3,b=>simp at b
  refine⟨_,rfl,p,6,rfl,R,by decide,by decide,λr A w r0 r1=>⟨r,rfl,by omega,by omega,?_⟩⟩;have b3:=Z.trans (cG.upd p o (.lst [.int A,.int w]));have p3:aP (upd o p (.lst [.int A,.int w])) p:=⟨_,_,upd_same⟩
  have l3:upd o p (.lst [.int A,.int w]) l=some (.lst (f.map V.str)):=by rw[aE g];exact X
  have u3:upd o p (.lst [.int A,.int w]) u=some (.lst [.int 0,.int 5,.int 9]):=by rw[aE C];exact u2
  generalize upd o p (.lst [.int A,.int w])=H3 at b3 p3 l3 u3⊢;refine oJ (UI p l u s H (bO i) j) ⟨f,B,rfl,b3,p3,l3,u3,N.mono λk=>?_⟩ ?_ ?_
  ·by_cases z:k=j
   ·rw[z,hb0];exact au _
   ·rw[ab z];exact ac _
  ·rintro t σ I ht ⟨a,S,rfl,Y,P,G,O,q⟩;obtain⟨y,hy⟩:∃y,a[j]?=some y:=⟨_,aw (by rw[q.1];exact hj)⟩
   obtain⟨ly,U,E,_⟩:=q.2 j y hy;dsimp only at E;rw[ai rfl]at E;refine⟨_,rfl,_,rfl,.str y,by rw[ixV_l G];exact iJ (by rw[bI,hy];rfl),_,rfl,_,rfl,p,26,rfl,P,by decide,by decide,λe L K e0 e1=>⟨_,J7 e0 e1,.inl ⟨_,ai (ao (m:=100) ?_ (by decide)),_,rfl,_,rfl,l,_,j,j,rfl,rfl,by rw[aE g];exact G,?_,?_⟩⟩⟩
   ·show y.cps.size+1<=100;rw[←br,U,ap];omega
   ·rw[yI (by omega) (by rw[ae,q.1];omega)];rfl
   ·have b5:=Y.trans (cG.upd p I (.lst [.int L,.int K]));have p5:aP (upd I p (.lst [.int L,.int K])) p:=⟨_,_,upd_same⟩
    have u5:upd I p (.lst [.int L,.int K]) u=some (.lst [.int 0,.int 5,.int 9]):=by rw[aE C];exact O
    refine⟨a.set j (y++⟨#[97+e.toNat]⟩),_,rfl,C3 b5 hl,p5.but g.symm,by rw[upd_same,List.map_set],by rw[aE T];exact u5,(q.set hy (by omega) (by omega)).mono λk=>?_⟩;by_cases z:k=j
    ·rw[ai z,ai z,ai rfl];exact ac _
    ·rw[ab z,ab z,ab z];exact ac _
  ·rintro σ I ⟨a,S,rfl,Y,P,G,O,q⟩;refine⟨a,_,_,rfl,Y,P,G,O,q.mono λk=>ao ?_ (hb1 k)⟩;by_cases z:k=j
   ·rw[ai z,ai z];omega
   ·rw[ab z,ab z];exact ac _
 ·rintro σ o ⟨f,F,B,rfl,Z,R,X,u2,N⟩;exact fin f F B o Z R X N
theorem list12 {α:Type}{f:List α}(h:f.length=12):∃u t s q p o m j i g c b,f=[u,t,s,q,p,o,m,j,i,g,c,b]:=by
 have one:∀{n:Nat} {l:List α},l.length=n+1->∃a r,l=a::r/\r.length=n:=λ{n l} h=>by
  cases l with
  | nil=>cases h
  | cons a r=>exact⟨a,r,rfl,Nat.succ.inj h⟩
 obtain⟨u,_,rfl,G⟩:=one h;obtain⟨t,_,rfl,F⟩:=one G;obtain⟨s,_,rfl,E⟩:=one F;obtain⟨q,_,rfl,C⟩:=one E;obtain⟨p,_,rfl,B⟩:=one C;obtain⟨o,_,rfl,A⟩:=one B;obtain⟨m,_,rfl,z⟩:=one A;obtain⟨j,_,rfl,x⟩:=one z;obtain⟨i,_,rfl,w⟩:=one x;obtain⟨g,_,rfl,v⟩:=one w;obtain⟨c,_,rfl,e⟩:=one v;obtain⟨b,r,rfl,d⟩:=one e;cases List.length_eq_zero_iff.mp d;exact⟨_,_,_,_,_,_,_,_,_,_,_,_,rfl⟩
def UK (ns:aS)(H:Hp)(i:Nat)(a:List V)(σ:St)(H':Hp):Prop:=aD H H'/\cX H' ((ns.take i).map λx=>(x,(0:Int))) a/\∃o:Option V,σ=[o]
def SW (p l fl:Addr)(nm:List V)(c:List V)(d:cH)(b ns:aS)(H:Hp)(i:Nat)(a:List V)(σ:St)(H':Hp):Prop :=
 ∃(sm:bH) (o:Option V),σ=[o,some (.ref p),some (.ref l)]/\cG p H H'/\aP H' p/\H' l=some (.lst nm)/\H' fl=some (.lst c)/\cX H' d c/\fJ H' sm a/\sm.map (·.1)=ns.take i/\(∀r∈sm,r.2≠("" : Str)->r.2∈b)/\((sm.map (·.2)).filter λ(x:Str)=>decide (x≠("" : Str))).Sublist (b.take i)
theorem zX {f d a i g q p m l u c b:Str}{v k:Nat}{sm:bH}(w:C6 v (bO 3) [f,d,a,i,g,q,p,m,l,u,c,b])(e:sm.map (·.1)=[u,c,b].take k)(z:∀r∈sm,r.2≠("" : Str)->r.2∈[f,d,a])(o:((sm.map (·.2)).filter λ(x:Str)=>decide (x≠("" : Str))).Sublist ([f,d,a].take k)) :
  bF [(f,0),(d,0),(a,0),(i,0),(g,0),(q,1),(p,1),(m,2),(l,3)] sm:=by
 have nd:=w.nd;have s:([f,d,a,i,g,q,p,m,l]++sm.map (·.1)).Sublist [f,d,a,i,g,q,p,m,l,u,c,b]:=by rw[e];exact List.Sublist.append (List.Sublist.refl _) (List.take_sublist _ _)
 have le:sm.length<=3:=by have:=congrArg List.length e;rw[ae,bv]at this;simp only[ap,List.length_nil]at this;omega
 have nm:∀x∈([f,d,a,i,g,q,p,m,l]++sm.map (·.1)),jU x:=λx A=>by obtain⟨j,B⟩:=List.getElem?_of_mem (s.subset A);exact w.name (λj=>by unfold bO;split <;> decide) B
 refine⟨by show 1<=9;decide,by show 9<=12;decide,le,nm,nd.sublist s,?_,⟨_,av,rfl⟩,λr t ne=>?_,(nd.sublist ?_).sublist o⟩
 ·intro r t;simp only[cu,List.not_mem_nil,or_false]at t;rcases t with rfl|rfl|rfl|rfl|rfl|rfl|rfl|rfl|rfl <;> (constructor <;> dsimp only <;> decide)
 ·have:=z r t ne;show r.2∈[f,d,a,i,g];simp only[cu,List.not_mem_nil,or_false]at this⊢;rcases this with h|h|h <;> simp[h]
 ·exact(List.take_sublist _ _).trans (List.sublist_append_left [f,d,a] [i,g,q,p,m,l,u,c,b])
noncomputable def wi31:aS:=["?x","?1","?0z9","?zzzzzzzz"]
def TX (c:Nat)(d:Hp)(i:Nat)(b:List V)(σ:St)(H':Hp):Prop:=H'=d/\∃(a:aS) (o:Option V),b=a.map V.str/\a.length=i/\σ=[o,some (.str abc),some (.int c)]/\∀(j:Nat) (x:Str),a[j]?=some x->x=⟨#[c31 c j]⟩
def RZ (a:cH)(sm:bH):Prop:=(∀j,j<5->∃x,a[j]?=some (x,0))/\(∃r∈a,r.2=1)/\1<=sm.length/\∃x:Str,a[7]?=some (x,2)
def vQ:Sp:=λvs H Q _=>∃p:Addr,vs=[.ref p]/\aP H p/\∀(t a b:Addr) (fx:cH) (sm:bH) (fv sv:List V) (H':Hp),cG p H H'->aP H' p->H' t=some (.tup [.ref a,.ref b])->H' a=some (.lst fv)->H' b=some (.lst sv)->cX H' fx fv->fJ H' sm sv->bF fx sm->a≠p->b≠p->RZ fx sm->Q (.ref t) H'
theorem JQ {f:Addr}{fd:FuncData}(F:gG K "_law_signs" "_law_signs" d8 f fd)(T:Txt mg)(c:dP P w K mg base bN 1 "_law_take" fP):bY P w K mg base bN 2 f fd pU vQ:=by
 refine F.ok cW (λvs H Q E h=>?_) (λcdv A outer s H vs Q E hr h=>?_)
 ·obtain⟨p,rfl,_⟩:=h;rfl
 ·obtain⟨p,rfl,hp,q⟩:=h;have hu:=hr.units
  refine⟨_,(aC (aU (i:=1) cW.nd rfl (Or.inr rfl) cJ)
   (aC (aU (i:=2) cW.nd rfl (Or.inr rfl) (aM c (hr.mono (by decide)) pass0 rfl (aA (pv 0) (aA aF aB))))
   (aC (aU (i:=3) cW.nd rfl (Or.inr rfl) (e8 rfl (bJ.by (N:=iL) (names:=(aJ d8).names) (N':=["_law_j","_law_letters","_law_shift"]) (src:=[none,some 1,some 2]) (by decide +kernel) rfl rfl) (iO rfl T.n_range (aA aF aB)) (λ_ _ _ _=>(bA (i:=0) (show List.Nodup (["_law_j","_law_letters","_law_shift"]:aS)by decide +kernel) rfl (Or.inl rfl))) (λ_ _ _ _=>cV) (λ_ _ _ _=>(bC bW (pv 1) (bG oC (bG bT (bG (mE.or tN) aF (pv 0)) (pv 2)) aF) (λ_ _=>rfl)))))
   (aC (fB di rfl (cQ K rfl (bQ (aA aF (aA aF (aA aF aB))))) (bA (i:=4) cW.nd rfl (Or.inl rfl)) (aH (fB di rfl (iO rfl T.n_range (aA (aM c (hr.mono (by decide)) pass0 rfl (aA (pv 0) (aA aF aB))) aB)) (bA (i:=5) cW.nd rfl (Or.inl rfl)) (aH (gB (bG bT (bC bW (pv 3) (pv 4) (λ_ _=>rfl)) (bC bW (pv 1) (aM c (hr.mono (by decide)) pass0 rfl (aA (pv 0) (aA aF aB))) (λ_ _=>rfl))) (xT (pv 3) (pv 4) oZ))))))
   (aC (gM (i:=6) cW.nd rfl rfl rfl rfl (bJ.by (N:=iL) (names:=(aJ d8).names) (N':=["_law_name"]) (src:=[none]) (by decide +kernel) rfl rfl) (cQ K rfl (dX iT (pv 3) c5 (cM aF))) (λ_ _ _ _=>(bA (i:=0) (show List.Nodup (["_law_name"]:aS)by decide +kernel) rfl (Or.inl rfl))) (λ_ _ _ _=>cV) (λ_ _ _ _=>(bE (aA (pv 0) (aA aF aB)))))
   (aC (bZ (fI df PySem.F.slot_list_extend PySem.F.type_list_extend iH (pv 6) (aA (bQ (aA (bE (aA (bC bW (pv 3) aF (λ_ _=>rfl)) (aA aF aB))) (aA (bE (aA (bC bW (pv 3) aF (λ_ _=>rfl)) (aA aF aB))) (aA (bE (aA (bC bW (pv 3) aF (λ_ _=>rfl)) (aA aF aB))) (aA (bE (aA (bC bW (pv 3) aF (λ_ _=>rfl)) (aA aF aB))) aB))))) aB)))
   (aC (gM (i:=7) cW.nd rfl rfl rfl rfl (bJ.by (N:=iL) (names:=(aJ d8).names) (N':=["_law_j","_law_state","_law_names"]) (src:=[none,some 0,some 3]) (by decide +kernel) rfl rfl) (iO rfl T.n_range (aA (bG bT aF (aM c (hr.mono (by decide)) pass0 rfl (aA (pv 0) (aA aF aB)))) aB)) (λ_ _ _ _=>(bA (i:=0) (show List.Nodup (["_law_j","_law_state","_law_names"]:aS)by decide +kernel) rfl (Or.inl rfl))) (λ_ _ _ _=>cV) (λ_ _ _ _=>(bE (aA (bC bW (pv 2) (bG bT aF (pv 0)) (λ_ _=>rfl)) (aA (bC bW (bQ (aA (bC bW (pv 2) (pv 0) (λ_ _=>rfl)) (aA cJ aB))) (aM c (hr.mono (by decide)) pass0 rfl (aA (pv 1) (aA aF aB))) (λ_ _=>rfl)) aB)))))
   (aH (aN (bE (aA (pv 6) (aA (pv 7) aB)))))))))))),?_⟩
  clear hr F T hu c;simp only[dF,eM];refine⟨_,rfl,p,26,rfl,hp,by decide,by decide,λd x0 y0 d0 d1=>?_⟩;obtain⟨sh,rfl,hsh⟩:∃k:Nat,d=(k:Int)/\k<26:=⟨d.toNat,by omega,by omega⟩
  have p1:aP (upd H p (.lst [.int x0,.int y0])) p:=⟨_,_,upd_same⟩
  have b1:cG p H (upd H p (.lst [.int x0,.int y0])):=cG.upd p H _;generalize upd H p (.lst [.int x0,.int y0])=H1 at p1 b1⊢;refine⟨12,rfl,by decide,by decide,?_⟩;refine mP (TX sh H1) ⟨rfl,[],none,rfl,rfl,rfl,by simp⟩ ?_ ?_
  ·rintro i g σ H' hi ⟨rfl,ws,o,rfl,hl,rfl,hw⟩;have hm:=Nat.mod_lt (7 * i+sh) (show 0<26 by decide);have ei:(7 * (0+(i:Int))+(sh:Int)) % 26=((7 * i+sh) % 26:Nat):=by omega
   refine⟨_,rfl,_,rfl,.inl ⟨_,_,rfl,rfl,.inl (by decide),_,rfl,.inl ⟨_,rfl,_,_,rfl,rfl,(by decide:(0:Int)<26),_,(by dsimp only;rw[ei];exact J7 (by omega) (by omega)),aj (m:=12) (by rw[ae];omega) (by decide),rfl,ws++[⟨#[c31 sh i]⟩],_,by rw[ax];rfl,by rw[aq,hl];rfl,rfl,λj x e=>?_⟩⟩⟩;by_cases z:j<ws.length
   ·rw[List.getElem?_append_left z]at e;exact hw j x e
   ·rw[List.getElem?_append_right (by omega),hl]at e;obtain⟨g1,g2⟩:=cr.mp e;have g3:j=i:=by simp at g1;omega
    subst g3
    simpa using g2.symm
  ·rintro g σ H' ⟨rfl,ws,o,rfl,hl,rfl,hw⟩ l hl0;have nlp:l≠p:=(p1.ne hl0).symm;have old:∀a,a≠p->H' a=none->H a=none:=λa na ha=>by
    cases e:H a with
    | none=>rfl
    | some u=>have:=b1 a u na e;rw[ha]at this;cases this
   have hlH:=old l nlp hl0;have b2:=b1.trans (cG.new (p:=p) (o:=.lst (ws.map V.str)) hl0);have p2:=p1.but (o:=.lst (ws.map V.str)) (p1.ne hl0);have l2:upd H' l (.lst (ws.map V.str)) l=some (.lst (ws.map V.str)):=upd_same;generalize upd H' l (.lst (ws.map V.str))=H2 at b2 p2 l2⊢;refine⟨show 3<=sizeLine by decide,λu hu=>⟨u,_,rfl,.inl upd_same,λJ hJ=>CC hJ hlH (b2.trans (cG.new hu)) (p2.but (p2.ne hu)) (by rw[aE (aG l2 hu)];exact l2) upd_same (aG l2 hu).symm (p2.ne hu).symm nlp ⟨hl,λj x e=>⟨[],by rw[hw j x e],au _,by simp⟩⟩ λws3 o4 o5 H3 b3 p3 l3 w3=>?_⟩⟩;clear hJ J hu b2 p2 l2 hl hw ws;obtain⟨C,B,v,S,R,W,a6,a7,a8,a9,O,I,rfl⟩:=list12 w3.1;refine⟨_,rfl,5,rfl,l,_,rfl,.inl l3,(λ⟨ys,hy⟩=>by rw[l3]at hy;cases hy),λsl os hsl ho=>?_⟩;have eo:os = .lst [.str C,.str B,.str v,.str S,.str R]:=by
    rcases ho with⟨e,_⟩|⟨_,e⟩
    ·rw[e];rfl
    ·rw[l3]at e;cases e
   subst eo;clear ho;have s4:aD H3 (upd H3 sl (.lst [.str C,.str B,.str v,.str S,.str R])):=aD.upd hsl;have l4:upd H3 sl (.lst [.str C,.str B,.str v,.str S,.str R]) sl=some (.lst ([C,B,v,S,R].map V.str)):=upd_same;generalize upd H3 sl (.lst [.str C,.str B,.str v,.str S,.str R])=H4 at s4 l4⊢;refine⟨sl,_,rfl,.inl l4,λJ hJ=>cU hJ (UK [C,B,v,S,R] H4) ⟨aD.refl _,rfl,none,rfl⟩ (λi g σ H' _ h=>by rw[h.1 _ _ l4,l4]) ?_ ?_⟩
   ·rintro i x g σ H5 hx ⟨s5,r5,o6,rfl⟩;obtain⟨y,hy,rfl⟩:∃y,[C,B,v,S,R][i]?=some y/\x = .str y:=by
     rw[bI]at hx;cases e:[C,B,v,S,R][i]? with
     | none=>rw[e]at hx;cases hx
     | some n=>rw[e]at hx;exact⟨n,rfl,by cases hx;rfl⟩
    refine⟨_,rfl,show 2<=sizeLine by decide,λt U=>⟨aj (m:=20) ?_ (by decide),s5.trans (aD.upd U),?_,_,rfl⟩⟩
    ·rw[r5.len,ae,bv];simp;omega
    ·rw[bD hy,ax];exact(r5.same (aX.of (aD.upd U))).snoc upd_same
   ·rintro g σ H5 ⟨s5,r5,o6,rfl⟩ fl hfl;have r5':cX H5 [(C,0),(B,0),(v,0),(S,0),(R,0)] g:=r5;have s6:=(s4.trans s5).trans (aD.upd (o:=.lst g) hfl);have f6:upd H5 fl (.lst g) fl=some (.lst g):=upd_same;have r6:=r5'.same (aX.of (aD.upd (o:=.lst g) hfl));have nfl:H3 fl=none:=by
     cases e:H3 fl with
     | none=>rfl
     | some u=>have:=(s4.trans s5) _ _ e;rw[hfl]at this;cases this
    have nfp:fl≠p:=(p3.ne nfl).symm;have nfH:H fl=none:=by
     cases e:H fl with
     | none=>rfl
     | some u=>have:=b3 fl u nfp e;rw[nfl]at this;cases this
    have la:=r5'.len;generalize upd H5 fl (.lst g)=H6 at s6 f6 r6⊢;have L:∀{H7:Hp},aD H6 H7->H7 l=some (.lst ([C,B,v,S,R,W,a6,a7,a8,a9,O,I].map V.str)):=λs=>s _ _ (s6 _ _ l3);refine⟨_,rfl,.inl ⟨rfl,_,dN.of f6⟩,_,rfl,.str W,by rw[ixV_l (L (aD.refl _))];rfl,show 2<=sizeLine by decide,λt1 h1=>?_⟩;have s7:=aD.upd (o:=.tup [.str W,.int 1]) h1;have g1:upd H6 t1 (.tup [.str W,.int 1]) t1=some (.tup [.str W,.int 1]):=upd_same;generalize upd H6 t1 (.tup [.str W,.int 1])=H7 at s7 g1⊢;refine⟨_,rfl,.str a6,by rw[ixV_l (L s7)];rfl,show 2<=sizeLine by decide,λY h2=>?_⟩;have s8:=s7.trans (aD.upd (o:=.tup [.str a6,.int 1]) h2);have g2:=cX.snoc (upd_same (H:=H7) (a:=Y) (o:=.tup [.str a6,.int 1])) (cX.snoc (l:=[]) (vs:=[]) (aD.upd (o:=.tup [.str a6,.int 1]) h2 _ _ g1) rfl);generalize upd H7 Y (.tup [.str a6,.int 1])=H8 at s8 g2⊢;refine⟨_,rfl,.str a7,by rw[ixV_l (L s8)];rfl,show 2<=sizeLine by decide,λt3 h3=>?_⟩;have s9:=s8.trans (aD.upd (o:=.tup [.str a7,.int 2]) h3);have g3:=cX.snoc (upd_same (H:=H8) (a:=t3) (o:=.tup [.str a7,.int 2])) (g2.same (aX.of (aD.upd (o:=.tup [.str a7,.int 2]) h3)));generalize upd H8 t3 (.tup [.str a7,.int 2])=H9 at s9 g3⊢;refine⟨_,rfl,.str a8,by rw[ixV_l (L s9)];rfl,show 2<=sizeLine by decide,λX h4=>?_⟩;have s10:=s9.trans (aD.upd (o:=.tup [.str a8,.int 3]) h4);have g4:=cX.snoc (upd_same (H:=H9) (a:=X) (o:=.tup [.str a8,.int 3])) (g3.same (aX.of (aD.upd (o:=.tup [.str a8,.int 3]) h4)));generalize upd H9 X (.tup [.str a8,.int 3])=H10 at s10 g4⊢;refine⟨show 4<=sizeLine by decide,λb hb=>⟨fl,b,g,_,rfl,rfl,aD.upd hb _ _ (s10 _ _ f6),.inl upd_same,ao (m:=20) (by rw[la];show 9<=20;decide) (by decide),?_⟩⟩;have Z:=s10.trans (aD.upd (o:=.lst [.ref t1,.ref Y,.ref t3,.ref X]) hb);have g5:=g4.same (aX.of (aD.upd (o:=.lst [.ref t1,.ref Y,.ref t3,.ref X]) hb));generalize upd H10 b (.lst [.ref t1,.ref Y,.ref t3,.ref X])=H11 at Z g5⊢;have l11:=L Z;have f11:=Z _ _ f6;have nlf:l≠fl:=λz=>by rw[z,nfl]at l3;cases l3
    have b12:=C3 (o:=.lst (g++[.ref t1,.ref Y,.ref t3,.ref X])) (b3.trans (s6.trans Z).but) nfH;have p11:aP H11 p:=by obtain⟨x,y,e⟩:=p3;exact⟨x,y,(s6.trans Z) _ _ e⟩
    have p12:=p11.but (o:=.lst (g++[.ref t1,.ref Y,.ref t3,.ref X])) nfp.symm;have l12:upd H11 fl (.lst (g++[.ref t1,.ref Y,.ref t3,.ref X])) l=some (.lst ([C,B,v,S,R,W,a6,a7,a8,a9,O,I].map V.str)):=by rw[aE nlf];exact l11
    have f12:upd H11 fl (.lst (g++[.ref t1,.ref Y,.ref t3,.ref X])) fl=some (.lst (g++[.ref t1,.ref Y,.ref t3,.ref X])):=upd_same;have r12:cX (upd H11 fl (.lst (g++[.ref t1,.ref Y,.ref t3,.ref X]))) [(C,0),(B,0),(v,0),(S,0),(R,0),(W,1),(a6,1),(a7,2),(a8,3)] (g++[.ref t1,.ref Y,.ref t3,.ref X]) :=
     cX.app (l:=[(C,0),(B,0),(v,0),(S,0),(R,0)]) (m:=[(W,1),(a6,1),(a7,2),(a8,3)]) (us:=[.ref t1,.ref Y,.ref t3,.ref X]) (r6.same ((aX.of Z).trans (aX.lst f11))) (cX.same (aX.lst f11) g5)
    generalize upd H11 fl (.lst (g++[.ref t1,.ref Y,.ref t3,.ref X]))=H12 at b12 p12 l12 f12 r12⊢;generalize g++[.ref t1,.ref Y,.ref t3,.ref X]=fv at f12 r12;clear Z g5 g4 g3 g2 g1 s10 s9 s8 s7 hb h4 h3 h2 h1 L r6 f6 s6 la nfl hfl r5 r5' s5 hJ J l4 s4 hsl l3 p3 b3 f11 l11 p11 g;refine⟨_,rfl,p,3,rfl,p12,by decide,by decide,λk x1 y1 k0 k1=>.inl ⟨_,rfl,1+k,rfl,by omega,by omega,?_⟩⟩;have b13:=b12.trans (cG.upd p H12 (.lst [.int x1,.int y1]));have p13:aP (upd H12 p (.lst [.int x1,.int y1])) p:=⟨_,_,upd_same⟩
    have l13:upd H12 p (.lst [.int x1,.int y1]) l=some (.lst ([C,B,v,S,R,W,a6,a7,a8,a9,O,I].map V.str)):=by rw[aE nlp];exact l12
    have f13:upd H12 p (.lst [.int x1,.int y1]) fl=some (.lst fv):=by rw[aE nfp];exact f12
    have r13:=r12.same (aX.pot (o:=.lst [.int x1,.int y1]) p12);generalize upd H12 p (.lst [.int x1,.int y1])=H13 at b13 p13 l13 f13 r13⊢;refine mP (SW p l fl _ fv [(C,0),(B,0),(v,0),(S,0),(R,0),(W,1),(a6,1),(a7,2),(a8,3)] [C,B,v] [a9,O,I] H) ⟨[],none,rfl,b13,p13,l13,f13,r13,rfl,rfl,by simp,by simp⟩ ?_ ?_
    ·rintro i g σ H14 hi ⟨sm,o6,rfl,b14,p14,l14,f14,r14,rs,e1,e2,e3⟩;have hi3:i<3:=by omega
     obtain⟨x9,xj,g9,gj,i9,ij⟩:∃x9 xj,[a9,O,I][i]?=some x9/\[C,B,v][i]?=some xj/\atI ([C,B,v,S,R,W,a6,a7,a8,a9,O,I].map V.str) (9+(0+(i:Int)))=some (.str x9)/\atI ([C,B,v,S,R,W,a6,a7,a8,a9,O,I].map V.str) (0+(i:Int))=some (.str xj):=by
      match i,hi3 with
      | 0,_=>exact⟨_,_,rfl,rfl,rfl,rfl⟩
      | 1,_=>exact⟨_,_,rfl,rfl,rfl,rfl⟩
      | 2,_=>exact⟨_,_,rfl,rfl,rfl,rfl⟩
     refine⟨_,rfl,_,rfl,.inl ⟨_,rfl,.str x9,by rw[ixV_l l14];exact i9,_,rfl,_,rfl,.str xj,by rw[ixV_l l14];exact ij,show 2<=sizeLine by decide,λr hr=>?_⟩⟩;have G:=aD.upd (o:=.lst [.str xj,.str ""]) hr;have q15:upd H14 r (.lst [.str xj,.str ""]) r=some (.lst [.str xj,.str ""]):=upd_same;have nrp:=(p14.ne hr).symm;have p15:=p14.but (o:=.lst [.str xj,.str ""]) (p14.ne hr);generalize upd H14 r (.lst [.str xj,.str ""])=H15 at G q15 p15⊢;refine⟨_,rfl,p,2,rfl,p15,by decide,by decide,λd x2 y2 d0 d1=>?_⟩;have p16:aP (upd H15 p (.lst [.int x2,.int y2])) p:=⟨_,_,upd_same⟩
     have b16:=(b14.trans G.but).trans (cG.upd p H15 (.lst [.int x2,.int y2]));have l16:upd H15 p (.lst [.int x2,.int y2]) l=_:=(aE nlp).trans (G _ _ l14);have f16:upd H15 p (.lst [.int x2,.int y2]) fl=_:=(aE nfp).trans (G _ _ f14);have q16:upd H15 p (.lst [.int x2,.int y2]) r=_:=(aE nrp).trans q15;have tt:=(aX.of G).trans (aX.pot (o:=.lst [.int x2,.int y2]) p15);generalize upd H15 p (.lst [.int x2,.int y2])=H16 at p16 b16 l16 f16 q16 tt⊢;have la:g.length<=20:=by have h1:=congrArg List.length e1;rw[ae,bv]at h1;have h2:=rs.len;simp only[List.length_nil,ap]at h1;omega
     have go:∀z:Str,(z=("" : Str)∨z=xj)->∀t,H16 t=none->∃(sm:bH),sm.map (·.1)=[a9,O,I].take (i+1)/\(∀r∈sm,r.2≠("" : Str)->r.2∈[C,B,v])/\((sm.map (·.2)).filter λ(x:Str)=>decide (x≠("" : Str))).Sublist ([C,B,v].take (i+1))/\fJ (upd H16 t (.tup [.str x9,.str z])) sm (g++[.ref t]):=λz hz t U=>by
      refine⟨sm++[(x9,z)],by rw[ax,e1,bD g9];rfl,λr hr ne=>?_,?_,((rs.same tt).same (aX.of (aD.upd U))).snoc upd_same⟩
      ·obtain m|m:=cx.mp hr
       ·exact e2 r m ne
       ·rw[cs.mp m]at ne⊢;rw[hz.resolve_left ne];exact bi gj
      ·rw[ax,List.filter_append,bD gj];refine List.Sublist.append e3 ?_;rcases hz with rfl|rfl
       ·simp
       ·exact List.filter_sublist
     have fin:∀z:Str,(z=("" : Str)∨z=xj)->∀t,H16 t=none->SW p l fl ([C,B,v,S,R,W,a6,a7,a8,a9,O,I].map V.str) fv [(C,0),(B,0),(v,0),(S,0),(R,0),(W,1),(a6,1),(a7,2),(a8,3)] [C,B,v] [a9,O,I] H (i+1) (g++[.ref t]) [some (.int (0+i)),some (.ref p),some (.ref l)] (upd H16 t (.tup [.str x9,.str z])):=λz hz t U=>by obtain⟨sm',h1,h2,h3,h4⟩:=go z hz t U;exact⟨sm',_,rfl,b16.trans (cG.new U),p16.but (p16.ne U),aD.upd U _ _ l16,aD.upd U _ _ f16,(r14.same tt).same (aX.of (aD.upd U)),h4,h1,h2,h3⟩
     have:d=0∨d=1:=by omega
     rcases this with rfl|rfl
     ·exact⟨.str xj,by rw[ixV_l q16];rfl,show 2<=sizeLine by decide,λt U=>⟨aj la (by decide),fin xj (.inr rfl) t U⟩⟩
     ·exact⟨.str "",by rw[ixV_l q16];rfl,show 2<=sizeLine by decide,λt U=>⟨aj la (by decide),fin _ (.inl rfl) t U⟩⟩
    ·rintro g σ H14 ⟨sm,o6,rfl,b14,p14,l14,f14,r14,rs,e1,e2,e3⟩ sl hsl;refine⟨_,rfl,_,rfl,show 2<=sizeLine by decide,λt U=>?_⟩;have G:=(aD.upd (o:=.lst g) hsl).trans (aD.upd (o:=.tup [.ref fl,.ref sl]) U);refine q t fl sl _ sm fv g _ (b14.trans G.but) (by obtain⟨x,y,e⟩:=p14;exact⟨x,y,G _ _ e⟩) upd_same (G _ _ f14) (aD.upd U _ _ upd_same) (r14.same (aX.of G)) (rs.same (aX.of G)) (zX w3 e1 e2 e3) nfp (p14.ne hsl).symm ⟨λj hj=>?_,⟨(W,1),by simp,rfl⟩,?_,⟨_,rfl⟩⟩
     ·match j,hj with
      | 0,_=>exact⟨_,rfl⟩
      | 1,_=>exact⟨_,rfl⟩
      | 2,_=>exact⟨_,rfl⟩
      | 3,_=>exact⟨_,rfl⟩
      | 4,_=>exact⟨_,rfl⟩
     ·have:=congrArg List.length e1;rw[ae,bv]at this;simp only[ap,List.length_nil]at this;omega
end
abbrev M:=Nat×Str×Nat
noncomputable def sL (x y:Str):Bool:=decide (x.cps.toList<y.cps.toList)
theorem LZ {x y:Str}(h:x.cps.toList=y.cps.toList):x=y:=by cases x;cases y;simp only[Str.mk.injEq];exact Array.toList_inj.mp h
theorem O4 (x:Str):sL x x=false:=bj (List.lt_irrefl _)
theorem L5 {x y:Str}(h:sL x y=true):sL y x=false:=bj λk=>absurd (List.lt_trans (bu h) k) (List.lt_irrefl _)
theorem IH {x y:Str}(n:x≠y):sL x y=true∨sL y x=true:=by
 by_cases h:x.cps.toList<y.cps.toList
 ·exact .inl (bh h)
 ·by_cases k:y.cps.toList<x.cps.toList
  ·exact .inr (bh k)
  ·exact absurd (LZ (List.le_antisymm (List.not_lt.mp k) (List.not_lt.mp h))) n
noncomputable def ltM (a b:M):Bool:=if a.1=b.1 then(if a.2.1=b.2.1 then decide (a.2.2<b.2.2)else sL a.2.1 b.2.1)else decide (a.1<b.1)
theorem tR {a b:M}(h:ltM a b=true):ltM b a=false:=by
 obtain⟨i,g,l⟩:=a;obtain⟨f,e,j⟩:=b;unfold ltM at h⊢;dsimp only at h⊢;by_cases d:i=f
 ·subst d;rw[ai rfl]at h⊢;by_cases c:g=e
  ·subst c;rw[ai rfl]at h⊢;exact bj (by have:=bu h;omega)
  ·rw[ab c]at h;rw[ab (Ne.symm c)];exact L5 h
 ·rw[ab d]at h;rw[ab (Ne.symm d)];exact bj (by have:=bu h;omega)
theorem qR {a b:M}(n:a≠b):ltM a b=true∨ltM b a=true:=by
 obtain⟨l,j,i⟩:=a;obtain⟨g,f,e⟩:=b;unfold ltM;dsimp only;by_cases d:l=g
 ·subst d;rw[ai rfl,ai rfl];by_cases c:j=f
  ·subst c;rw[ai rfl,ai rfl];have:i≠e:=λz=>n (by rw[z]);rcases Nat.lt_or_gt_of_ne this with h|h
   ·exact .inl (bh h)
   ·exact .inr (bh h)
  ·rw[ab c,ab (Ne.symm c)];exact IH c
 ·rw[ab d,ab (Ne.symm d)];rcases Nat.lt_or_gt_of_ne d with h|h
  ·exact .inl (bh h)
  ·exact .inr (bh h)
noncomputable def lexK:List M->List M->Bool
 | [],[]=>false
 | [],_::_=>true
 | _::_,[]=>false
 | a::s,b::t=>if a=b then lexK s t else ltM a b
theorem pJ:∀s:List M,lexK s s=false
 | []=>rfl
 | a::s=>by rw[lexK,ai rfl,pJ s]
theorem qS:∀{s t:List M},lexK s t=true->lexK t s=false
 | [],[],h=>by cases h
 | [],_::_,_=>rfl
 | _::_,[],h=>by cases h
 | a::s,b::t,h=>by
  rw[lexK]at h⊢;by_cases e:a=b
  ·rw[ai e]at h;rw[ai e.symm];exact qS h
  ·rw[ab e]at h;rw[ab (Ne.symm e)];exact tR h
theorem tV:∀{s t:List M},s≠t->lexK s t=true∨lexK t s=true
 | [],[],n=>absurd rfl n
 | [],_::_,_=>.inl rfl
 | _::_,[],_=>.inr rfl
 | a::s,b::t,n=>by
  rw[lexK,lexK];by_cases e:a=b
  ·rw[ai e,ai e.symm];exact tV λz=>n (by rw[e,z])
  ·rw[ab e,ab (Ne.symm e)];exact qR e
noncomputable def sortS (x:Str):Nat:=if x.cps.toList[0]?=some 63 then 0 else 1
mutual
noncomputable def key:D->List M
 | .str x=>[(sortS x,x,0)]
 | .tup (.str n::ds)=>(2,n,ds.length+1)::keys ds
 | _=>[]
noncomputable def keys:List D->List M
 | []=>[]
 | d::ds=>key d++keys ds
end
mutual
/-- texts and tuples whose first is a text -/
def Fl:D->Prop
 | .str x=>1<=x.cps.toList.length/\x.cps.toList.length<=20
 | .tup (.str _::ds)=>Fls ds
 | _=>False
def Fls:List D->Prop
 | []=>True
 | d::ds=>Fl d/\Fls ds
end
noncomputable def sortD:D->Nat
 | .str x=>sortS x
 | _=>2
mutual
/-- part by part -/
noncomputable def ah:D->D->Bool
 | .str x,.str y=>if sortS x=sortS y then sL x y else decide (sortS x<sortS y)
 | .tup (.str n::ds),.tup (.str m::es)=>if n=m then(if ds.length=es.length then ahs ds es else decide (ds.length<es.length))else sL n m
 | d,e=>decide (sortD d<sortD e)
noncomputable def ahs:List D->List D->Bool
 | d::ds,e::es=>if eqD d e=true then ahs ds es else ah d e
 | _,_=>false
end
theorem zD (x:Str):sortS x<2:=by unfold sortS;split <;> omega
mutual
theorem yG:∀(d e:D) (s t:List M),Fl d->Fl e->lexK (key d++s) (key e++t)=if eqD d e=true then lexK s t else ah d e
 | .str x,.str y,s,t,_,_=>by
  have a:eqD (.str x) (.str y)=(x == y):=rfl;show(if ((sortS x,x,0):M)=(sortS y,y,0)then lexK s t else ltM (sortS x,x,0) (sortS y,y,0))=_;rw[a];by_cases e:x=y
  ·subst e;rw[ai rfl,ai (by simp)]
  ·rw[ab (λz=>e (by simp at z;exact z.2)),ab (by simpa using e),ah];unfold ltM;dsimp only;by_cases h:sortS x=sortS y
   ·rw[ai h,ab e,ai h]
   ·rw[ab h,ab h]
 | .str x,.tup (.str m::es),s,t,_,_=>by
  have a:eqD (.str x) (.tup (.str m::es))=false:=rfl;have:=zD x;show(if ((sortS x,x,0):M)=(2,m,es.length+1)then _ else ltM (sortS x,x,0) (2,m,es.length+1))=_;rw[a,ab (λz=>by simp at z),ab (by decide),ah]
  ·unfold ltM;rw[ab (by dsimp only;omega)];rfl
  all_goals (intros;simp_all)
 | .tup (.str n::ds),.str y,s,t,_,_=>by
  have a:eqD (.tup (.str n::ds)) (.str y)=false:=rfl;have:=zD y;show(if ((2,n,ds.length+1):M)=(sortS y,y,0)then _ else ltM (2,n,ds.length+1) (sortS y,y,0))=_;rw[a,ab (λz=>by simp at z),ab (by decide),ah]
  ·unfold ltM;rw[ab (by dsimp only;omega)];rfl
  all_goals (intros;simp_all)
 | .tup (.str n::ds),.tup (.str m::es),s,t,f,c=>by
  have a:eqD (.tup (.str n::ds)) (.tup (.str m::es))=((n == m) && eqDs ds es):=rfl;show(if ((2,n,ds.length+1):M)=(2,m,es.length+1)then lexK (keys ds++s) (keys es++t)else ltM (2,n,ds.length+1) (2,m,es.length+1))=_;rw[a,ah];by_cases b:n=m
  ·subst b;by_cases hl:ds.length=es.length
   ·rw[ai (by rw[hl]),ai rfl,ai hl,AL ds es s t hl f c];simp
   ·rw[ab (λz=>hl (by simp at z;omega)),ai rfl,ab hl];have:eqDs ds es=false:=by
     cases h:eqDs ds es with
     | false=>rfl
     | true=>rw[hV]at h;simp at h;exact absurd h.2 hl
    rw[this,ab (by simp)];unfold ltM;dsimp only;rw[ai rfl,ai rfl];simp
  ·rw[ab (λz=>b (by simp at z;exact z.1)),ab (by simp[b]),ab b];unfold ltM;dsimp only;rw[ai rfl,ab b]
theorem AL:∀(ds es:List D) (s t:List M),ds.length=es.length->Fls ds->Fls es->lexK (keys ds++s) (keys es++t)=if eqDs ds es=true then lexK s t else ahs ds es
 | [],[],s,t,_,_,_=>by rw[eqDs,ai rfl];rfl
 | d::ds,e::es,s,t,hl,⟨f1,f2⟩,⟨b,a⟩=>by
  rw[keys,keys,cp,cp,yG d e _ _ f1 b,AL ds es s t (by simpa using hl) f2 a,eqDs,ahs];by_cases h:eqD d e=true
  ·rw[ai h,ai h,h,Bool.true_and]
  ·have h':eqD d e=false:=by simpa using h
   rw[ab h,ab h,h',Bool.false_and,ab (by decide)]
 | [],_::_,_,_,h,_,_=>by simp at h
 | _::_,[],_,_,h,_,_=>by simp at h
end
theorem tW {d e:D}(b:Fl d)(a:Fl e):lexK (key d) (key e)=(!eqD d e && ah d e):=by have:=yG d e [] [] b a;rw[bn,bn]at this;rw[this];cases h:eqD d e <;> simp[lexK]
theorem NM {d e:D}(f:Fl d)(c:Fl e)(h:key d=key e):eqD d e=true:=by
 have a:=tW f c;have b:=yG d e [] [(0,default,0)] f c;rw[bn,h]at b;cases q:eqD d e with
 | true=>rfl
 | false =>
  rw[q,ab (by decide)]at b;rw[q,h,pJ,←b]at a;have:∀(s:List M) (m:M),lexK s (s++[m])=true:=by
   intro s m
   induction s with
   | nil=>rfl
   | cons a s g=>rw[List.cons_append,lexK,ai rfl,g]
  rw[this]at a;cases a
section
variable {P:Program}{w:World}{K:PySem.W.Frag}{mg:jF}{base:Heap}
theorem J8 {H:Hp}{a:Addr}{xs:List V}(h:H a=some (.tup xs)):isV H (.ref a) (.ty "tuple")=some true:=by unfold isV tyN;simp only[h];rfl
theorem Reps.get {H:Hp}:∀{ds:List D} {vs:List V} {i:Nat} {v:V},Reps H ds vs->vs[i]?=some v->∃d,ds[i]?=some d/\aZ H d v
 | [],_,_,_,e,h=>by cases e;simp at h
 | d::_,_,0,_,⟨x,r,e,a,b⟩,h=>by subst e;simp at h;subst h;exact⟨d,rfl,a⟩
 | _::_,_,i+1,_,⟨x,r,e,a,b⟩,h=>by subst e;simp at h;obtain⟨d,f,c⟩:=Reps.get b h;exact⟨d,by simpa using f,c⟩
theorem Fls.get:∀{ds:List D} {i:Nat} {d:D},Fls ds->ds[i]?=some d->Fl d
 | [],_,_,_,z=>by simp at z
 | _::_,0,_,⟨a,_⟩,h=>by simp at h;subst h;exact a
 | _::_,i+1,_,⟨_,b⟩,h=>Fls.get b (by simpa using h)
theorem i5:∀{ds:List D} {i:Nat} {d:D},ds[i]?=some d->depD d<=depDs ds
 | [],_,_,h=>by simp at h
 | e::ds,0,_,h=>by simp at h;subst h;rw[depDs];omega
 | e::ds,i+1,_,h=>by have:=i5 (ds:=ds) (i:=i) (by simpa using h);rw[depDs];omega
theorem uF {α:Type}{l:List α}{i:Nat}{x:α}(h:l[i]?=some x):l.drop i=x::l.drop (i+1):=by have⟨hi,e⟩:=cr.mp h;rw[List.drop_eq_getElem_cons hi,e]
theorem kX {d:D}(h:Fl d):(∃x,d = .str x/\1<=x.cps.toList.length/\x.cps.toList.length<=20)∨∃n ds,d = .tup (.str n::ds)/\Fls ds:=by
 unfold Fl at h;split at h
 ·exact .inl ⟨_,rfl,h⟩
 ·exact .inr ⟨_,_,rfl,h⟩
 ·exact absurd h id
noncomputable def opn1 (n z:Str)(d:D):List D:=match d with
 | .tup (.str m::es)=>if m=n then es else [d]
 | d=>if eqD d (.str z)=true then []else [d]
noncomputable def opn (n z:Str)(ds:List D):List D:=ds.flatMap (opn1 n z)
theorem pI (n z:Str)(ds:List D)(d:D):opn n z (ds++[d])=opn n z ds++opn1 n z d:=by simp[opn]
theorem IsTms.get {c:cH}{sm:bH}{os:aS}:∀{ds:List D} {i:Nat} {d:D},IsTms c sm os ds->ds[i]?=some d->bB c sm os d
 | [],_,_,_,z=>by simp at z
 | _::_,0,_,⟨a,_⟩,h=>by simp at h;subst h;exact a
 | _::_,i+1,_,⟨_,b⟩,h=>IsTms.get b (by simpa using h)
theorem HU {a:cH}{sm:bH}{os:aS}{d:D}(h:bB a sm os d):(∃x,d = .str x/\(x∈os∨x∈zeros a))∨∃n ds,(d = .tup (.str n::ds)∨d = .lst (.str n::ds))/\nM a sm n ds.length/\IsTms a sm os ds:=by
 unfold bB at h;split at h
 ·exact .inl ⟨_,rfl,h⟩
 ·exact .inr ⟨_,_,.inl rfl,h⟩
 ·exact .inr ⟨_,_,.inr rfl,h⟩
 ·exact absurd h id
theorem kU {a:cH}{sm:bH}{n:Str}{k:Nat}(h:nM a sm n k):1<=k:=by rcases h with⟨h,_⟩|⟨h,_⟩ <;> omega
theorem gC {H:Hp}{a:Addr}{xs:List V}(h:H a=some (.tup xs)):isV H (.ref a) (.ty "str")=some false:=by unfold isV tyN;simp only[h];rfl
theorem tZ {H:Hp}{a:Addr}{xs:List V}(h:H a=some (.lst xs)):isV H (.ref a) (.ty "str")=some false:=by unfold isV tyN;simp only[h];rfl
theorem sP:∀{ds:List D} {i:Nat} {d:D},ds[i]?=some d->lvs d<=lvss ds
 | [],_,_,h=>by simp at h
 | e::ds,0,_,h=>by simp at h;subst h;rw[lvss];omega
 | e::ds,i+1,_,h=>by have:=sP (ds:=ds) (i:=i) (by simpa using h);rw[lvss];omega
mutual
theorem lQ {a:cH}{sm:bH}{os:aS}:∀{d:D},bB a sm os d->1<=lvs d
 | .str x,_=>by rw[lvs] <;> simp
 | .tup (.str n::ds),h=>by
  unfold bB at h;have:=d5 h.2;have:=kU h.1;rw[lvs];omega
 | .lst (.str n::ds),h=>by
  unfold bB at h;have:=d5 h.2;have:=kU h.1;rw[lvs];omega
 | .non,h=>by unfold bB at h;exact absurd h id
 | .bl _,h=>by unfold bB at h;exact absurd h id
 | .int _,h=>by unfold bB at h;exact absurd h id
 | .tup [],h=>by unfold bB at h;exact absurd h id
 | .lst [],h=>by unfold bB at h;exact absurd h id
 | .tup (.non::_),h=>by unfold bB at h;exact absurd h id
 | .tup (.bl _::_),h=>by unfold bB at h;exact absurd h id
 | .tup (.int _::_),h=>by unfold bB at h;exact absurd h id
 | .tup (.tup _::_),h=>by unfold bB at h;exact absurd h id
 | .tup (.lst _::_),h=>by unfold bB at h;exact absurd h id
 | .lst (.non::_),h=>by unfold bB at h;exact absurd h id
 | .lst (.bl _::_),h=>by unfold bB at h;exact absurd h id
 | .lst (.int _::_),h=>by unfold bB at h;exact absurd h id
 | .lst (.tup _::_),h=>by unfold bB at h;exact absurd h id
 | .lst (.lst _::_),h=>by unfold bB at h;exact absurd h id
theorem d5 {c:cH}{sm:bH}{os:aS}:∀{ds:List D},IsTms c sm os ds->ds.length<=lvss ds
 | [],_=>au _
 | d::ds,⟨a,b⟩=>by have f:=lQ a;have e:=d5 b;rw[lvss,ap];omega
end
end
mutual
theorem EV:∀{d e:D},Fl d->Fl e->eqD d e=true->d=e
 | .str x,.str y,_,_,h=>by
  have h:(x == y)=true:=h;rw[eq_of_beq h]
 | .tup (.str n::ds),.tup (.str m::es),b,a,h=>by
  have h:((n == m) && eqDs ds es)=true:=h;rw[Bool.and_eq_true]at h;unfold Fl at b a;rw[eq_of_beq h.1,KJ b a h.2]
 | .str _,.tup (.str _::_),_,_,h=>by cases (show false=true from h)
 | .tup (.str _::_),.str _,_,_,h=>by cases (show false=true from h)
theorem KJ:∀{ds es:List D},Fls ds->Fls es->eqDs ds es=true->ds=es
 | [],[],_,_,_=>rfl
 | d::ds,e::es,⟨a,b⟩,⟨f,c⟩,h=>by
  rw[eqDs,Bool.and_eq_true]at h;rw[EV a f h.1,KJ b c h.2]
 | [],_::_,_,_,h=>by cases (show false=true from h)
 | _::_,[],_,_,h=>by cases (show false=true from h)
end
theorem QI {d e:D}(b:Fl d)(a:Fl e)(h:key d=key e):d=e:=EV b a (NM b a h)
def leK (d e:D):Prop:=lexK (key e) (key d)=false
theorem J3 {d e:D}(f:Fl d)(c:Fl e)(b:leK d e)(a:leK e d):d=e:=by
 by_cases k:key d=key e
 ·exact QI f c k
 ·rcases tV k with h|h
  ·rw[a]at h;cases h
  ·rw[b]at h;cases h
theorem tU:∀{a b c:List M},lexK a b=false->lexK b c=false->lexK a c=false:=by
 have d:∀{a b c:M},ltM a b=true->ltM b c=true->ltM a c=true:=by
  rintro⟨v,j,C⟩ ⟨u,s,B⟩ ⟨r,i,A⟩ h k;unfold ltM at h k⊢;dsimp only at h k⊢;by_cases f:v=u
  ·subst f;rw[ai rfl]at h;by_cases e:v=r
   ·subst e;rw[ai rfl]at k⊢;by_cases f1:j=s
    ·subst f1;rw[ai rfl]at h;by_cases f2:j=i
     ·subst f2;rw[ai rfl]at k⊢;have:=bu h;have:=bu k;exact bh (p:=_) (by omega)
     ·rw[ab f2]at k⊢;exact k
    ·rw[ab f1]at h;by_cases f2:s=i
     ·subst f2;rw[ab f1];exact h
     ·rw[ab f2]at k;have t:sL j i=true:=bh (List.lt_trans (bu h) (bu k));by_cases o:j=i
      ·subst o;rw[O4]at t;cases t
      ·rw[ab o];exact t
   ·rw[ab e]at k⊢;exact k
  ·rw[ab f]at h;have h:=bu h;by_cases e:u=r
   ·subst e;rw[ab f];exact bh h
   ·rw[ab e]at k;have k:=bu k;rw[ab (by omega)];exact bh (p:=_) (by omega)
 intro a
 induction a with
 | nil =>
  intro b c h k;cases b with
  | nil=>exact k
  | cons y b=>cases h
 | cons x a w =>
  intro b c h k;cases c with
  | nil=>rfl
  | cons z c =>
   cases b with
   | nil=>cases k
   | cons y b =>
    rw[lexK]at h k⊢;by_cases f:x=y
    ·subst f;rw[ai rfl]at h;by_cases e:x=z
     ·rw[ai e]at k⊢;exact w h k
     ·rw[ab e]at k⊢;exact k
    ·rw[ab f]at h;have m:ltM y x=true:=(qR f).resolve_left (by rw[h];decide);by_cases e:y=z
     ·subst e;rw[ab f];exact h
     ·rw[ab e]at k;have l:ltM z y=true:=(qR e).resolve_left (by rw[k];decide);have g:=d l m;by_cases q:x=z
      ·subst q;have:=tR g;rw[g]at this;cases this
      ·rw[ab q];exact tR g
theorem GK {a b c:D}(h:leK a b)(k:leK b c):leK a c:=tU k h
theorem oA:∀{l m:List D},(∀d∈l,Fl d)->l.Perm m->l.Pairwise leK->m.Pairwise leK->l=m
 | [],m,_,p,_,_=>(List.nil_perm.mp p).symm
 | a::l,[],_,p,_,_=>absurd (List.perm_nil.mp p) (by simp)
 | a::l,b::m,f,p,s,t=>by
  have o:∀d∈b::m,Fl d:=λd hd=>f d (p.mem_iff.mpr hd);obtain⟨g,s2⟩:=List.pairwise_cons.mp s;obtain⟨t1,c⟩:=List.pairwise_cons.mp t;have e:a=b:=by
   have j:a∈b::m:=p.mem_iff.mp av;have i:b∈a::l:=p.mem_iff.mpr av;obtain h|h:=cu.mp j
   ·exact h
   ·obtain k|k:=cu.mp i
    ·exact k.symm
    ·exact J3 (f a av) (o b av) (g b k) (t1 a h)
  subst e;rw[oA (λd hd=>f d (ay _ hd)) (List.perm_cons a |>.mp p) s2 c]
noncomputable def insA (d:D):List D->List D
 | []=>[d]
 | e::l=>if ah d e=true then d::e::l else e::insA d l
theorem nE (d:D):∀l:List D,(insA d l).Perm (d::l)
 | []=>.refl _
 | e::l=>by
  unfold insA;by_cases h:ah d e=true
  ·rw[ai h]
  ·rw[ab h];exact((nE d l).cons e).trans (.swap d e l)
theorem QW {d e:D}(b:Fl d)(a:Fl e):ah d e=true->lexK (key d) (key e)=true∨d=e:=λh=>by
 rw[tW b a,h];cases q:eqD d e with
 | false=>exact .inl rfl
 | true=>exact .inr (EV b a q)
theorem rK {d:D}(b:Fl d):∀{l:List D},(∀e∈l,Fl e)->l.Pairwise leK->(insA d l).Pairwise leK
 | [],_,_=>List.pairwise_singleton _ _
 | e::l,f,s=>by
  obtain⟨c,s2⟩:=List.pairwise_cons.mp s;have g:=f e av;unfold insA;by_cases h:ah d e=true
  ·rw[ai h];have i:leK d e:=by
    rcases QW b g h with q|q
    ·exact qS q
    ·subst q;exact pJ _
   refine List.pairwise_cons.mpr ⟨λx a=>?_,s⟩;obtain k|k:=cu.mp a
   ·subst k;exact i
   ·exact GK i (c x k)
  ·rw[ab h];have m:leK e d:=by
    have:lexK (key d) (key e)=false:=by rw[tW b g];simp[h]
    exact this
   refine List.pairwise_cons.mpr ⟨λx a=>?_,rK b (λy j=>f y (ay _ j)) s2⟩;rcases cu.mp ((nE d l).mem_iff.mp a)with k|k
   ·subst k;exact m
   ·exact c x k
noncomputable def fQ (ds:List D):List D:=ds.foldl (λl d=>insA d l) []
noncomputable def zr (sm:bH)(n:Str):Option Str:=(sm.find? λr=>decide (r.1=n)).map (·.2)
noncomputable def one (n z:Str)(l:List D):D:=match l with
 | []=>.str z
 | [d]=>d
 | l=>.tup (.str n::l)
noncomputable def knot (sm:bH)(n:Str)(ps:List D):D:=match zr sm n with
 | none=>.tup (.str n::ps)
 | some z=>one n z (fQ (opn n z ps))
mutual
noncomputable def flt (sm:bH):D->D
 | .tup (.str n::ds)=>knot sm n (flts sm ds)
 | .lst (.str n::ds)=>knot sm n (flts sm ds)
 | d=>d
noncomputable def flts (sm:bH):List D->List D
 | []=>[]
 | d::ds=>flt sm d::flts sm ds
end
theorem cT (sm:bH):∀ds:List D,flts sm ds=ds.map (flt sm)
 | []=>rfl
 | d::ds=>by rw[flts,cT sm ds];rfl
theorem wE:∀(ds l:List D),(ds.foldl (λl d=>insA d l) l).Perm (ds++l)
 | [],l=>.refl _
 | d::ds,l=>(wE ds (insA d l)).trans (((nE d l).append_left ds).trans (List.perm_middle))
theorem bU (ds:List D):(fQ ds).Perm ds:=by have:=wE ds [];simpa [fQ] using this
mutual
noncomputable def sz:D->Nat
 | .tup (_::ds)=>max 1 (szs ds)
 | .lst (_::ds)=>max 1 (szs ds)
 | _=>1
noncomputable def szs:List D->Nat
 | []=>0
 | d::ds=>sz d+szs ds
end
theorem BT:∀d:D,1<=sz d:=by intro d;unfold sz;split <;> omega
theorem sE:∀ds:List D,ds.length<=szs ds
 | []=>ac _
 | d::ds=>by rw[szs,ap];have:=BT d;have:=sE ds;omega
theorem xE:∀ds es:List D,szs (ds++es)=szs ds+szs es
 | [],es=>by simp[szs]
 | d::ds,es=>by rw[List.cons_append,szs,xE ds es,szs];omega
theorem HY {l m:List D}(p:l.Perm m):szs l=szs m:=by
 induction p with
 | nil=>rfl
 | cons x _ c=>rw[szs,szs,c]
 | swap x y l=>rw[szs,szs,szs,szs];omega
 | trans _ _ a b=>exact a.trans b
theorem wL:∀ds es:List D,depDs (ds++es)=max (depDs ds) (depDs es)
 | [],es=>by simp[depDs]
 | d::ds,es=>by rw[List.cons_append,depDs,wL ds es,depDs,Nat.max_assoc]
theorem CU {l m:List D}(p:l.Perm m):depDs l=depDs m:=by
 induction p with
 | nil=>rfl
 | cons x _ c=>rw[depDs,depDs,c]
 | swap x y l=>rw[depDs,depDs,depDs,depDs,Nat.max_left_comm]
 | trans _ _ a b=>exact a.trans b
theorem MT (n z:Str)(d:D):szs (opn1 n z d)<=sz d:=by
 unfold opn1;split
 ·split
  ·rw[sz];omega
  ·rw[szs,szs];omega
 ·split
  ·rw[szs];omega
  ·rw[szs,szs];omega
theorem cE (n z:Str)(d:D)(ds:List D):opn n z (d::ds)=opn1 n z d++opn n z ds:=by simp[opn]
theorem B3 (n z:Str):∀ds:List D,szs (opn n z ds)<=szs ds
 | []=>ac _
 | d::ds=>by rw[cE,xE,szs];have:=MT n z d;have:=B3 n z ds;omega
theorem JL (n z:Str)(d:D):depDs (opn1 n z d)<=depD d:=by
 unfold opn1;split
 ·split
  ·rw[depD,depDs];omega
  ·rw[depDs,depDs];omega
 ·split
  ·rw[depDs];omega
  ·rw[depDs,depDs];omega
theorem D2 (n z:Str):∀ds:List D,depDs (opn n z ds)<=depDs ds
 | []=>ac _
 | d::ds=>by rw[cE,wL,depDs];have:=JL n z d;have:=D2 n z ds;omega
theorem PV (n z:Str)(l:List D):sz (one n z l)<=max 1 (szs l):=by
 unfold one;split
 ·show sz (.str z)<=_;unfold sz;omega
 ·rw[szs,szs];omega
 ·rw[sz];omega
theorem EG (sm:bH)(n:Str)(ps:List D):sz (knot sm n ps)<=max 1 (szs ps):=by
 unfold knot;split
 ·rw[sz];omega
 ·rename_i z _;have a:=PV n z (fQ (opn n z ps));rw[HY (bU _)]at a;have b:=B3 n z ps;omega
theorem M0 (n z:Str)(l:List D):depD (one n z l)<=depDs l+1:=by
 unfold one;split
 ·show(0:Nat)<=_;omega
 ·rw[depDs,depDs];omega
 ·rw[depD,depDs,show depD (.str n)=0 from rfl];omega
theorem AJ (sm:bH)(n:Str)(ps:List D):depD (knot sm n ps)<=depDs ps+1:=by
 unfold knot;split
 ·rw[depD,depDs,show depD (.str n)=0 from rfl];omega
 ·rename_i z _;have a:=M0 n z (fQ (opn n z ps));rw[CU (bU _)]at a;have b:=D2 n z ps;omega
mutual
theorem QO (sm:bH):∀d:D,sz (flt sm d)<=sz d
 | .tup (.str n::ds)=>by rw[flt,sz];have:=EG sm n (flts sm ds);have:=sS sm ds;omega
 | .lst (.str n::ds)=>by rw[flt,sz];have:=EG sm n (flts sm ds);have:=sS sm ds;omega
 | .non | .bl _ | .int _ | .str _ | .tup [] | .lst [] | .tup (.non::_) | .tup (.bl _::_) | .tup (.int _::_) | .tup (.tup _::_) | .tup (.lst _::_) | .lst (.non::_) | .lst (.bl _::_) | .lst (.int _::_) | .lst (.tup _::_) | .lst (.lst _::_)=>by unfold flt;exact ac _
theorem sS (sm:bH):∀ds:List D,szs (flts sm ds)<=szs ds
 | []=>ac _
 | d::ds=>by rw[flts,szs,szs];have:=QO sm d;have:=sS sm ds;omega
end
mutual
theorem ER (sm:bH):∀d:D,depD (flt sm d)<=depD d
 | .tup (.str n::ds)=>by rw[flt,depD,depDs,show depD (.str n)=0 from rfl];have:=AJ sm n (flts sm ds);have:=pO sm ds;omega
 | .lst (.str n::ds)=>by rw[flt,depD,depDs,show depD (.str n)=0 from rfl];have:=AJ sm n (flts sm ds);have:=pO sm ds;omega
 | .non | .bl _ | .int _ | .str _ | .tup [] | .lst [] | .tup (.non::_) | .tup (.bl _::_) | .tup (.int _::_) | .tup (.tup _::_) | .tup (.lst _::_) | .lst (.non::_) | .lst (.bl _::_) | .lst (.int _::_) | .lst (.tup _::_) | .lst (.lst _::_)=>by unfold flt;exact ac _
theorem pO (sm:bH):∀ds:List D,depDs (flts sm ds)<=depDs ds
 | []=>ac _
 | d::ds=>by rw[flts,depDs,depDs];have:=ER sm d;have:=pO sm ds;omega
end
theorem bM:∀{ds:List D},Fls ds->∀d∈ds,Fl d
 | _::_,⟨a,b⟩,d,h=>by
  obtain rfl|h:=cu.mp h
  ·exact a
  ·exact bM b d h
theorem eD:∀{ds:List D},(∀d∈ds,Fl d)->Fls ds
 | [],_=>trivial
 | d::ds,h=>⟨h d av,eD λe k=>h e (ay _ k)⟩
theorem MX {n z:Str}{d:D}(h:Fl d):Fls (opn1 n z d):=by
 unfold opn1;split
 ·rename_i m es;have k:Fls es:=by unfold Fl at h;exact h
  split
  ·exact k
  ·exact⟨h,trivial⟩
 ·split
  ·exact trivial
  ·exact⟨h,trivial⟩
theorem tM {n z:Str}{ds:List D}(h:Fls ds):Fls (opn n z ds):=eD λd k=>by obtain⟨e,b,a⟩:=List.mem_flatMap.mp k;exact bM (MX (bM h e b)) d a
mutual
def Nb:D->Prop
 | .tup (_::ds)=>ds≠[]/\Nbs ds
 | _=>True
def Nbs:List D->Prop
 | []=>True
 | d::ds=>Nb d/\Nbs ds
end
theorem sN:∀{ds:List D},Nbs ds->∀d∈ds,Nb d
 | _::_,⟨a,b⟩,d,h=>by
  obtain rfl|h:=cu.mp h
  ·exact a
  ·exact sN b d h
theorem CB:∀{ds:List D},(∀d∈ds,Nb d)->Nbs ds
 | [],_=>trivial
 | d::ds,h=>⟨h d av,CB λe k=>h e (ay _ k)⟩
theorem MW {n z:Str}{d:D}(h:Nb d):Nbs (opn1 n z d):=by
 unfold opn1;split
 ·rename_i m es;have k:Nbs es:=by unfold Nb at h;exact h.2
  split
  ·exact k
  ·exact⟨h,trivial⟩
 ·split
  ·exact trivial
  ·exact⟨h,trivial⟩
theorem PL {n z:Str}{ds:List D}(h:Nbs ds):Nbs (opn n z ds):=CB λd k=>by obtain⟨e,b,a⟩:=List.mem_flatMap.mp k;exact sN (MW (sN h e b)) d a
theorem PX {n z:Str}{l:List D}(h:∀d∈l,Nb d):Nb (one n z l):=by
 unfold one;split
 ·unfold Nb;exact trivial
 ·exact h _ av
 ·rename_i l a b;unfold Nb;exact⟨a,CB h⟩
theorem EI {sm:bH}{n:Str}{ps:List D}(h:Nbs ps)(ne:ps≠[]):Nb (knot sm n ps):=by
 unfold knot;split
 ·unfold Nb;exact⟨ne,h⟩
 ·exact PX λd k=>sN (PL h) d ((bU _).mem_iff.mp k)
theorem MV {n:Str}{d:D}(f:Fl d)(b:Nb d):opn1 n ("" : Str) d≠[]:=by
 unfold opn1;split
 ·split
  ·unfold Nb at b;exact b.1
  ·exact λz=>nomatch z
 ·split
  ·rename_i e;exfalso;cases d with
   | str x =>
    have e:(x == ("" : Str))=true:=e;have e:=eq_of_beq e;subst e;unfold Fl at f;exact absurd f.1 (by decide)
   | tup xs=>cases e
   | _=>unfold Fl at f;exact f
  ·exact λz=>nomatch z
theorem PJ {n:Str}:∀{ps:List D},Fls ps->Nbs ps->ps≠[]->opn n ("" : Str) ps≠[]
 | [],_,_,h=>absurd rfl h
 | d::ps,⟨f,_⟩,⟨b,_⟩,_=>by rw[cE];exact λz=>MV f b (List.append_eq_nil_iff.mp z).1
theorem yE {sm:bH}{n:Str}{ps:List D}(hz:∀r∈sm,r.2=("" : Str)∨Fl (.str r.2))(h:Fls ps)(b:Nbs ps)(ne:ps≠[]):Fl (knot sm n ps):=by
 unfold knot;split
 ·unfold Fl;exact h
 ·rename_i z e;have a:z=("" : Str)∨Fl (.str z):=by unfold zr at e;obtain⟨r,c,rfl⟩:=Option.map_eq_some_iff.mp e;exact hz r (List.mem_of_find?_eq_some c)
  have f1:∀d∈fQ (opn n z ps),Fl d:=λd k=>bM (tM h) d ((bU _).mem_iff.mp k);unfold one;split
  ·rename_i f;rcases a with rfl|a
   ·exfalso;have:=(bU (opn n ("" : Str) ps)).length_eq;rw[f]at this;exact PJ h b ne (List.length_eq_zero_iff.mp this.symm)
   ·exact a
  ·rename_i e;exact f1 _ (by rw[e];exact av)
  ·unfold Fl;exact eD f1
section
variable {P:Program}{w:World}{K:PySem.W.Frag}{mg:jF}{base:Heap}
mutual
/-- a term: leaves that can be told,names with parts -/
def Tm:D->Prop
 | .str x=>1<=x.cps.toList.length/\x.cps.toList.length<=20
 | .tup (.str _::ds)=>ds≠[]/\Tms ds
 | .lst (.str _::ds)=>ds≠[]/\Tms ds
 | _=>False
def Tms:List D->Prop
 | []=>True
 | d::ds=>Tm d/\Tms ds
end
theorem LX {d:D}(h:Tm d):(∃x,d = .str x/\1<=x.cps.toList.length/\x.cps.toList.length<=20)∨∃n ds,(d = .tup (.str n::ds)∨d = .lst (.str n::ds))/\ds≠[]/\Tms ds:=by
 unfold Tm at h;split at h
 ·exact .inl ⟨_,rfl,h⟩
 ·exact .inr ⟨_,_,.inl rfl,h⟩
 ·exact .inr ⟨_,_,.inr rfl,h⟩
 ·exact absurd h id
theorem sT {sm:bH}{ds:List D}(h:ds≠[]):flts sm ds≠[]:=by rw[cT];exact λz=>h (List.map_eq_nil_iff.mp z)
mutual
theorem qW {sm:bH}(hz:∀r∈sm,r.2=("" : Str)∨Fl (.str r.2)):∀{d:D},Tm d->Fl (flt sm d)/\Nb (flt sm d)
 | .tup (.str n::ds),h=>by
  unfold Tm at h;obtain⟨a,b⟩:=iI hz h.2;rw[flt];exact⟨yE hz a b (sT h.1),EI b (sT h.1)⟩
 | .lst (.str n::ds),h=>by
  unfold Tm at h;obtain⟨a,b⟩:=iI hz h.2;rw[flt];exact⟨yE hz a b (sT h.1),EI b (sT h.1)⟩
 | .str x,h=>by unfold flt;unfold Tm at h;unfold Fl Nb;exact⟨h,trivial⟩
 | .non,h | .bl _,h | .int _,h | .tup [],h | .lst [],h | .tup (.non::_),h | .tup (.bl _::_),h | .tup (.int _::_),h | .tup (.tup _::_),h | .tup (.lst _::_),h | .lst (.non::_),h | .lst (.bl _::_),h | .lst (.int _::_),h | .lst (.tup _::_),h | .lst (.lst _::_),h=>by unfold Tm at h;exact absurd h id
theorem iI {sm:bH}(hz:∀r∈sm,r.2=("" : Str)∨Fl (.str r.2)):∀{ds:List D},Tms ds->Fls (flts sm ds)/\Nbs (flts sm ds)
 | [],_=>by rw[flts];exact⟨trivial,trivial⟩
 | d::ds,⟨a,b⟩=>by rw[flts];exact⟨⟨(qW hz a).1,(iI hz b).1⟩,⟨(qW hz a).2,(iI hz b).2⟩⟩
end
theorem yN {sm:bH}(hz:∀r∈sm,r.2=("" : Str)∨Fl (.str r.2)){ds:List D}(h:Tms ds):Fls (flts sm ds):=(iI hz h).1
theorem vK {a:cH}{sm:bH}(so:bF a sm){x:Str}(h:x∈zeros a):1<=x.cps.toList.length/\x.cps.toList.length<=20:=by unfold zeros at h;obtain⟨r,b,rfl⟩:=cy.mp h;have:=so.nm r.1 (cj _ (List.mem_map_of_mem ((db.mp b).1)));exact⟨this.1,ao this.2.1 (by decide)⟩
theorem eW {b:cH}{sm:bH}(so:bF b sm):∀r∈sm,r.2=("" : Str)∨Fl (.str r.2):=λr a=>by
 by_cases e:r.2=("" : Str)
 ·exact .inl e
 ·refine .inr ?_;unfold Fl;exact vK so (so.nought r a e)
mutual
theorem nN {f:cH}{sm:bH}{os:aS}(so:bF f sm)(ho:∀x∈os,c4 x):∀{d:D},bB f sm os d->Tm d/\sz d=lvs d
 | .str x,h=>by
  unfold bB at h;refine⟨?_,by unfold sz lvs;rfl⟩;unfold Tm;rcases h with h|h
  ·obtain⟨l,rfl,c,e,_⟩:=ho x h;exact⟨by simp,by simp;omega⟩
  ·exact vK so h
 | .tup (.str n::ds),h=>by
  unfold bB at h;obtain⟨a,b⟩:=n9 so ho h.2;have c:=kU h.1;have e:=d5 h.2;refine⟨?_,by rw[sz,lvs,b];omega⟩;unfold Tm;exact⟨λz=>by rw[z]at c;simp at c,a⟩
 | .lst (.str n::ds),h=>by
  unfold bB at h;obtain⟨a,b⟩:=n9 so ho h.2;have c:=kU h.1;have e:=d5 h.2;refine⟨?_,by rw[sz,lvs,b];omega⟩;unfold Tm;exact⟨λz=>by rw[z]at c;simp at c,a⟩
 | .non,h | .bl _,h | .int _,h | .tup [],h | .lst [],h | .tup (.non::_),h | .tup (.bl _::_),h | .tup (.int _::_),h | .tup (.tup _::_),h | .tup (.lst _::_),h | .lst (.non::_),h | .lst (.bl _::_),h | .lst (.int _::_),h | .lst (.tup _::_),h | .lst (.lst _::_),h=>by unfold bB at h;exact absurd h id
theorem n9 {c:cH}{sm:bH}{os:aS}(so:bF c sm)(ho:∀x∈os,c4 x):∀{ds:List D},IsTms c sm os ds->Tms ds/\szs ds=lvss ds
 | [],_=>⟨trivial,rfl⟩
 | d::ds,⟨a,b⟩=>by obtain⟨h,g⟩:=nN so ho a;obtain⟨f,e⟩:=n9 so ho b;exact⟨⟨h,f⟩,by rw[szs,lvss,g,e]⟩
end
theorem gT (x:V)(xs:List V):cutV (x::xs) (some 1) none=xs:=by unfold cutV HT.sIx;simp
theorem fJ.prs {H:Hp}:∀{sm:bH} {sv:List V},fJ H sm sv->sv.map (prV H)=(sm.map λr=>((.inr r.1,V.str r.2):fR×V)).map (λa=>some (kV a.1,a.2))
 | [],_,e=>by cases e;rfl
 | r::l,_,⟨t,us,e,h,q⟩=>by subst e;rw[bd,fJ.prs q];unfold prV;simp only[h];rfl
theorem oG:∀(more a:List (fR×V)),((a++more).map (·.1)).Nodup->jS a more=a++more
 | [],a,_=>by simp[jS]
 | p::r,a,h=>by
  have e:putK a p.1 p.2=a++[p]:=by unfold putK;rw[ab];intro z;obtain⟨y,c,b⟩:=List.any_eq_true.mp z;rw[ax,bd]at h;exact(List.nodup_append.mp h).2.2 y.1 (List.mem_map_of_mem c) p.1 av (by simpa using b)
  show jS (putK a p.1 p.2) r=_;rw[e,oG r (a++[p]) (by simpa using h)];simp
theorem AB {sm:bH}(nd:(sm.map (·.1)).Nodup):jS [] (sm.map λr=>((.inr r.1,V.str r.2):fR×V))=sm.map λr=>(.inr r.1,V.str r.2):=by
 rw[oG]
 ·rfl
 ·rw[List.nil_append,List.map_map];exact List.pairwise_map.mpr ((List.pairwise_map.mp nd).imp λh e=>h (Sum.inr.inj e))
theorem w8 (n:Str):∀sm:bH,valV (sm.map λr=>((.inr r.1,V.str r.2):fR×V)) (.inr n)=(zr sm n).map V.str
 | []=>rfl
 | r::l=>by
  by_cases e:r.1=n
  ·rw[bd,oS (by rw[e])];simp[zr,e]
  ·rw[bd,oT (λz=>e (by cases z;rfl)),w8 n l];simp[zr,e]
mutual
theorem aZ.tups {H H':Hp}(s:aX H H'):∀{d:D} {v:V},Fl d->aZ H d v->aZ H' d v
 | .str x,v,_,h=>h
 | .tup (.str n::ds),v,f,⟨a,vs,e,g,x,r,i,b,c⟩=>⟨a,vs,e,s _ _ g,x,r,i,b,Reps.tups s (by unfold Fl at f;exact f) c⟩
 | .non,_,f,_ | .bl _,_,f,_ | .int _,_,f,_ | .lst _,_,f,_ | .tup [],_,f,_ | .tup (.non::_),_,f,_ | .tup (.bl _::_),_,f,_ | .tup (.int _::_),_,f,_ | .tup (.tup _::_),_,f,_ | .tup (.lst _::_),_,f,_=>by unfold Fl at f;exact absurd f id
theorem Reps.tups {H H':Hp}(s:aX H H'):∀{ds:List D} {vs:List V},Fls ds->Reps H ds vs->Reps H' ds vs
 | [],_,_,h=>h
 | _::_,_,⟨a,b⟩,⟨x,r,e,d,c⟩=>⟨x,r,e,aZ.tups s a d,Reps.tups s b c⟩
end
theorem HX (i:Nat)(l:List D):szs (l.take i)<=szs l:=by have:=xE (l.take i) (l.drop i);rw[List.take_append_drop]at this;omega
theorem JO {n z:Str}:∀{l:List D},1<l.length->one n z l = .tup (.str n::l)
 | [],h=>by simp at h
 | [_],h=>by simp at h
 | _::_::_,_=>rfl
theorem Reps.rev {H:Hp}:∀{ds:List D} {vs:List V},Reps H ds vs->Reps H ds.reverse vs.reverse
 | [],_,e=>by cases e;rfl
 | d::ds,_,⟨x,r,e,a,b⟩=>by subst e;rw[List.reverse_cons,List.reverse_cons];exact Reps.snoc a (Reps.rev b)
noncomputable def mulO (a:cH)(n:Str):Option Int:=(a.find? λr=>decide (r.1=n)).map (·.2)
noncomputable def mulV (a:cH)(n:Str):V:=((mulO a n).map V.int).getD .non
noncomputable def nulV (sm:bH)(n:Str):V:=((zr sm n).map V.str).getD .non
theorem HK (n:Str):∀a:cH,valV (a.map λr=>((.inr r.1,V.int r.2):fR×V)) (.inr n)=(mulO a n).map V.int
 | []=>rfl
 | r::l=>by
  by_cases e:r.1=n
  ·rw[bd,oS (by rw[e])];simp[mulO,e]
  ·rw[bd,oT (λz=>e (by cases z;rfl)),HK n l];simp[mulO,e]
structure iK (K:PySem.W.Frag)(C:Addr)(fx:cH)(sm:bH)(H:Hp)(g:Addr):Prop where
 cls:HA K C
 n1:iA K C "many_by_name"
 n2:iA K C "nought_by_name"
 ex:∃dx fs dm dn,H g=some (.ins C dx fs)/\fs.lookup ("many" : Str)=none/\fs.lookup ("nought" : Str)=none/\fs.lookup ("many_by_name" : Str)=some (.ref dm)/\fs.lookup ("nought_by_name" : Str)=some (.ref dn) /\
  H dm=some (.dK (fx.map λr=>(.inr r.1,.int r.2)))/\H dn=some (.dK (sm.map λr=>(.inr r.1,.str r.2)))
theorem iK.same {C:Addr}{d:cH}{sm:bH}{H H':Hp}{g:Addr}(h:iK K C d sm H g)(s:aD H H'):iK K C d sm H' g:=by obtain⟨a,b,c,p,fs,q,dn,o,m,l,j,i,f,e⟩:=h;exact⟨a,b,c,p,fs,q,dn,s _ _ o,m,l,j,i,s _ _ f,s _ _ e⟩
def BU (K:PySem.W.Frag)(C:Addr):Sp:=λvs H Q _=>∃(g:Addr) (n:Str) (fx:cH) (sm:bH),vs=[.ref g,.str n]/\iK K C fx sm H g/\Q (mulV fx n) H
theorem NB {f C:Addr}{m:FuncData}(F:gG K "many" "Signs.many" eA f m)(T:Txt mg):bY P w K mg base bN 1 f m lD (BU K C):=by
 refine F.ok vC (λvs H Q E h=>?_) (λB A outer s H vs Q E l h=>?_)
 ·obtain⟨g,n,u,sm,rfl,_⟩:=h;rfl
 ·obtain⟨g,n,u,sm,rfl,⟨i,e,G,x,fs,z,dn,d,t,r,c,p,a,o⟩,q⟩:=h;have j:=l.units;refine⟨_,(aH (aN (mC (aV K rfl (aL aK rfl T.n_isinstance rfl (aA (pv 1) (aA (bR (v:=V.ty "str") rfl T.n_str rfl rfl) aB))) (λ_=>rfl)) (zR (aj (bS (by decide) _) j) (IZ (pv 0) rfl) (pv 1) ⟨rfl,rfl,rfl,rfl⟩) iZ))),?_⟩;simp only[lF];clear l F T j;have b:=lL.k (k:=.inr n) a;rw[HK]at b;have keep:=aI q (aI i (aI e (aI d (aI c (aI a b)))));clear q i e G d t r c p a o b
  walk_at "rd"
  obtain⟨q,i,e,d,c,a,b⟩:=keep;refine⟨true,rfl,?_⟩;rw[ai rfl];exact⟨_,rfl,g,C,x,fs,_,rfl,d,i,e,c,z,rfl,.inl ⟨_,.inl a⟩,_,rfl,_,b,q⟩
def jY (K:PySem.W.Frag)(C:Addr):Sp:=λvs H Q _=>∃(g:Addr) (n:Str) (fx:cH) (sm:bH),vs=[.ref g,.str n]/\iK K C fx sm H g/\Q (nulV sm n) H
theorem F5 {f C:Addr}{m:FuncData}(F:gG K "nought" "Signs.nought" cY f m)(T:Txt mg):bY P w K mg base bN 1 f m jB (jY K C):=by
 refine F.ok rY (λvs H Q E h=>?_) (λz A outer s H vs Q E l h=>?_)
 ·obtain⟨g,n,u,sm,rfl,_⟩:=h;rfl
 ·obtain⟨g,n,u,sm,rfl,⟨i,B,e,x,fs,G,dn,d,t,r,p,c,o,a⟩,q⟩:=h;have j:=l.units;refine⟨_,(aH (aN (mC (aV K rfl (aL aK rfl T.n_isinstance rfl (aA (pv 1) (aA (bR (v:=V.ty "str") rfl T.n_str rfl rfl) aB))) (λ_=>rfl)) (zR (aj (bS (by decide) _) j) (IZ (pv 0) rfl) (pv 1) ⟨rfl,rfl,rfl,rfl⟩) iZ))),?_⟩;simp only[jE];clear l F T j;have b:=lL.k (k:=.inr n) a;rw[w8]at b;have keep:=aI q (aI i (aI e (aI d (aI c (aI a b)))));clear q i B e d t r p c o a b
  walk_at "rd"
  obtain⟨q,i,e,d,c,a,b⟩:=keep;refine⟨true,rfl,?_⟩;rw[ai rfl];exact⟨_,rfl,g,C,x,fs,_,rfl,d,i,e,c,dn,rfl,.inl ⟨_,.inl a⟩,_,rfl,_,b,q⟩
theorem RK {c:Nat}(h:isWd c):inTx "abcdefghijklmnopqrstuvwxyz0123456789" c=true:=by
 have a:∀j:Fin 26,inTx "abcdefghijklmnopqrstuvwxyz0123456789" (97+j.1)=true:=by decide +kernel
 have b:∀j:Fin 10,inTx "abcdefghijklmnopqrstuvwxyz0123456789" (48+j.1)=true:=by decide +kernel
 unfold isWd at h;rcases h with h|h
 ·have:=a ⟨c - 97,by omega⟩;rw[show 97+(c - 97)=c by omega]at this;exact this
 ·have:=b ⟨c - 48,by omega⟩;rw[show 48+(c - 48)=c by omega]at this;exact this
theorem AG {H:Hp}{z:Str}(h:z.length<=sizeLine):lenV H (.str z)=some z.length:=ai h
theorem yH {H:Hp}{z:Str}{i:Int}(h:z.length<=sizeLine):ixV H (.str z) (.int i)=(atI z.cps.toList i).map λc=>.str ⟨#[c]⟩:=ai h
def IA:Sp:=λvs H Q _=>∃x:Str,vs=[.str x]/\(c4 x∨jU x)/\∀H',aD H H'->(c4 x->Q (.bl true) H')/\(jU x->Q (.bl false) H')
theorem M3 {f:Addr}{L:FuncData}(F:gG K "is_wish" "is_wish" j5 f L)(T:Txt mg):bY P w K mg base bN 1 f L wY IA:=by
 refine F.ok BY (λvs H Q E h=>?_) (λY A outer s H vs Q E I h=>?_)
 ·obtain⟨x,rfl,_⟩:=h;rfl
 ·obtain⟨x,rfl,d,q⟩:=h;have G:=I.units
  refine⟨_,(aC (bL (PW.pt (lY (eK (aV K rfl (aL aK rfl T.n_isinstance rfl (aA (pv 0) (aA (bR (v:=V.ty "str") rfl T.n_str rfl rfl) aB))) (λ_=>rfl))) (iW (eK (j7 mF mF aF (aL bK rfl T.n_len rfl (aA (pv 0) aB)) (fH T.c_LONGEST_WISH rfl)))))) (aH (aN vV)) aR)
   (aH (aN (JB (jN (dQ G) (bC bW (pv 0) aF (λ_ _=>rfl)) cJ (nomark _)) (xU (aL (qZ rfl) rfl T.n_all rfl (aA (e8 rfl (bJ.by (N:=q9) (names:=(aJ j5).names) (N':=["sign"]) (src:=[none]) (by decide +kernel) rfl rfl) (IW (dX O1 (pv 0) (cM aF) c5)) (λ_ _ _ _=>(bA (i:=0) (show List.Nodup (["sign"]:aS)by decide +kernel) rfl (Or.inl rfl))) (λ_ _ _ _=>cV) (λ_ _ _ _=>(jN qO (pv 0) (fH T.c_WISH_SIGNS rfl) (by with_unfolding_all rfl)))) aB))))))),?_⟩
  simp only[q9];clear I F T G;have keep:=aI q d;clear q d
  walk_at "rd"
  obtain⟨q,d⟩:=keep;have hl:x.length<=20:=by
   rcases d with⟨l,rfl,_,t,_⟩|h
   ·show(63::l).toArray.size<=20;rw[ag,ap];omega
   ·have:=h.2.1;rw[br]at this;exact ao this (by decide)
  have hz:x.length<=sizeLine:=ao hl (by decide);refine⟨true,rfl,?_⟩;rw[ab (by decide)];refine⟨.int x.length,by rw[AG hz];rfl,_,rfl,?_⟩;rcases d with C|j
  ·obtain⟨l,rfl,Z,t,J⟩:=id C;have z:(Str.mk (63::l).toArray).length=l.length+1:=by show(63::l).toArray.size=_;rw[ag,ap]
   have g:=λH' u=>(q H' u).1 C;have R:ixV H (.str ⟨(63::l).toArray⟩) (.int 0)=some (.str ⟨#[63]⟩):=by rw[yH hz];show(atI (63::l).toArray.toList 0).map _=_;rw[List.toList_toArray,atI_zero];rfl
   rw[ai (by rw[z];omega)];refine⟨_,rfl,?_⟩;rw[ab (by rw[z];omega)];refine⟨_,R,?_⟩;rw[rEqD_ss]

   refine⟨_,rfl,?_⟩;have B:decide ((⟨#[63]⟩:Str)=Str.ofString "?")=true:=by decide +kernel
   rw[ai B];have O:tl1 ⟨(63::l).toArray⟩=⟨l.toArray⟩:=by unfold tl1;simp
   refine⟨_,rfl,1,rfl,⟨(63::l).toArray⟩,rfl,rfl,rfl,by rw[z];omega,hz,tl1 ⟨(63::l).toArray⟩,rfl,?_,?_⟩
   ·rw[O];simp only[List.all_toArray,List.all_eq_true,decide_eq_true_eq];intro c a;have:=J c a;unfold isWd at this;omega
   ·rw[O];refine wO (λi b σ H'=>H'=H/\b=(List.replicate i true).map V.bl/\i<=8/\∃o:Option V,σ=[o]) ⟨rfl,rfl,by decide,none,rfl⟩ ?_ ?_
    ·rintro i c b σ H' a ⟨rfl,rfl,U,o,rfl⟩;have hc':l[i]?=some c:=by simpa using a
     have hm:c∈l:=bi hc';have hi':i<l.length:=(cr.mp hc').1;refine⟨_,rfl,_,rfl,_,rfl,?_⟩;have e:=RK (J c hm);unfold inTx at e;dsimp only;refine⟨aj (m:=100) (by simp;omega) (by decide),rfl,?_,by omega,_,rfl⟩;rw[e,List.replicate_succ',ax];rfl
    ·rintro b σ H' ⟨rfl,rfl,U,o,rfl⟩ p S;refine⟨p,rfl,List.replicate _ true,upd_same,?_⟩;have:(List.replicate (Str.mk l.toArray).cps.size true).all id=true:=by simp
     rw[this];exact g _ (aD.upd S)
  ·have g:=λH' u=>(q H' u).2 j;by_cases t:(2:Int)<=x.length
   ·rw[ai t];refine⟨_,rfl,?_⟩;have:=j.2.1;rw[br]at this;have e9:(x.length:Int)<=9:=by show(x.cps.size:Int)<=9;omega
    rw[ab (by omega)];cases a:x.cps.toList with
    | nil=>have:=j.1;rw[a]at this;simp at this
    | cons c r =>
     have W:=j.2.2 c (by rw[a];exact av);refine⟨.str ⟨#[c]⟩,by rw[yH hz,a,atI_zero];rfl,?_⟩;rw[rEqD_ss];refine⟨_,rfl,?_⟩;rw[ab]
     ·exact g _ (aD.refl _)
     ·intro w;have:=bu w;have e:(⟨#[c]⟩:Str).cps=(Str.ofString "?").cps:=by rw[this]
      have X:(Str.ofString "?").cps = #[63]:=by decide +kernel
      rw[X]at e;have:c=63:=by simpa using e
      omega
   ·rw[ab t];exact g _ (aD.refl _)
theorem zY {a:cH}{sm:bH}(so:bF a sm){n:Str}{k:Int}(h:(n,k)∈a):mulO a n=some k:=by
 have nd:=(List.nodup_append.mp so.nd).1;unfold mulO;clear so
 induction a with
 | nil=>cases h
 | cons r l b =>
  rw[bd,da]at nd;obtain rfl|h:=cu.mp h
  ·simp
  ·have ne:r.1≠n:=λe=>nd.1 (by rw[e];exact List.mem_map_of_mem (f:=(·.1)) h);rw[List.find?_cons,bj ne];exact b h nd.2
theorem LR {sm:bH}{n:Str}(h:n∉sm.map (·.1)):zr sm n=none:=by
 unfold zr;rw[List.find?_eq_none.mpr]
 ·rfl
 ·intro r a e;exact h (cy.mpr ⟨r,a,bu e⟩)
theorem LQ {sm:bH}{n:Str}(h:n∈sm.map (·.1)):∃z,zr sm n=some z:=by
 obtain⟨r,a,e⟩:=cy.mp h;cases q:sm.find? (λr=>decide (r.1=n))with
 | none=>exact absurd (bh e) (List.find?_eq_none.mp q r a)
 | some z=>exact⟨z.2,by unfold zr;rw[q];rfl⟩
def DO (K:PySem.W.Frag)(C:Addr):Sp:=λvs H Q _=>∃(g:Addr) (fx:cH) (sm:bH) (os:aS) (d:D) (v:V),vs=[.ref g,v]/\iK K C fx sm H g/\bF fx sm/\(∀x∈os,c4 x)/\aZ H d v/\bB fx sm os d/\lvs d<=100/\∀H',aD H H'->Q (.bl true) H'
theorem JV {f C:Addr}{fd:FuncData}(F:gG K "is_built" "is_built" kK f fd)(T:Txt mg)(b:dP P w K mg base bN 1 "is_wish" IA)(i:BF P w K mg base bN 1 C "many" (BU K C))(c:BF P w K mg base bN 1 C "nought" (jY K C)):bY P w K mg base bN 2 f fd uQ (DO K C):=by
 refine F.ok zG (λvs H Q E h=>?_) (λcdv A outer s H vs Q E o h=>?_)
 ·obtain⟨g,u,sm,os,d,v,rfl,_⟩:=h;rfl
 ·obtain⟨g,u,sm,os,d,v,rfl,sg,so,ho,rep,tm,m,q⟩:=h;have W:=o.units
  refine⟨_,(aC (bL (aV K rfl (aL aK rfl T.n_isinstance rfl (aA (pv 1) (aA (bR (v:=V.ty "str") rfl T.n_str rfl rfl) aB))) (λ_=>rfl)) (aH (aN (RO (aM b (o.mono (by decide)) pass0 rfl (aA (pv 1) aB)) (xU (jN (dQ W) (oB i (o.mono (by decide)) pass0 (pv 0) (aA (pv 1) aB)) aF (nomark _)))))) aR)
   (aC (bL (PW.pt (lY (eK (aV K rfl (aL aK rfl T.n_isinstance rfl (aA (pv 1) (aA (bE (aA (bR (v:=V.ty "list") rfl T.n_list rfl rfl) (aA (bR (v:=V.ty "tuple") rfl T.n_tuple rfl rfl) aB))) aB))) (λ_=>rfl))) (iW (aQ (kQ W) (aL bK rfl T.n_len rfl (aA (pv 1) aB)) aF (nomark _))))) (aH (aN vV)) aR)
   (aC (bL (aQ sJ (oB c (o.mono (by decide)) pass0 (pv 0) (aA (bC bW (pv 1) aF (λ_ _=>rfl)) aB)) iZ (nomark _)) (aH (aN (jN OD (aL bK rfl T.n_len rfl (aA (pv 1) aB)) aF (nomark _)))) aR)
   (aH (aN (jN (dQ W) (oB i (o.mono (by decide)) pass0 (pv 0) (aA (bC bW (pv 1) aF (λ_ _=>rfl)) aB)) (bG fC (aL bK rfl T.n_len rfl (aA (pv 1) aB)) aF) (nomark _))))))),?_⟩
  simp only[oO];clear o F T W b i c;have keep:=aI q (aI sg (aI so (aI ho (aI rep (aI tm m)))));clear q sg so ho rep tm m
  walk_at "rd"
  obtain⟨q,sg,so,ho,rep,tm,m⟩:=keep;obtain⟨dx,fs,_,_,S,Y,h3,_⟩:=sg.ex;rcases HU tm with⟨x,rfl,J⟩|⟨n,ds,hd,hh,tms⟩
  ·cases (show v = .str x from rep);refine⟨true,rfl,?_⟩;rw[ai rfl];rcases J with J|J
   ·have U:=ho x J;refine⟨x,rfl,.inl U,λH' L=>⟨λ_=>⟨true,rfl,?_⟩,λX=>?_⟩⟩
    ·rw[ai rfl];exact q _ L
    ·obtain⟨l,rfl,_⟩:=U;have:=X.2.2 63 (by simp);omega
   ·obtain⟨r,o,e⟩:∃r∈u,r.1=x/\r.2=0:=by unfold zeros at J;obtain⟨r,S,rfl⟩:=cy.mp J;obtain⟨Y,h3⟩:=db.mp S;exact⟨r,Y,rfl,by simpa using h3⟩
    have X:jU x:=so.nm x (cj _ (cy.mpr ⟨r,o,e.1⟩));have hm:mulO u x=some 0:=zY so (by rw[←e.1,←e.2];exact o);refine⟨x,rfl,.inr X,λH' L=>⟨λU=>?_,λ_=>⟨false,rfl,?_⟩⟩⟩
    ·obtain⟨l,rfl,_⟩:=U;have:=X.2.2 63 (by simp);omega
    ·rw[ab (by decide)];refine⟨_,rfl,g,dx,fs,rfl,L _ _ S,Y,_,rfl,g,x,u,sm,rfl,sg.same L,?_⟩;show rEqD (mulV u x) _ _ _;unfold mulV;rw[hm];show rEqD (.int 0) _ _ _;rw[rEqD_ii];exact q _ L
  ·obtain⟨I,j,rfl,hbb,hseq,res⟩:∃I j,v = .ref I/\isV H (.ref I) (.ty "str")=some false/\i8 H I (.str n::j)/\Reps H ds j:=by
    rcases hd with rfl|rfl
    ·obtain⟨a,vs,rfl,R,_,j,rfl,e1,r⟩:=rep;cases e1;exact⟨a,j,rfl,gC R,.inr R,r⟩
    ·obtain⟨a,vs,rfl,R,_,j,rfl,e1,r⟩:=rep;cases e1;exact⟨a,j,rfl,tZ R,.inl R,r⟩
   have hlen:=Reps.len res;refine⟨false,hbb,?_⟩;rw[ab (by decide)];refine⟨by decide,λp hp=>?_⟩;have t:aD H (upd H p (.tup [.ty "list",.ty "tuple"])):=aD.upd hp;have G:upd H p (.tup [.ty "list",.ty "tuple"]) p=some (.tup [.ty "list",.ty "tuple"]):=upd_same;generalize upd H p (.tup [.ty "list",.ty "tuple"])=H1 at t G⊢;have B:=hseq.same t;have N:ixV H1 (.ref I) (.int 0)=some (.str n):=by
    rcases B with e|e
    ·rw[ixV_l e,atI_zero]
    ·rw[ixV_t e,atI_zero]
   have ln:lenV H1 (.ref I)=some (j.length+1):=by
    rcases B with e|e
    ·rw[lenV_l e];rfl
    ·rw[lenV_t e];rfl
   refine⟨true,by rcases B with e|e;exact KA e G;exact J9 e G,?_⟩;rw[ab (by decide)];have O:=kU hh;refine⟨_,by rw[ln];rfl,_,rfl,?_⟩;rw[ab (by omega)];refine⟨_,rfl,g,dx,fs,rfl,t _ _ S,h3,_,rfl,.str n,N,g,n,u,sm,rfl,sg.same t,?_⟩;rcases hh with⟨k0,O⟩|⟨k2,O⟩
   ·have Z:n∉sm.map (·.1):=λz=>(List.nodup_append.mp so.nd).2.2 n (List.mem_map_of_mem (f:=(·.1)) O) n z rfl;have e0:nulV sm n = .non:=by unfold nulV;rw[LR Z];rfl
    have em:mulV u n = .int (ds.length:Int):=by unfold mulV;rw[zY so O];rfl
    rw[e0];refine⟨false,rfl,?_⟩;rw[ab (by decide)];refine⟨_,rfl,g,dx,fs,rfl,t _ _ S,Y,_,rfl,.str n,N,g,n,u,sm,rfl,sg.same t,?_⟩;refine⟨_,by rw[ln];rfl,_,rfl,?_⟩;rw[em,rEqD_ii,bh (by omega)];exact q _ t
   ·obtain⟨z,hz⟩:=LQ O;have e0:nulV sm n = .str z:=by unfold nulV;rw[hz];rfl
    rw[e0];refine⟨true,rfl,?_⟩;rw[ai rfl];refine⟨_,by rw[ln];rfl,_,rfl,?_⟩;rw[bh (p:=_) (by omega)];exact q _ t
mutual
noncomputable def nds:D->Nat
 | .tup (_::ds)=>1+ndss ds
 | .lst (_::ds)=>1+ndss ds
 | _=>1
noncomputable def ndss:List D->Nat
 | []=>0
 | d::ds=>nds d+ndss ds
end
theorem sK (d:D):1<=nds d:=by unfold nds;split <;> omega
theorem hU:∀ds:List D,ds.length<=ndss ds
 | []=>ac _
 | d::ds=>by rw[ndss,ap];have:=sK d;have:=hU ds;omega
theorem dY:∀ds es:List D,ndss (ds++es)=ndss ds+ndss es
 | [],es=>by simp[ndss]
 | d::ds,es=>by rw[List.cons_append,ndss,dY ds es,ndss];omega
theorem mI:∀ds:List D,ndss ds.reverse=ndss ds
 | []=>rfl
 | d::ds=>by rw[List.reverse_cons,dY,mI ds,ndss,ndss,ndss];omega
theorem n6 {c:TT}{d:TS}{D:hZ}{σ:St}{H:Hp}(Pv:Nat->St->Hp->Prop)(n:Nat)(f:Pv n σ H)
  (e:∀n σ H,Pv n σ H->∀R:Bool->Hp->Prop,(∀H',d {D with nx:=λb a=>∃m,m<n/\Pv m b a,ct:=λb a=>∃m,m<n/\Pv m b a,bk:=D.nx} σ H'->R true H')->(∀H',D.nx σ H'->R false H')->c σ H R):BS c d D σ H:=by
 refine⟨Pv,⟨n,f⟩,?_⟩;intro m σ H p;refine e m σ H p _ (λH' h=>?_) (λH' h=>?_)
 ·rw[ai rfl];exact⟨_,λb a z=>z,h⟩
 ·rw[ab (by decide)];exact h
theorem yQ {H:Hp}{p:Addr}{o:HO}:del (upd H p o) p=del H p:=by
 funext b;unfold del upd;by_cases e:b=p
 ·rw[ai e,ai e]
 ·rw[ab e,ab e,ab e]
theorem E2 {H:Hp}{t p:Addr}{o:HO}(h:H p=none):aD (del H t) (del (upd H p o) t):=λb u e=>by obtain⟨a,c⟩:=gR e;exact mO (by rw[aE (aG a h)];exact a) c
theorem nF {H H':Hp}{t:Addr}(s:aD H H'):aD (del H t) (del H' t):=λb u e=>by obtain⟨c,a⟩:=gR e;exact mO (s _ _ c) a
theorem dZ {H:Hp}{d:D}:∀{ds:List D} {vs:List V},Reps H (ds++[d]) vs->∃us v,vs=us++[v]/\Reps H ds us/\aZ H d v
 | [],vs,⟨v,r,e,h,h'⟩=>by
  cases (show r=[]from h');exact⟨[],v,e,rfl,h⟩
 | c::ds,vs,⟨v,r,e,h,h'⟩=>by obtain⟨us,u,f,b,a⟩:=dZ (ds:=ds) h';exact⟨v::us,u,by rw[e,f];rfl,⟨v,us,rfl,h,b⟩,a⟩
noncomputable def tp (r:D×Nat):D:=.tup [r.1,.int r.2]
def UP (g t:Addr)(v:V)(b:cH)(sm:bH)(os:aS)(H:Hp)(n:Nat)(σ:St)(a:Hp):Prop:=∃(ps:List (D×Nat)) (vs:List V) (o3 o4:Option V),σ=[some (.ref g),some v,some (.ref t),o3,o4]/\a t=some (.lst vs)/\aD H (del a t) /\
 Reps (del a t) (ps.map tp) vs/\(∀r∈ps,bB b sm os r.1/\lvs r.1<=100/\r.2+depD r.1<=100)/\ndss (ps.map (·.1))=n/\n<=1000
def UQ (t:Addr)(ds:List D)(k:Nat)(e:Hp)(i:Nat)(a:List V)(σ:St)(b:Hp):Prop:=∃c:Option V,σ=[c,some (.int k)]/\aD e b/\Reps (del b t) ((ds.reverse.take i).map λd=>tp (d,k+1)) a
theorem QQ {H:Hp}{t:Addr}(h:H t=none){a:Hp}(s:aD H a):aD H (del a t):=λb u e=>mO (s _ _ e) (aG e h)
theorem E1 {H a:Hp}{t:Addr}(s:aD H (del a t)):aD H a:=λb u e=>(gR (s _ _ e)).1
def DN (K:PySem.W.Frag)(C:Addr):Sp:=λvs H Q _=>∃(g:Addr) (fx:cH) (sm:bH) (os:aS) (d:D) (v:V),vs=[.ref g,v]/\iK K C fx sm H g/\bF fx sm/\(∀x∈os,c4 x)/\aZ H d v/\bB fx sm os d/\lvs d<=100/\depD d<=100/\nds d<=1000/\∀H',aD H H'->Q .non H'
theorem JU {f C:Addr}{fd:FuncData}(F:gG K "check_term" "check_term" fY f fd)(T:Txt mg)(j:dP P w K mg base bN 2 "is_built" (DO K C)):bY P w K mg base bN 3 f fd pT (DN K C):=by
 refine F.ok gK (λvs H Q E h=>?_) (λcdv A outer s H vs Q E hr h=>?_)
 ·obtain⟨g,fx,sm,os,d,v,rfl,_⟩:=h;rfl
 ·obtain⟨g,fx,sm,os,d,v,rfl,sg,so,ho,rep,tm,l100,d100,n1000,q⟩:=h;have hu:=hr.units
  refine⟨_,(aC (aU (i:=2) gK.nd rfl (Or.inl rfl) (bQ (aA (bE (aA (pv 1) (aA aF aB))) aB)))
   (aH (iX di (aV K rfl (pv 2) (λ_=>rfl)) (aC (gB (qL df PySem.F.slot_list_pop PySem.F.type_list_pop oF (pv 2)) (tK rfl (eV (bA (i:=3) gK.nd rfl (Or.inl rfl)) (eV (bA (i:=4) gK.nd rfl (Or.inr rfl)) pH))))
   (aC (bL (PW.pt (lY (aQ tO (pv 4) (fH T.c_DEEPEST rfl) (nomark _)) (iW (eK (aV K rfl (aM j (hr.mono (by decide)) pass0 rfl (aA (pv 0) (aA (pv 3) aB))) (λ_=>rfl)))))) (aH gA) aR)
   (aH (bL (eK (aV K rfl (aL aK rfl T.n_isinstance rfl (aA (pv 3) (aA (bR (v:=V.ty "str") rfl T.n_str rfl rfl) aB))) (λ_=>rfl))) (aH (bZ (fI df PySem.F.slot_list_extend PySem.F.type_list_extend iH (pv 2) (aA (e8 rfl (bJ.by (N:=lE) (names:=(aJ fY).names) (N':=["part","depth"]) (src:=[none,some 4]) (by decide +kernel) rfl rfl) (cQ K rfl (mZ DQ (pv 3) c5 (cM aF) (cM (rF lO aF)))) (λ_ _ _ _=>(bA (i:=0) (show List.Nodup (["part","depth"]:aS)by decide +kernel) rfl (Or.inl rfl))) (λ_ _ _ _=>cV) (λ_ _ _ _=>(bE (aA (pv 0) (aA (bG bT (pv 1) aF) aB))))) aB)))) aR))))))),?_⟩
  clear hr F T hu j;simp only[dF];refine⟨_,rfl,show 2<=sizeLine by decide,λp hp=>⟨show 1<=sizeLine by decide,λt ht=>?_⟩⟩;have s1:aD H (upd H p (.tup [v,.int 0])):=aD.upd hp;have L:upd H p (.tup [v,.int 0]) p=some (.tup [v,.int 0]):=upd_same;generalize upd H p (.tup [v,.int 0])=H1 at s1 L ht⊢;have ht0:H t=none:=s1.free ht;have e1:del (upd H1 t (.lst [.ref p])) t=del H1 t:=yQ;have sd:aD H (del H1 t):=QQ ht0 s1;change BS _ _ _ _ (upd H1 t (.lst [.ref p]));refine n6 (UP g t v fx sm os H) (nds d) ⟨[(d,0)],[.ref p],none,none,rfl,upd_same,by rw[e1];exact sd,?_,?_,by simp[ndss],n1000⟩ ?_
  ·rw[e1];exact⟨.ref p,[],rfl,⟨p,_,rfl,mO L (aG L ht),v,_,rfl,aZ.same sd rep,.int 0,[],rfl,rfl,rfl⟩,rfl⟩
  ·intro r hr;rw[cs.mp hr];exact⟨tm,l100,by simpa using d100⟩
  ·rintro n σ H2 ⟨ps,vs,o3,o4,rfl,h2,sH,c,ok,rfl,S⟩ R hT hF;rcases List.eq_nil_or_concat ps with rfl|⟨W,r,rfl⟩
   ·have:vs=[]:=c;subst this;exact⟨_,rfl,false,.inl ⟨[],dN.of h2,rfl⟩,hF H2 (q _ (E1 sH))⟩
   ·rw[List.concat_eq_append]at c ok S hT;rw[ax,bd,List.map_nil]at c S hT;obtain⟨us,u,rfl,reps',ru⟩:=dZ c;obtain⟨a,_,rfl,ha,x,_,rfl,rx,_,_,rfl,e2,e3⟩:=ru;cases e2;cases (show _=[]from e3);obtain⟨tmr,lr,dr⟩:=ok r (by simp);have hat:H2 a=some (.tup [x,.int r.2])/\a≠t:=gR ha;refine⟨_,rfl,true,.inl ⟨_,dN.of h2,by simp⟩,hT H2 ⟨_,rfl,tyL h2,t,_,.ref a,rfl,rfl,h2,by simp,a,[x,.int r.2],rfl,gF.of (by rw[aE hat.2];exact hat.1),rfl,x,_,rfl,_,_,rfl,rfl,_,rfl,_,_,rfl,rfl,_,rfl,bX (λz=>absurd (bu z) (by omega)) λ_=>?_⟩⟩;clear hT hF;rw[List.dropLast_concat];have c:=reps';have e3:del (upd H2 t (.lst us)) t=del H2 t:=yQ;have h3:upd H2 t (.lst us) t=some (.lst us):=upd_same;rw[←e3]at sH c rx;generalize upd H2 t (.lst us)=H3 at e3 h3 sH c rx⊢;have nl:us.length<=1000:=by have:=Reps.len c;rw[ae]at this;have h1:=hU (W.map (·.1));rw[ae]at h1;rw[dY]at S;omega
    refine⟨_,rfl,_,rfl,g,fx,sm,os,r.1,x,rfl,sg.same (E1 sH),so,ho,aZ.same (K1 _ _) rx,tmr,lr,λY s4=>⟨true,rfl,?_⟩⟩;have h4:=s4 _ _ h3;have sd4:=nF (t:=t) s4;have sH4:=sH.trans sd4;have U:=Reps.same sd4 c;have O:=aZ.same sd4 rx;have rest:∀Z∈W,bB fx sm os Z.1/\lvs Z.1<=100/\Z.2+depD Z.1<=100:=λZ hr'=>ok Z (cj _ hr');rw[dY]at S⊢;rcases HU tmr with⟨y,ey,hy⟩|⟨n,ds,hd,hh,tms⟩
    ·rw[ey]at O;cases (show x = .str y from O);refine⟨_,rfl,.str y,.ty "str",true,rfl,rfl,true,rfl,?_⟩;exact⟨_,by rw[ndss,ndss];have:=sK r.1;omega,W,us,_,_,rfl,h4,sH4,U,rest,rfl,by omega⟩
    ·obtain⟨va,I,rfl,hbb,hseq,res⟩:∃va I,x = .ref va/\isV Y (.ref va) (.ty "str")=some false/\i8 Y va (.str n::I)/\Reps (del Y t) ds I:=by
      rcases hd with e|e
      ·rw[e]at O;obtain⟨a,vs,rfl,ha,_,I,rfl,e1,r⟩:=O;cases e1;exact⟨a,I,rfl,gC (gR ha).1,.inr (gR ha).1,r⟩
      ·rw[e]at O;obtain⟨a,vs,rfl,ha,_,I,rfl,e1,r⟩:=O;cases e1;exact⟨a,I,rfl,tZ (gR ha).1,.inl (gR ha).1,r⟩
     have hnd:nds r.1=1+ndss ds:=by rcases hd with e|e <;> rw[e,nds]
     have hdp:depD r.1=depDs ds+1:=by
      rcases hd with e|e
      ·rw[e,depD,depDs,show depD (.str n)=0 from rfl];omega
      ·rw[e,depD,depDs,show depD (.str n)=0 from rfl];omega
     have hlv:lvs r.1=lvss ds:=by rcases hd with e|e <;> rw[e,lvs]
     refine⟨_,rfl,.ref va,.ty "str",false,rfl,hbb,false,rfl,?_⟩;refine⟨_,rfl,tyL h4,_,rfl,0,rfl,1,rfl,-1,rfl,rfl,rfl,rfl,va,_,rfl,hseq,by simp,λb o hb ho=>?_⟩;rw[vT]at ho;refine⟨b,I.reverse,rfl,by rcases ho with⟨rfl,_⟩|⟨rfl,_⟩;exact .inl upd_same;exact .inr upd_same,λJ hJ=>?_⟩;have s5:aD Y (upd Y b o):=aD.upd hb;have hb5:upd Y b o b=some o:=upd_same;have nbt:b≠t:=(aG h4 hb).symm;generalize upd Y b o=H5 at s5 hb5 hJ⊢;refine cU hJ (UQ t ds r.2 H5) ⟨none,rfl,aD.refl _,rfl⟩ ?_ ?_ ?_
     ·rintro i G σ H' _ ⟨_,_,X,_⟩;rw[hb5,X _ _ hb5]
     ·rintro i y G σ H6 hy ⟨o0,rfl,X,B⟩;obtain⟨e,he,re⟩:=Reps.get (Reps.rev res) hy;have la:=Reps.len B;have h1:=hU ds;refine⟨_,rfl,_,rfl,.inl ⟨_,rfl,(by decide:2<=sizeLine),λp1 L=>⟨aj (m:=1000) ?_ (by decide),_,rfl,X.trans (aD.upd L),?_⟩⟩⟩
      ·rw[ae,bv,List.length_reverse]at la;rw[ndss,ndss]at S;omega
      ·have np:p1≠t:=(aG (X _ _ (s5 _ _ h4)) L).symm;have sm5:aD (del Y t) (del (upd H6 p1 (.tup [y,.int (r.2+1)])) t):=nF ((s5.trans X).trans (aD.upd L));rw[bD he,ax];have rp:aZ (del (upd H6 p1 (.tup [y,.int (r.2+1)])) t) (tp (e,r.2+1)) (.ref p1):=⟨p1,_,rfl,mO upd_same np,y,_,rfl,aZ.same sm5 re,_,[],rfl,rfl,rfl⟩
       exact Reps.snoc rp (Reps.same (E2 L) B)
     ·rintro G σ H6 ⟨o0,rfl,X,B⟩ l hl;have la:=Reps.len B;have lr':=Reps.len res;have h1:=hU ds;have h6:upd H6 l (.lst G) t=some (.lst us):=by rw[aE (aG (X _ _ (s5 _ _ h4)) hl)];exact X _ _ (s5 _ _ h4)
      rw[List.length_reverse,lr',←List.length_reverse (as:=ds),bw]at B;rw[ae,bv,List.length_reverse]at la;rw[ndss,ndss]at S;have s7:aD Y (upd H6 l (.lst G)):=(s5.trans X).trans (aD.upd hl);have e7:del (upd (upd H6 l (.lst G)) t (.lst (us++G))) t=del (upd H6 l (.lst G)) t:=yQ;refine⟨t,l,us,G,rfl,rfl,h6,.inl upd_same,ao (m:=2000) (by omega) (by decide),ndss (W.map (·.1))+ndss ds,by rw[ndss,ndss];omega,W++ds.reverse.map (λd=>(d,r.2+1)),us++G,_,_,rfl,upd_same,?_,?_,?_,?_,by omega⟩
      ·rw[e7];exact sH4.trans (nF s7)
      ·rw[e7,ax,List.map_map];exact Reps.append (Reps.same (nF s7) U) (Reps.same (E2 hl) B)
      ·intro Z hr';rcases cx.mp hr' with h|h
       ·exact rest Z h
       ·obtain⟨e,he,rfl⟩:=cy.mp h;have he:=List.mem_reverse.mp he;obtain⟨i,hi⟩:=List.getElem?_of_mem he;have h2:=sP hi;have h3:=i5 hi;exact⟨tms.get hi,by show lvs e<=100;omega,by show r.2+1+depD e<=100;omega⟩
      ·rw[ax,List.map_map,dY];congr 1;rw[show((λx:D×Nat=>x.1) ∘ λd=>(d,r.2+1))=id from rfl,List.map_id,mI]
mutual
def Wk:D->Prop
 | .str _=>True
 | .tup (.str _::ds)=>Wks ds
 | .lst (.str _::ds)=>Wks ds
 | _=>False
def Wks:List D->Prop
 | []=>True
 | d::ds=>Wk d/\Wks ds
end
mutual
noncomputable def wlk:D->List D
 | .tup (.str n::ds)=>.tup (.str n::ds)::wlks ds
 | .lst (.str n::ds)=>.lst (.str n::ds)::wlks ds
 | d=>[d]
noncomputable def wlks:List D->List D
 | []=>[]
 | d::ds=>wlk d++wlks ds
end
theorem vL:∀ds:List D,wlks ds=ds.flatMap wlk
 | []=>rfl
 | d::ds=>by rw[wlks,vL ds];rfl
theorem HJ {d:D}(h:Wk d):(∃x,d = .str x)∨∃n ds,(d = .tup (.str n::ds)∨d = .lst (.str n::ds))/\Wks ds:=by
 unfold Wk at h;split at h
 ·exact .inl ⟨_,rfl⟩
 ·exact .inr ⟨_,_,.inl rfl,h⟩
 ·exact .inr ⟨_,_,.inr rfl,h⟩
 ·exact absurd h id
mutual
theorem AT:∀{d:D},Fl d->Wk d
 | .str x,h=>trivial
 | .tup (.str n::ds),h=>by unfold Wk;unfold Fl at h;exact EU h
 | .non,h | .bl _,h | .int _,h | .lst _,h | .tup [],h | .tup (.non::_),h | .tup (.bl _::_),h | .tup (.int _::_),h | .tup (.tup _::_),h | .tup (.lst _::_),h=>by unfold Fl at h;exact absurd h id
theorem EU:∀{ds:List D},Fls ds->Wks ds
 | [],_=>trivial
 | _::_,⟨a,b⟩=>⟨AT a,EU b⟩
end
theorem Wks.app:∀{ds es:List D},Wks ds->Wks es->Wks (ds++es)
 | [],_,_,h=>h
 | _::_,_,⟨a,b⟩,h=>⟨a,Wks.app b h⟩
theorem Wks.rev:∀{ds:List D},Wks ds->Wks ds.reverse
 | [],h=>h
 | d::ds,⟨a,b⟩=>by rw[List.reverse_cons];exact Wks.app (Wks.rev b) ⟨a,trivial⟩
theorem Wks.unsnoc:∀{ds:List D} {d:D},Wks (ds++[d])->Wks ds/\Wk d
 | [],_,h=>⟨trivial,h.1⟩
 | _::_,_,⟨a,b⟩=>⟨⟨a,(Wks.unsnoc b).1⟩,(Wks.unsnoc b).2⟩
mutual
theorem oR:∀d:D,(wlk d).length<=nds d
 | .tup (.str n::ds)=>by rw[wlk,nds,ap];have:=sW ds;omega
 | .lst (.str n::ds)=>by rw[wlk,nds,ap];have:=sW ds;omega
 | .non | .bl _ | .int _ | .str _ | .tup [] | .lst [] | .tup (.non::_) | .tup (.bl _::_) | .tup (.int _::_) | .tup (.tup _::_) | .tup (.lst _::_) | .lst (.non::_) | .lst (.bl _::_) | .lst (.int _::_) | .lst (.tup _::_) | .lst (.lst _::_)=>by unfold wlk;rw[cm];exact sK _
theorem sW:∀ds:List D,(wlks ds).length<=ndss ds
 | []=>ac _
 | d::ds=>by rw[wlks,ndss,aq];have:=oR d;have:=sW ds;omega
end
def tD:Sp:=λvs H Q _=>∃(d:D) (v:V) (G:Hp),vs=[v]/\aD G H/\aZ G d v/\Wk d/\nds d<=1000/\∀(l:Addr) (ws:List V) (H':Hp),aD H H'->H l=none->H' l=some (.lst ws)->Reps G (wlk d) ws->Q (.ref l) H'
def S9 (v:V)(c t:Addr)(d:D)(H G:Hp)(n:Nat)(σ:St)(b:Hp):Prop:=∃(fs a:List D) (ws us:List V) (o:Option V),σ=[some v,some (.ref c),some (.ref t),o]/\b c=some (.lst ws)/\b t=some (.lst us)/\aD H b/\Reps G fs ws/\Reps G a us/\Wks a /\
 fs++a.reverse.flatMap wlk=wlk d/\ndss a=n/\n<=1000
theorem KP {a:TS}{E:hZ}{σ:St}{H:Hp}(h:∀D:hZ,(∀σ H,E.nx σ H->D.nx σ H)->a D σ H):a E σ H:=h E λ_ _ z=>z
theorem F2 {f:Addr}{fd:FuncData}(F:gG K "walked" "walked" pD f fd)(T:Txt mg):bY P w K mg base bN 1 f fd BC tD:=by
 refine F.ok mW (λvs H Q E h=>?_) (λcdv A outer s H vs Q E hr h=>?_)
 ·obtain⟨d,v,G,rfl,_⟩:=h;rfl
 ·obtain⟨d,v,G,rfl,sG,rep,wk,O,q⟩:=h;have hu:=hr.units
  refine⟨_,(aC (aU (i:=1) mW.nd rfl (Or.inl rfl) (bQ aB))
   (aC (aU (i:=2) mW.nd rfl (Or.inl rfl) (bQ (aA (pv 0) aB)))
   (aC (iX di (aV K rfl (pv 2) (λ_=>rfl)) (aC (aU (i:=3) mW.nd rfl (Or.inl rfl) (qL df PySem.F.slot_list_pop PySem.F.type_list_pop oF (pv 2)))
   (aC (bZ (fI df dh dg eI (pv 1) (aA (pv 3) aB)))
   (aH (bL (eK (aV K rfl (aL aK rfl T.n_isinstance rfl (aA (pv 3) (aA (bR (v:=V.ty "str") rfl T.n_str rfl rfl) aB))) (λ_=>rfl))) (aH (bZ (fI df PySem.F.slot_list_extend PySem.F.type_list_extend iH (pv 2) (aA (mZ DQ (pv 3) c5 (cM aF) (cM (rF lO aF))) aB)))) aR)))))
   (aH (aN (pv 1)))))),?_⟩
  clear hr F T hu;dsimp only[cxOf,Cx.nox];refine⟨show 0<=sizeLine by decide,λp J=>⟨_,rfl,show 1<=sizeLine by decide,λt ht=>?_⟩⟩;change tSeq _ _ _ _ (upd (upd H p (.lst [])) t (.lst [v]));have I:p≠t:=aG upd_same ht;have X:H t=none:=(aD.upd J).free ht;refine n6 (S9 v p t d H G) (nds d) ⟨[],[d],[],[v],none,rfl,by rw[aE I];exact upd_same,upd_same,(aD.upd J).trans (aD.upd ht),rfl,⟨v,[],rfl,rep,rfl⟩,⟨wk,trivial⟩,by simp,by simp[ndss],O⟩ ?_;rintro n σ S ⟨fs,ts,B,us,o,rfl,h1,h2,sH,rf,rt,U,e,rfl,W⟩ R hT hF;rcases List.eq_nil_or_concat ts with rfl|⟨j,r,rfl⟩
  ·cases (show us=[]from rt);refine⟨_,rfl,false,.inl ⟨[],dN.of h2,rfl⟩,hF S ⟨_,rfl,?_⟩⟩;have e:fs=wlk d:=by simpa using e
   rw[e]at rf;exact q p B S sH J h1 rf
  ·rw[List.concat_eq_append]at rt U e W hT;obtain⟨c,u,rfl,rt',ru⟩:=dZ rt;obtain⟨wt',wr⟩:=U.unsnoc;refine⟨_,rfl,true,.inl ⟨_,dN.of h2,by simp⟩,hT S ?_⟩;refine KP λD' Y=>?_;refine⟨_,rfl,tyL h2,t,_,u,rfl,rfl,h2,by simp,?_⟩;clear rt U hT hF;have rt:=rt';have U:=wt';rw[List.dropLast_concat];rw[List.reverse_append,List.reverse_cons,List.reverse_nil,List.nil_append,List.singleton_append,List.flatMap_cons]at e;have h3:upd S t (.lst c) t=some (.lst c):=upd_same;have f3:upd S t (.lst c) p=some (.lst B):=by rw[aE I];exact h1
   have s3:aD H (upd S t (.lst c)):=λb o l=>by rw[aE (aG l X)];exact sH _ _ l
   generalize upd S t (.lst c)=H3 at h3 f3 s3⊢;have h4:upd H3 p (.lst (B++[u])) t=some (.lst c):=by rw[aE I.symm];exact h3
   have f4:upd H3 p (.lst (B++[u])) p=some (.lst (B++[u])):=upd_same;have s4:aD H (upd H3 p (.lst (B++[u]))):=λb o l=>by rw[aE (aG l J)];exact s3 _ _ l
   have lf:=Reps.len rf;have lw:=congrArg List.length e;rw[aq]at lw;have lt':=Reps.len rt;have hn:=hU j;have hnr:nds r+ndss j<=1000:=by rw[dY,ndss,ndss]at W;omega
   have L:Reps G (fs++[r]) (B++[u]):=Reps.snoc ru rf;refine⟨_,rfl,tyL f3,_,rfl,p,B,u,rfl,rfl,f3,aj (m:=1000) (by have:=oR d;omega) (by decide),?_⟩;generalize upd H3 p (.lst (B++[u]))=H4 at h4 f4 s4⊢;have C:=sG.trans s4;rcases HJ wr with⟨x,rfl⟩|⟨nm,ds,hd,wds⟩
   ·cases (show u = .str x from ru);refine⟨_,rfl,.str x,.ty "str",true,rfl,rfl,true,rfl,?_⟩;refine Y _ _ ⟨ndss j,by rw[dY,ndss,ndss];have:=sK (.str x);omega,fs++[.str x],j,_,c,_,rfl,f4,h4,s4,L,rt,U,?_,rfl,by omega⟩;rw[←e];show _=fs++([.str x]++_);rw[cp]
   ·obtain⟨N,g,rfl,hbb,z⟩:∃N g,u = .ref N/\isV H4 (.ref N) (.ty "str")=some false/\i8 H4 N (.str nm::g)/\Reps G ds g:=by
     rcases hd with rfl|rfl
     ·obtain⟨a,vs,rfl,Z,_,g,rfl,e1,r⟩:=ru;cases e1;exact⟨a,g,rfl,gC (C _ _ Z),.inr (C _ _ Z),r⟩
     ·obtain⟨a,vs,rfl,Z,_,g,rfl,e1,r⟩:=ru;cases e1;exact⟨a,g,rfl,tZ (C _ _ Z),.inl (C _ _ Z),r⟩
    obtain⟨z,res⟩:=z;have hnd:nds r=1+ndss ds:=by rcases hd with rfl|rfl <;> rw[nds]
    have hwl:wlk r=r::wlks ds:=by rcases hd with rfl|rfl <;> rw[wlk]
    have h1:=hU ds;have lr:=Reps.len res;refine⟨_,rfl,.ref N,.ty "str",false,rfl,hbb,false,rfl,?_⟩;refine⟨_,rfl,tyL h4,_,rfl,0,rfl,1,rfl,-1,rfl,rfl,rfl,rfl,N,_,rfl,z,by simp,λb o l ho=>?_⟩;rw[vT]at ho;have h5:upd H4 b o t=some (.lst c):=by rw[aE (aG h4 l)];exact h4
    have f5:upd H4 b o p=some (.lst (B++[.ref N])):=by rw[aE (aG f4 l)];exact f4
    have s5:aD H (upd H4 b o):=s4.trans (aD.upd l);refine⟨t,b,c,g.reverse,rfl,rfl,h5,by rcases ho with⟨rfl,_⟩|⟨rfl,_⟩;exact .inl upd_same;exact .inr upd_same,ao (m:=2000) (by rw[List.length_reverse];omega) (by decide),Y _ _ ⟨ndss j+ndss ds,by rw[dY,ndss,ndss];omega,fs++[r],j++ds.reverse,_,_,_,rfl,by rw[aE I];exact f5,upd_same,?_,L,Reps.append rt (Reps.rev res),U.app wds.rev,?_,by rw[dY,mI],by omega⟩⟩
    ·exact λb o l=>by rw[aE (aG l X)];exact s5 _ _ l
    ·rw[←e,hwl,List.reverse_append,List.reverse_reverse,List.flatMap_append,←vL];simp
noncomputable def mrk:D->M
 | .str x=>(sortS x,x,0)
 | .tup (.str n::ds)=>(2,n,ds.length+1)
 | _=>(0,"",0)
mutual
theorem EL:∀{d:D},Fl d->key d=(wlk d).map mrk
 | .str x,_=>by unfold key wlk;rfl
 | .tup (.str n::ds),h=>by unfold Fl at h;rw[key,wlk,AK h];rfl
 | .non,h | .bl _,h | .int _,h | .lst _,h | .tup [],h | .tup (.non::_),h | .tup (.bl _::_),h | .tup (.int _::_),h | .tup (.tup _::_),h | .tup (.lst _::_),h=>by unfold Fl at h;exact absurd h id
theorem AK:∀{ds:List D},Fls ds->keys ds=(wlks ds).map mrk
 | [],_=>rfl
 | d::ds,⟨a,b⟩=>by rw[keys,wlks,EL a,AK b,ax]
end
mutual
theorem CP:∀{d:D},Fl d->∀e∈wlk d,Fl e
 | .str x,h=>by unfold wlk;intro e a;rw[cs.mp a];exact h
 | .tup (.str n::ds),h=>by
  rw[wlk];intro e a;obtain rfl|a:=cu.mp a
  ·exact h
  ·exact ET (by unfold Fl at h;exact h) e a
 | .non,h | .bl _,h | .int _,h | .lst _,h | .tup [],h | .tup (.non::_),h | .tup (.bl _::_),h | .tup (.int _::_),h | .tup (.tup _::_),h | .tup (.lst _::_),h=>by unfold Fl at h;exact absurd h id
theorem ET:∀{ds:List D},Fls ds->∀e∈wlks ds,Fl e
 | [],_=>λe c=>by cases c
 | d::ds,⟨a,b⟩=>λe c=>by
  rw[wlks]at c;obtain c|c:=cx.mp c
  ·exact CP a e c
  ·exact ET b e c
end
noncomputable def mV (m:M):List V:=[.int m.1,.str m.2.1,.int m.2.2]
noncomputable def mD (m:M):D:=.tup [.int m.1,.str m.2.1,.int m.2.2]
def IC:Sp:=λvs H Q _=>∃(d:D) (v:V),vs=[v]/\aZ H d v/\Fl d/\∀p,H p=none->Q (.ref p) (upd H p (.tup (mV (mrk d))))
theorem NA {f:Addr}{o:FuncData}(F:gG K "order_mark" "order_mark" iE f o)(T:Txt mg):bY P w K mg base bN 1 f o pS IC:=by
 refine F.ok vA (λvs H Q E h=>?_) (λI A outer s H vs Q E i h=>?_)
 ·obtain⟨d,v,rfl,_⟩:=h;rfl
 ·obtain⟨d,v,rfl,rep,fl,q⟩:=h;have g:=i.units
  refine⟨_,(aC (bL (aV K rfl (aL aK rfl T.n_isinstance rfl (aA (pv 0) (aA (bR (v:=V.ty "str") rfl T.n_str rfl rfl) aB))) (λ_=>rfl)) (aH (aN (bE (aA (mC (aQ (dQ g) (bC bW (pv 0) aF (λ_ _=>rfl)) cJ (nomark _)) aF aF) (aA (pv 0) (aA aF aB)))))) aR)
   (aH (aN (bE (aA aF (aA (bC bW (pv 0) aF (λ_ _=>rfl)) (aA (aL bK rfl T.n_len rfl (aA (pv 0) aB)) aB))))))),?_⟩
  simp only[pX];clear i F T g;have keep:=aI q (aI rep fl);clear q rep fl
  walk_at "rd"
  obtain⟨q,rep,fl⟩:=keep;rcases kX fl with⟨x,rfl,l,j⟩|⟨nm,ds,rfl,z⟩
  ·cases (show v = .str x from rep);refine⟨true,rfl,?_⟩;rw[ai rfl];have hz:x.length<=sizeLine:=ao (m:=20) (by rw[br]at j;exact j) (by decide);cases hc:x.cps.toList with
   | nil=>rw[hc]at l;simp at l
   | cons c r =>
    refine⟨.str ⟨#[c]⟩,by rw[yH hz,hc,atI_zero];rfl,?_⟩;rw[rEqD_ss];refine⟨_,rfl,?_⟩;have B:decide ((⟨#[c]⟩:Str)=Str.ofString "?")=decide (c=63):=by
     have C:Str.ofString "?" = ⟨#[63]⟩:=by decide +kernel
     rw[C,cg];simp
    have es:sortS x=if c=63 then 0 else 1:=by unfold sortS;rw[hc];simp
    rw[B];by_cases h:c=63
    ·rw[ai (bh h)];refine⟨by decide,λp b=>?_⟩;have:Q (.ref p) (upd H p (.tup [.int (sortS x),.str x,.int 0])):=q p b;rw[es,ai h]at this;exact this
    ·rw[ab (by simpa using h)];refine⟨by decide,λp b=>?_⟩;have:Q (.ref p) (upd H p (.tup [.int (sortS x),.str x,.int 0])):=q p b;rw[es,ab h]at this;exact this
  ·obtain⟨a,vs,rfl,e,_,t,rfl,G,r⟩:=rep;cases G;have u:=Reps.len r;refine⟨false,gC e,?_⟩;rw[ab (by decide)];refine⟨.str nm,by rw[ixV_t e,atI_zero],.int (ds.length+1),by rw[lenV_t e,ap,u];rfl,by decide,λp b=>?_⟩;exact q p b
def spKey:Sp:=λvs H Q _=>∃(d:D) (v:V),vs=[v]/\aZ H d v/\Fl d/\nds d<=1000/\∀(l:Addr) (H':Hp),aD H H'->H l=none->aZ (nw H H') (.lst ((key d).map mD)) (.ref l)->Q (.ref l) H'
def UB (ds:List D)(H d:Hp)(i:Nat)(a:List V)(σ:St)(b:Hp):Prop:=∃c:Option V,σ=[c]/\aD d b/\Reps (nw H b) (((ds.take i).map mrk).map mD) a
theorem zJ {H:Hp}{p:Addr}{m:M}(h:H p=some (.tup (mV m))):aZ H (mD m) (.ref p):=⟨p,_,rfl,h,.int _,_,rfl,rfl,.str _,_,rfl,rfl,.int _,[],rfl,rfl,rfl⟩
theorem D8 {H c b:Hp}(s:aD c b):aD (nw H c) (nw H b):=λa o e=>by obtain⟨f,d⟩:=mH.mp e;exact mH.mpr ⟨f,s _ _ d⟩
theorem P4 {f:Addr}{I:FuncData}(F:gG K "order_key" "order_key" gY f I)(T:Txt mg)(c:dP P w K mg base bN 1 "order_mark" IC)(g:dP P w K mg base bN 1 "walked" tD):bY P w K mg base bN 2 f I rP spKey:=by
 refine F.ok xL (λvs H Q E h=>?_) (λcdv A outer s H vs Q E B h=>?_)
 ·obtain⟨d,v,rfl,_⟩:=h;rfl
 ·obtain⟨d,v,rfl,rep,fl,j,q⟩:=h;have X:=B.units
  refine⟨_,(aC (bL (aV K rfl (aL aK rfl T.n_isinstance rfl (aA (pv 0) (aA (bR (v:=V.ty "str") rfl T.n_str rfl rfl) aB))) (λ_=>rfl)) (aH (aN (bQ (aA (aM c (B.mono (by decide)) pass0 rfl (aA (pv 0) aB)) aB)))) aR)
   (aH (aN (e8 rfl (bJ.by (N:=mS) (names:=(aJ gY).names) (N':=["at"]) (src:=[none]) (by decide +kernel) rfl rfl) (cQ K rfl (aM g (B.mono (by decide)) pass0 rfl (aA (pv 0) aB))) (λ_ _ _ _=>(bA (i:=0) (show List.Nodup (["at"]:aS)by decide +kernel) rfl (Or.inl rfl))) (λ_ _ _ _=>cV) (λ_ _ _ _=>(aM c (B.mono (by decide)) pass0 rfl (aA (pv 0) aB))))))),?_⟩
  simp only[mS];clear B F T X c g;have keep:=aI q (aI rep (aI fl j));clear q rep fl j
  walk_at "rd"
  obtain⟨q,rep,fl,j⟩:=keep;rcases kX fl with⟨x,rfl,C,h2⟩|⟨nm,ds,rfl,fls⟩
  ·cases (show v = .str x from rep);refine⟨true,rfl,?_⟩;rw[ai rfl];refine⟨_,_,rfl,rep,fl,λp r=>⟨by decide,λl hl=>q l _ ((aD.upd r).trans (aD.upd hl)) ((aD.upd r).free hl) ?_⟩⟩;have Z:key (.str x)=[mrk (.str x)]:=by unfold key;rfl
   rw[Z];exact⟨l,[.ref p],rfl,mH.mpr ⟨(aD.upd r).free hl,upd_same⟩,.ref p,[],rfl,zJ (mH.mpr ⟨r,by rw[aE (aG upd_same hl)];exact upd_same⟩),rfl⟩
  ·obtain⟨b,hb⟩:∃b,isV H v (.ty "str")=some b/\b=false:=by obtain⟨a,vs,rfl,ha,_⟩:=rep;exact⟨false,gC ha,rfl⟩
   refine⟨b,hb.1,?_⟩;rw[ab (by rw[hb.2];decide)];refine⟨_,v,H,rfl,aD.refl _,rep,AT fl,j,λU L H1 u Y C z=>⟨U,rfl,L,.inl C,λJ hJ=>?_⟩⟩;have R:=Reps.len z;have lk:=oR (.tup (.str nm::ds));refine cU hJ (UB (wlk (.tup (.str nm::ds))) H H1) ⟨none,rfl,aD.refl _,rfl⟩ (λi t σ H' _ ⟨_,_,s2,_⟩=>by rw[C,s2 _ _ C]) ?_ ?_
   ·rintro i x t σ H2 W ⟨O,rfl,s2,o⟩;obtain⟨e,G,re⟩:=Reps.get z W;have S:=Reps.len o;refine⟨_,rfl,e,x,rfl,aZ.same (u.trans s2) re,CP fl e (bi G),λp r=>⟨aj (m:=1000) ?_ (by decide),_,rfl,s2.trans (aD.upd r),?_⟩⟩
    ·rw[ae,ae,bv]at S;omega
    ·rw[bD G,ax,ax];exact Reps.snoc (zJ (mH.mpr ⟨(u.trans s2).free r,upd_same⟩)) (Reps.same (D8 (aD.upd r)) o)
   ·rintro t σ H2 ⟨O,rfl,s2,o⟩ l hl;rw[R,bw]at o;refine q l _ ((u.trans s2).trans (aD.upd hl)) ((u.trans s2).free hl) ?_;rw[EL fl];exact⟨l,t,rfl,mH.mpr ⟨(u.trans s2).free hl,upd_same⟩,Reps.same (D8 (aD.upd hl)) o⟩
noncomputable def opP (n:Str)(d:D):List D:=match d with
 | .tup (.str m::es)=>if m=n then es else [d]
 | d=>[d]
def qJ:Sp:=λvs H Q _=>∃(n:Str) (d:D) (v:V),vs=[.str n,v]/\aZ H d v/\Fl d/\∀(l:Addr) (ws:List V) (H':Hp),aD H H'->H l=none->H' l=some (.lst ws)->Reps H (opP n d) ws->Q (.ref l) H'
theorem B6 {f:Addr}{t:FuncData}(F:gG K "opened" "opened" pE f t)(T:Txt mg):bY P w K mg base bN 1 f t BE qJ:=by
 refine F.ok FQ (λvs H Q E h=>?_) (λB A outer s H vs Q E m h=>?_)
 ·obtain⟨n,d,v,rfl,_⟩:=h;rfl
 ·obtain⟨n,d,v,rfl,rep,fl,q⟩:=h;have j:=m.units
  refine⟨_,(aC (bL (PW.pt (jR (aV K rfl (aL aK rfl T.n_isinstance rfl (aA (pv 1) (aA (bR (v:=V.ty "tuple") rfl T.n_tuple rfl rfl) aB))) (λ_=>rfl)) (jL (aQ (dQ j) (bC bW (pv 1) aF (λ_ _=>rfl)) (pv 0) (nomark _))))) (aH (aN (cB oK rfl T.n_list rfl (aA (dX iT (pv 1) (cM aF) c5) aB)))) aR)
   (aH (aN (bQ (aA (pv 1) aB))))),?_⟩
  simp only[uT];clear m F T j;have keep:=aI q (aI rep fl);clear q rep fl
  walk_at "rd"
  obtain⟨q,rep,fl⟩:=keep;have b:opP n d=[d]->1<=sizeLine/\∀(p:Addr),H p=none->Q (V.ref p) (upd H p (HO.lst [v])):=λe=>⟨by decide,λp g=>q p [v] _ (aD.upd g) g upd_same (by rw[e];exact⟨v,[],rfl,rep,rfl⟩)⟩
  rcases kX fl with⟨x,rfl,G,C⟩|⟨nm,ds,rfl,u⟩
  ·cases (show v = .str x from rep);exact⟨false,rfl,by rw[ab (by decide)];exact b rfl⟩
  ·obtain⟨a,vs,rfl,i,_,c,rfl,z,r⟩:=id rep;cases z;refine⟨true,J8 i,?_⟩;rw[ai rfl];refine⟨.str nm,by rw[ixV_t i,atI_zero],?_⟩;rw[rEqD_ss];refine⟨_,rfl,?_⟩;by_cases e:nm=n
   ·rw[ai (bh e)];refine⟨a,rfl,_,.inr i,λ_ h=>?_,λp o g ho=>?_⟩
    ·have:=h.1;simp[HT.sIx]at this
    ·rw[gT]at ho;refine⟨c,by rcases ho with⟨rfl,_⟩|⟨rfl,_⟩;rw[seqV_l upd_same];rw[seqV_t upd_same],λl hl=>q l c _ ((aD.upd g).trans (aD.upd hl)) ((aD.upd g).free hl) upd_same ?_⟩;show Reps H (if nm=n then ds else [.tup (.str nm::ds)]) c;rw[ai e];exact r
   ·rw[ab (by simpa using e)];exact b (by show(if nm=n then ds else [.tup (.str nm::ds)])=_;rw[ab e])
end
end Lw
namespace Lw
open PySem PySem.Spec PyProof.Rows PySem.SeqAt L2
theorem KN (m b:M):eqD (mD m) (mD b)=decide (m=b):=by obtain⟨a,x,c⟩:=m;obtain⟨i,g,h⟩:=b;rw[cg];simp[mD,eqD,eqDs];exact⟨λ⟨f,d,e⟩=>⟨by omega,d,by omega⟩,λ⟨f,d,e⟩=>⟨by omega,d,by omega⟩⟩
theorem FJ (A:Around)(s:Shared)(x y:Str)(t u:Tok):LK A s (.str x t) (.str y u) (sL x y):=λprog w E Q h=>(lt_str h:wpAny (model prog w) A (compareOp .Lt (.str x t) (.str y u)) Q E s)
theorem wD (A:Around)(s:Shared)(x y:Int)(t u:Tok):LK A s (.int x t) (.int y u) (decide (x<y)):=λprog w E Q h=>HT.rcLt_int A s x t y u prog w E Q h
section
variable {P:Program}{w:World}{H:Hp}{s:Shared}
theorem vals3 {a b c:V}{us:cA}(h:aW [a,b,c] us):∃u v x,us=[u,v,x]/\aY a u/\aY b v/\aY c x:=by
 cases h with
 | cons r1 h =>
  obtain⟨v,x,rfl,e,d⟩:=aW.two h;exact⟨_,v,x,rfl,r1,e,d⟩
theorem AC (ok:gX P w H s.heap){m:M}{v:V}{u:Value}(h:aZ H (mD m) v)(r:aY v u):∃p t1 a t3,u = .ref p/\s.heap.IsTuple p #[.int m.1 t1,.str m.2.1 a,.int m.2.2 t3]:=by obtain⟨p,vs,rfl,e,q,r1,rfl,j,o,A,rfl,i,l,c,rfl,g,f⟩:=h;cases j;cases i;cases g;cases (show c=[]from f);cases r;obtain⟨its,b,d⟩:=jO ok e;obtain⟨z,x,t,rfl,⟨t1,rfl⟩,⟨a,rfl⟩,⟨t3,rfl⟩⟩:=vals3 b;exact⟨p,t1,a,t3,rfl,d⟩
theorem NJ (ok:gX P w H s.heap)(A:Around)(hu:A.units+8<cLine){m C:M}{v O:V}{u R:Value}(h:aZ H (mD m) v)(h':aZ H (mD C) O)(r:aY v u)(Y:aY O R)(ne:m≠C):LK A s u R (ltM m C):=by
 obtain⟨p,t1,S,t3,rfl,⟨⟨c,dd,dt,X⟩,ho,T,n,hd⟩⟩:=AC ok h r;obtain⟨Z,l,j,i,rfl,⟨⟨c',N,dt',J⟩,o,B,n',t⟩⟩:=AC ok h' Y;simp only at T hd B t;subst T hd B t;obtain⟨a,x,b⟩:=m;obtain⟨f,g,d⟩:=C;have q:vJ A.in1 s [.int a t1,.str x S,.int b t3] [.int f l,.str g j,.int d i] (ltM (a,x,b) (f,g,d)):=by
  have K:A.in1.units+0<cLine:=by rw[eJ];omega
  have I:=eqAtD ok (.int a) (.int f) A.in1 (.int a) (.int f) (.int a t1) (.int f l) rfl rfl ⟨_,rfl⟩ ⟨_,rfl⟩ K;have G:=eqAtD ok (.str x) (.str g) A.in1 (.str x) (.str g) (.str x S) (.str g j) rfl rfl ⟨_,rfl⟩ ⟨_,rfl⟩ K;have W:=eqAtD ok (.int b) (.int d) A.in1 (.int b) (.int d) (.int b t3) (.int d i) rfl rfl ⟨_,rfl⟩ ⟨_,rfl⟩ K;unfold ltM;dsimp only;by_cases U:a=f
  ·subst U;rw[ai rfl];refine .eq (by rw[j8]at I;exact I) ?_;by_cases L:x=g
   ·subst L;rw[ai rfl];refine .eq (by rw[j8]at G;exact G) ?_;have h3:b≠d:=λz=>ne (by rw[z]);have e:eqD (.int (b:Int)) (.int (d:Int))=false:=by show((b:Int) == (d:Int))=false;simp;omega
    rw[e]at W;have:decide (b<d)=decide ((b:Int)<(d:Int)):=by rw[cg];simp
    rw[this];exact .ne W (wD _ _ _ _ _ _)
   ·rw[ab L];have e:eqD (.str x) (.str g)=false:=by
     show(x == g)=false
     simpa using L
    rw[e]at G;exact .ne G (FJ _ _ _ _ _ _)
  ·rw[ab U];have e:eqD (.int (a:Int)) (.int (f:Int))=false:=by show((a:Int) == (f:Int))=false;simp;omega
   rw[e]at I;have:decide (a<f)=decide ((a:Int)<(f:Int)):=by rw[cg];simp
   rw[this];exact .ne I (wD _ _ _ _ _ _)
 intro prog w' E Q hq;exact richCompare_meets_room (op:=.Lt) ⟨_,ho,rfl⟩ ⟨_,o,rfl⟩ PySem.F.slot_tuple_lt PySem.F.entry_tuple_lt (PySem.F.args_tuple_lt_2 _ _) (uY p Z _ _ n n' dd N X J)
  ⟨ho,o,_,q,show Value.bool _≠Value.notImplemented/\Q _ s from⟨(λx=>nomatch x),hq⟩⟩ (by omega)
theorem wB (ok:gX P w H s.heap)(A:Around)(p:A.units+8<cLine):∀(ks c:List M) (vs a:List V) (us b:cA),Reps H (ks.map mD) vs->Reps H (c.map mD) a->aW vs us->aW a b->vJ A s us b (lexK ks c)
 | [],[],vs,a,us,b,h,h',r,d=>by
  cases (show vs=[]from h);cases (show a=[]from h');cases r.zero;cases d.zero;exact .nn
 | [],j::c,vs,a,us,b,h,⟨u,z,o,_,_⟩,r,d=>by
  cases (show vs=[]from h);subst o;cases r.zero;cases d;exact .nc
 | m::ks,[],vs,a,us,b,⟨x,q,e,_,_⟩,h',r,d=>by
  cases (show a=[]from h');subst e;cases d.zero;cases r;exact .cn
 | m::ks,j::c,vs,a,us,b,⟨x,q,e,t,B⟩,⟨u,z,o,g,l⟩,r,d=>by
  subst e o;cases r with
  | cons r1 v =>
   cases d with
   | cons f i =>
    have e:=eqAtD ok (mD m) (mD j) A _ _ _ _ t g r1 f (by
     have:depD (mD m)=1:=rfl
     omega)
    rw[KN]at e;rw[lexK];by_cases ne:m=j
    ·rw[ai ne];rw[bh ne]at e;exact .eq e (wB ok A p ks c _ _ _ _ B l v i)
    ·rw[ab ne];rw[bj ne]at e;exact .ne e (NJ ok A p t g r1 f ne)
theorem tY (ok:gX P w H s.heap){ks:List M}{v:V}{u:Value}(h:aZ H (.lst (ks.map mD)) v)(r:aY v u):∃l vs us,u = .ref l/\Reps H (ks.map mD) vs/\aW vs us/\s.heap.IsList l us.toArray:=by obtain⟨l,vs,rfl,hl,c⟩:=h;cases r;obtain⟨us,b,a⟩:=gE ok hl;exact⟨l,vs,us,rfl,c,b,a⟩
theorem rG (ok:gX P w H s.heap)(A:Around)(O:A.units+16<cLine){ks a:List M}{v t:V}{u i:Value}(h:aZ H (.lst (ks.map mD)) v)(h':aZ H (.lst (a.map mD)) t)(r:aY v u)(C:aY t i) :
  s.TypeIs u "list"/\s.TypeIs i "list"/\∀(prog:Program) (w:World) (E:cL) (Q:cL),Q (.bool (lexK ks a)) s->wpAny (model prog w) A (call (.builtin "list.__lt__") [u,i]) Q E s:=by
 obtain⟨l,vs,us,rfl,J,B,hl⟩:=tY ok h r;obtain⟨I,f,g,rfl,o,m,p⟩:=tY ok h' C;obtain⟨⟨c,N,R,z⟩,ho,x,n,hd⟩:=id hl;obtain⟨⟨S,q,L,j⟩,b,e,G,d⟩:=id p;simp only at x hd e d;subst x hd e d;refine⟨⟨_,ho,rfl⟩,⟨_,b,rfl⟩,λprog w E Q K=>?_⟩;exact call_meets PySem.F.slot_list_lt ⟨_,ho,rfl⟩ PySem.F.entry_list_lt (PySem.F.args_list_lt_2 _ _) (yA l I _ _ n G N q z j) ⟨ho,b,_,wB ok A.in1 (by rw[eJ];omega) ks a vs f us g J o B m,K⟩
theorem GM (ok:gX P w H s.heap)(A:Around)(e:A.units+16<cLine){ks a:List M}{v b:V}{u c:Value}(h:aZ H (.lst (ks.map mD)) v)(h':aZ H (.lst (a.map mD)) b)(r:aY v u)(d:aY b c):LK A s u c (lexK ks a):=by obtain⟨j,i,g⟩:=rG ok A e h h' r d;intro prog w E Q f;exact wpAny_richCompare_same_room j i PySem.F.slot_list_lt (g prog w _ _ ⟨(λx=>nomatch x),f⟩) (by omega)
end
def rLtK:R2:=λx y H Q=>∃ks a:List M,aZ H (.lst (ks.map mD)) x/\aZ H (.lst (a.map mD)) y/\Q (.bl (lexK ks a)) H
theorem PU {X:Cx}(g:X.A.units+64<cLine):iQ X (compareOp .Lt) rLtK:=by intro a s σ H x y v u Q I d c h;obtain⟨ks,b,f,e,q⟩:=h;have:=GM I.hok X.A (by omega) f e d c X.prog X.w X.xe (EP X a σ Q) ⟨.bl (lexK ks b),H,I,rfl,q⟩;exact this
end Lw
namespace Lw
open PySem PySem.Spec PyProof.Rows PySem.SeqAt PySem.W L2
noncomputable def kyD (d:D):D:=.lst ((key d).map mD)
theorem N0 {P:Program}{w:World}{H:Hp}{s:Shared}(ok:gX P w H s.heap)(A:Around)(i:A.units+32<cLine){d e:D}{v b:V}{u c:Value}(h:aZ H (kyD d) v)(h':aZ H (kyD e) b)(r:aY v u)(f:aY b c){prog:Program}{a:World}{E:cL}{Q:Bool->Shared->Prop}
  (q:Q (lexK (key d) (key e)) s):wpAny (model prog a) A (keyLt' oneType' u c) Q E s:=by
 obtain⟨t1,g,t3⟩:=rG ok A (by omega) h h' r f;rw[keyLt'_oneType,oneLt'_eq,ai rfl];refine aa (wpAny_cRoomFor (by omega) (aa (wpAny_callSpecialIfBound?_slot t1 F.slot_list_lt (t3 prog a _ _ ?_))));exact wpAny_truthy_bool q
theorem CJ {M:Model}{h:Heap}{l:Addr}{us:iR}(hl:h.IsList l us):Looks M h (typeOf (.ref l)) (.type "list"):=λA Q E s k q=>by obtain⟨o,ho,a,_⟩:=hl;exact wpAny_typeOf ⟨o,k _ _ ho,a⟩ q
noncomputable def ltI (ds:List D)(i j:Nat):Bool:=lexK (key (ds.getD i .non)) (key (ds.getD j .non))
theorem JG (n:Nat)(ds:List D):R1 n (ltI ds):=⟨λi=>pJ _,λi j h=>qS h,λi j k b a=>tU a b⟩
theorem yJ {ks is:cA}{i:Nat}(h:ks.length=is.length)(a:i<is.length):kas_item (ks.toArray.zip is.toArray) i=(ks.getD i .none,is.getD i .none):=by
 unfold kas_item;have c:i<(ks.toArray.zip is.toArray).size:=by simp;omega
 rw[Array.getD_eq_getD_getElem?,Array.getElem?_eq_getElem c];have b:i<ks.length:=by omega
 simp[a,b]
theorem pL {H:Hp}{ds:List D}{vs:List V}(h:Reps H ds vs){i:Nat}(a:i<ds.length):aZ H (ds.getD i .non) (vs.getD i .non):=by
 obtain⟨v,b,r⟩:=Reps.get' h (aw a);have d:ds.getD i .non=ds[i]:=by simp[a]
 have c:vs.getD i .non=v:=by rw[List.getD_eq_getElem?_getD,b];rfl
 rw[d,c];exact r
theorem pK {vs:List V}{us:cA}(h:aW vs us){i:Nat}(a:i<vs.length):aY (vs.getD i .non) (us.getD i .none):=by
 obtain⟨u,b,r⟩:=h.get (aw a);have d:vs.getD i .non=vs[i]:=by simp[a]
 have c:us.getD i .none=u:=by rw[List.getD_eq_getElem?_getD,b];rfl
 rw[d,c];exact r
theorem zI {H:Hp}{ds:List D}{vs:List V}(h:Reps H ds vs):∀(l:List Nat),(∀i∈l,i<ds.length)->Reps H (l.map λi=>ds.getD i .non) (l.map λi=>vs.getD i .non)
 | [],_=>rfl
 | i::l,hl=>⟨_,_,rfl,pL h (hl i av),zI h l λj a=>hl j (ay _ a)⟩
theorem y4 {vs:List V}{us:cA}(h:aW vs us):∀(l:List Nat),(∀i∈l,i<vs.length)->aW (l.map λi=>vs.getD i .non) (l.map λi=>us.getD i .none)
 | [],_=>.nil
 | i::l,hl=>.cons (pK h (hl i av)) (y4 h l λj a=>hl j (ay _ a))
theorem JZ (ds:List D):(List.range ds.length).map (λi=>ds.getD i .non)=ds:=by
 apply List.ext_getElem
 ·simp
 ·intro i b a;simp[a]
section
variable {X:Cx}{pins:c9}{σ:L2.St}{H Hj:Hp}{s:Shared}{a kS:Addr}{e1 e:Nat}{kvs xs:List V}{kus its:cA}{ds:List D}{A:Around}{E:cL}
theorem IE (hu:A.units+64<cLine)(I:aO X pins σ Hj s)(sH:aD H Hj)(r:fS X pins Hj a)(x:fS X pins Hj kS)(ne:kS≠a)(ha:s.heap.get? a=some (seqObj "list" #[] S))(hk:s.heap.get? kS=some (seqObj "list" kus.toArray e))
  (F:aW kvs kus) (B:Reps Hj (ds.map kyD) kvs) (W:aW xs its) (Y:Reps H ds xs) (h2:2<=ds.length) (P:ds.length<64) {Pf:PySem.Fin->Shared->Prop}
  (h:∀c U es,aO X pins σ (upd Hj a (.lst U)) c->es.Perm ds->es.Pairwise leK->Reps H es U->Pf (.done (.ret .none)) c) :
  wpAny (model X.prog X.w) A (ksk_end a false its.toArray S (.ref kS) kus.toArray) Pf E s:=by
 have l1:=Reps.len B;rw[ae]at l1;have l2:=F.length;have l3:=Reps.len Y;have l4:=W.length;have L:kus.length=its.length:=by omega
 have n2:¬its.toArray.size<2:=by rw[ag];omega
 unfold ksk_end;dsimp only;rw[ab n2,ab n2,ab Bool.false_ne_true];have look:∀v∈kus,Looks (model X.prog X.w) s.heap (typeOf v) (.type "list"):=λv hv=>by
  obtain⟨i,d⟩:=List.getElem?_of_mem hv;have hi':=(cr.mp d).1;have r1:=pL B (i:=i) (by rw[ae];omega);have Z:=pK F (i:=i) (by omega);have ek:kus.getD i .none=v:=by rw[List.getD_eq_getElem?_getD,d];rfl
  rw[ek]at Z;have J:(ds.map kyD).getD i .non=kyD (ds.getD i .non):=by
   have:i<ds.length:=by omega
   simp[this]
  rw[J]at r1;obtain⟨l,_,us,rfl,_,_,hl⟩:=tY I.hok r1 Z;exact CJ hl
 refine aa (kas_kind (vs:=kus) (by omega) look (by decide) (by decide) ?_);have R:SortSt.mk' oneType' (kus.toArray.zip its.toArray) #[] 7 none=kas_st oneType' (kus.toArray.zip its.toArray) (List.toArray (List.range ds.length)):=by
  have e:=kas_range (kus.toArray.zip its.toArray);have z:(kus.toArray.zip its.toArray).size=ds.length:=by simp;omega
  rw[z]at e;unfold kas_st;rw[e]
 have run:=kas_runs (prog:=X.prog) (w:=X.w) (A:=A) (E:=E) (κ:=oneType') (it:=kus.toArray.zip its.toArray) (n:=ds.length) (s:=s)
  (Q:=λ_ f c=>c=s/\∃p:Array Nat,Gd ds.length p/\Up (ltI ds) p ds.length/\arrOf f=p.map (kas_item (kus.toArray.zip its.toArray))/\failedOf f=none)
  (G:=λp c=>c=s/\Gd ds.length p/\Up (ltI ds) p ds.length) h2 P (λp' f c _ a2 a3 T=>⟨T.1,p',T.2.1,T.2.2,a2,a3⟩) ?ask
 case ask =>
  refine FB (n:=ds.length) (lt:=ltI ds) (λc=>c=s) ?_ (λp c S e2=>⟨S,e2⟩) (G8 (JG ds.length ds) (by omega)) s rfl;intro i j C c d hj es hC;subst es;unfold kas_cmp;rw[yJ L (by omega),yJ L (by omega)];have g1:=pL B (i:=i) (by rw[ae];omega);have g2:=pL B (i:=j) (by rw[ae];omega);have J:∀i,i<ds.length->(ds.map kyD).getD i .non=kyD (ds.getD i .non):=λi d=>by simp[d]
  rw[J i d]at g1;rw[J j hj]at g2;exact N0 I.hok A (by omega) g1 g2 (pK F (by omega)) (pK F (by omega)) (hC _ rfl)
 rw[←R]at run;refine aa (wpAny_mono run ?_ λ_ _ z=>z);rintro⟨⟨⟩,f⟩ c ⟨rfl,p,q,up,O,hf⟩;have ho:(arrOf f).map (·.2)=(p.toList.map λi=>its.getD i .none).toArray:=by
  rw[O];apply Array.toList_inj.mp;rw[Array.map_map,Array.toList_map];refine List.map_congr_left λi d=>?_;have:i<ds.length:=by
   have:=(Array.perm_iff_toList_perm.mp q).mem_iff.mp d
   simpa using this
  show(kas_item (kus.toArray.zip its.toArray) i).2=_;rw[yJ L (by omega)]
 have inn:∀i∈p.toList,i<ds.length:=λi d=>by
  have:=(Array.perm_iff_toList_perm.mp q).mem_iff.mp d
  simpa using this
 have pl:p.toList.length=ds.length:=by rw[br,q.size]
 unfold ksk_tail;dsimp only;rw[ho];refine aa (listUpdate_at hk rfl ?_ (ao (m:=64) (by rw[ag];omega) (by decide)) (au _));refine aa (wpAny_letGo ?_);have t:=Heap.SameBut.update c.heap kS (Obj.mapSeq λ_=>(#[]:iR));have g:=(t.2 a ne.symm).trans ha;have I1:=I.turned (t':=c.toks) (λb o N z=>(t.2 b N).trans z) x.1 x.2.1 x.2.2.2.1 x.2.2.2.2.1 x.2.2.2.2.2;refine aa (seqEpoch_at g rfl ?_);refine aa (listUpdate_at g rfl ?_ (au _) (ao (m:=64) (by simp only[Bool.false_eq_true,if_false];rw[ag,ae];omega) (by decide)));rw[hf];simp only[bne_self_eq_false,if_false,Bool.false_eq_true];have K:=Heap.SameBut.update (c.heap.update kS (Obj.mapSeq λ_=>(#[]:iR))) a (Obj.mapSeq λ_=>(p.toList.map λi=>its.getD i .none).toArray);have I2:=I1.turned (t':=c.toks) (λb o N z=>(K.2 b N).trans z) r.1 r.2.1 r.2.2.2.1 r.2.2.2.2.1 r.2.2.2.2.2;have ga:=get?_update_seq g λ_=>(p.toList.map λi=>its.getD i .none).toArray;have I3:=I2.adopt (o:=.lst (p.toList.map λi=>xs.getD i .non)) r ⟨ao (m:=64) (by rw[ae];omega) (by decide),_,_,y4 W p.toList (λi d=>by have:=inn i d;omega),ga⟩;refine ak (h _ _ (p.toList.map λi=>ds.getD i .non) I3 ?_ ?_ (zI Y p.toList inn))
 ·have:=(Array.perm_iff_toList_perm.mp q).map (λi=>ds.getD i .non);rw[List.toList_toArray,JZ]at this;exact this
 ·rw[List.pairwise_map,List.pairwise_iff_getElem];intro i j d hj hij;have u:=up i j (by omega) (by omega);have ei:pa p i=p.toList[i]:=by
   have:i<p.size:=by rw[q.size];omega
   simp[pa,Array.getD,this]
  have ej:pa p j=p.toList[j]:=by
   have:j<p.size:=by rw[q.size];omega
   simp[pa,Array.getD,this]
  rw[ei,ej]at u;exact u
theorem J6 {k:Nat}{f:Addr}{J:FuncData}{ps:aS}(F:bY X.prog X.w X.K X.mg X.base bN k f J ps spKey)(S:eN X.K J ps [])(P:eP k A)(R:A.frames=some X.stack)(I:aO X pins σ Hj s)(t:fS X pins Hj a)(q:fS X pins Hj kS){j ok:Obj}(H:s.heap.get? a=some j)(G:s.heap.get? kS=some ok){d:D}{v:V}{u:Value}(N:aZ Hj d v)(fl:Fl d)(nd:nds d<=1000)(r:aY v u)
  {Q:cL} {E:cL} (h:∀g m H' c,aO X pins σ H' c->aD Hj H'->H' a=none->H' kS=none->c.heap.get? a=some j->c.heap.get? kS=some ok->aZ H' (kyD d) g->aY g m->Q m c) :
  wpAny (model X.prog X.w) A (call (.ref f) [u]) Q E s:=by
 have e:=I.env0;have B:spKey [v] Hj (λg H'=>aD Hj H'/\aZ H' (kyD d) g) E0:=⟨d,v,rfl,N,fl,nd,λl H' c hl rep=>⟨c,aZ.same (λb o z=>(mH.mp z).2) rep⟩⟩
 have hl:[u].length=ps.length:=F.len _ _ _ _ B;have C:∀b,fS X pins Hj b->b∉frs X.stack:=λb L z=>(cu.mp (I.stkSub b z)).elim L.2.1 L.2.2.1;refine wpAny_call (codeAny_mono (F.run A X.stack s Hj ⟨[u],[]⟩ [u] [v] _ E0 P ⟨R,e.mod,e.bs,e.bsz,e.funs,e.frf,e.hok,e.bare⟩ (by have:=S s [u] I.kIn (by simpa using hl);simpa using this) (.cons r .nil) B) λres c i=>?_);cases res with
 | error x=>exact i.elim
 | ok p =>
  cases p with
  | ret m =>
   obtain⟨g,H',os,bare,un,hok,O,sm,rep⟩:=i;have I':=I.call' (ch:=[]) os un hok bare (λb z=>absurd z (by simp));exact h g m H' c I' sm (un.free a j H t.1 (by simp)) (un.free kS ok G q.1 (by simp)) (un.keep a j H t.1 (C a t) (by simp)) (un.keep kS ok G q.1 (C kS q) (by simp)) rep O
  | next=>exact i.elim
  | brk=>exact i.elim
  | cont=>exact i.elim
theorem FN {k:Nat}{f:Addr}{fd:FuncData}{ps:aS}(F:bY X.prog X.w X.K X.mg X.base bN k f fd ps spKey)(W:eN X.K fd ps [])(hr:eP k A)(he:A.frames=some X.stack)(I:aO X pins σ H s)(fa:fS X pins H a)(O:fS X pins H kS)(ne:kS≠a)
  (ha:s.heap.get? a=some (seqObj "list" #[] e1)) (hk:s.heap.get? kS=some (seqObj "list" #[] 0)) (P:aW xs its) (R:Reps H ds xs) (fl:∀d∈ds,Fl d/\nds d<=1000) (h2:2<=ds.length) (Z:ds.length<64) {Pf:PySem.Fin->Shared->Prop}
  (h:∀p H' J es,aO X pins σ (upd H' a (.lst J)) p->aD H H'->H' a=none->es.Perm ds->es.Pairwise leK->Reps H es J->Pf (.done (.ret .none)) p) :
  wpAny (model X.prog X.w) A (ksk_rest a (.ref f) false its.toArray e1 (.ref kS)) Pf E s:=by
 have hu:=hr.units;have l3:=Reps.len R;have l4:=P.length;unfold ksk_rest;refine aa (wpAny_rule ?_);rw[List.forIn_toArray]
 refine aa (ksk_fold (λj p=>∃(Hj:Hp) (c:List V) (g:cA) (e:Nat),aO X pins σ Hj p/\aD H Hj/\Hj a=none/\Hj kS=none/\p.heap.get? a=some (seqObj "list" #[] e1)/\p.heap.get? kS=some (seqObj "list" g.toArray e)/\aW c g/\Reps Hj ((ds.take j).map kyD) c) its 0 s
  ⟨H,[],[],0,I,aD.refl _,fa.1,O.1,ha,hk,.nil,rfl⟩ ?step ?done)
 case step =>
  rintro j x p hx ⟨Hj,c,g,e,I',sm,N,S,q,l,L,r⟩;rw[Nat.zero_add]at r⊢;have hj:j<its.length:=(cr.mp hx).1;have hd:ds[j]?=some ds[j]:=aw (by omega);obtain⟨v,hv,rv⟩:=Reps.get' R hd;obtain⟨u,C,ru⟩:=P.get hv;rw[hx]at C;cases C;have lr:=Reps.len r;rw[ae,bv]at lr;have lk:=L.length;have hf:=fl ds[j] (bi hd);refine aa (wpAny_attempt (J6 F W hr he I' (fa.at N) (O.at S) q l (aZ.same sm rv) hf.1 hf.2 ru λkv U H' s2 I2 t T B Y G rep Q=>?_));have sb:=Heap.SameBut.update s2.heap kS (Obj.mapSeq (·.push U));have gk:=get?_update_seq G (·.push U);refine aa (listUpdate_at G rfl ?_ (ao (m:=64) (by rw[ag];omega) (by decide)) (ao (m:=65) (by rw[Array.size_push,ag];omega) (by decide)));have i:=O.at B;refine ak ⟨rfl,H',c++[kv],g++[U],_,I2.turned (t':=s2.toks) (λb o W z=>(sb.2 b W).trans z) i.1 i.2.1 i.2.2.2.1 i.2.2.2.2.1 i.2.2.2.2.2,sm.trans t,T,B,(sb.2 a ne.symm).trans Y,by rw[gk,List.push_toArray],L.append (.cons Q .nil),?_⟩;rw[bD hd,ax];exact Reps.snoc rep (Reps.same t r)
 case done =>
  rintro p ⟨Hj,c,g,e,I',sm,N,S,q,l,L,r⟩;rw[Nat.zero_add,←l4,l3,bw]at r;exact aa (listItems_at l rfl (IE (by omega) I' sm (fa.at N) (O.at S) ne q l L r P R h2 Z λs2 J es I2 a1 a2 a3=>h s2 Hj J es I2 sm N a1 a2 a3))
theorem C2 {k:Nat}{f l:Addr}{G:FuncData}{ps:aS}(F:bY X.prog X.w X.K X.mg X.base bN k f G ps spKey)(p:eN X.K G ps [])(N:eP (k+2) X.A)(I:aO X pins σ H s)(hl:H l=some (.lst xs))(v:Reps H ds xs)(fl:∀d∈ds,Fl d/\nds d<=1000)(O:2<=ds.length)(q:ds.length<64){Q:VK}
  (h:∀j c es H',aD H H'->H j=none->H' j=some (.lst c)->es.Perm ds->es.Pairwise leK->Reps H es c->Q (.ref j) H') :
  wpAny (model X.prog X.w) X.A (call (.builtin "sorted") [.ref l] [(Str.ofString "key",.ref f)]) (EP X pins σ Q) E s:=by
 obtain⟨its,u,pl,hz⟩:=I.list (dN.of hl);have l3:=Reps.len v;have l4:=u.length;refine call_function_entry_kw kind_sorted plain_sorted entry_sorted (ksk_s1 _ _) ?_;unfold Builtin.«sorted»;refine aa (m:=checkCount "sorted" 1 1 _) (ak (aa (collect_list pl.isList ?_ (by omega))));refine aa (wpAny_newList ?_ (by omega));have C:∀b o,s.heap.get? b=some o->((s.heap.push (seqObj "list" #[] 0)).update s.heap.objs.size (Obj.mapSeq λx=>x++its.toArray)).get? b=some o:=λb o e=>by have lt:=az e;rw[Heap.get?_update_ne _ _ _ _ (bo lt)];exact af _ e
 have i:s.heap.objs.size<=((s.heap.push (seqObj "list" #[] 0)).update s.heap.objs.size (Obj.mapSeq λx=>x++its.toArray)).objs.size:=by rw[Heap.size_update,Heap.size_push];omega
 dsimp only;generalize (s.heap.push (seqObj "list" #[] 0)).update s.heap.objs.size (Obj.mapSeq λx=>x++its.toArray)=h1 at C i⊢;have Z:aO X pins σ H {s with heap:=h1.push (seqObj "list" its.toArray 0)}:=I.kept (t':=s.toks) λb o e=>af _ (C b o e);have B:=I.hok.fresh i;have a:=I.fpOk i B;have g:(h1.push (seqObj "list" its.toArray 0)).get? h1.objs.size=some (seqObj "list" its.toArray 0):=ar _ rfl;refine aa (ck (wpAny_call_entry_kw slot_list_sort ⟨_,g,rfl⟩ entry_list_sort ?body (ksk_l1 _ _)));show wpAny (model X.prog X.w) X.A.in1.in1 (ksk_tree h1.objs.size (.ref f) false) _ _ _;unfold ksk_tree;refine aa (listItems_at g rfl ?_);refine aa (listUpdate_at g rfl ?_ (by rw[ag];omega) (au _));have J:=Heap.SameBut.update (h1.push (seqObj "list" its.toArray 0)) h1.objs.size (Obj.mapSeq λ_=>(#[]:iR));have r:=get?_update_seq g λ_=>(#[]:iR)
 have Y:=Z.turned (t':=s.toks) (λb o p z=>(J.2 b p).trans z) a.1 a.2.1 a.2.2.2.1 a.2.2.2.2.1 a.2.2.2.2.2;refine aa (seqEpoch_at r rfl ?_);refine aa (wpAny_newTuple ?_ (by show its.length<=_;omega));refine aa (wpAny_newList (ck ?_) (au _));have t:=Y.kept (t':=s.toks) λb o e=>af {cls:=.type "tuple",data:=.seq its.toArray} e;have W:=t.kept (t':=s.toks) λb o e=>af {cls:=.type "list",data:=.seq #[]} e;have R:=t.fpOk (ac _) (t.hok.fresh (ac _));have P:=af {cls:=.type "list",data:=.seq #[]} (af {cls:=.type "tuple",data:=.seq its.toArray} r);refine FN F p N.in1.in1 (I.ok.frames) W a R (λz=>?_) P (ar _ rfl) u v fl O q λs' H' c es I' sm L U T S=>⟨_,rfl,ak ⟨_,rfl,.ref h1.objs.size,_,I',rfl,h _ c es _ (sm.trans (aD.upd L)) B upd_same U T S⟩⟩
 have lt:=az (af {cls:=.type "tuple",data:=.seq its.toArray} r);exact Nat.ne_of_gt lt z
end
def OV (e:TA):TE:=λσ H Q=>e σ H λvs a=>∃l xs ds,vs=[.ref l]/\a l=some (.lst xs)/\Reps a ds xs/\(∀d∈ds,Fl d/\nds d<=1000)/\2<=ds.length/\ds.length<64 /\
 ∀b c es H',aD a H'->a b=none->H' b=some (.lst c)->es.Perm ds->es.Pairwise leK->Reps a es c->Q (.ref b) H'
theorem B1 {X:Cx}{k:Nat}{e:Expr}{m:TA}{p o c a:Pos}(O:dP X.prog X.w X.K X.mg X.base bN k "order_key" spKey)(L:eP (k+2) X.A)(N:Gl X "sorted")(hm:X.mg "sorted" = none)(i:Gl X "order_key")(T:PA X [e] m)
  (R:backTo a (starEach [e] X.env)=(false,eval e X.env)::backTo a (starEach [] X.env):=by rfl) (g:(backTo a (starEach [e] X.env)).any (·.1)=false:=by rfl):PE X (.Call (.Name "sorted" p) [e] [⟨some "key",.Name "order_key" o,c⟩] a) (OV m):=by
 obtain⟨f,fd,ps,F,P,hk,S⟩:=O;intro b s σ H Q I h;refine wpAny_Call_Name_kw (kR I N hm (u:=.builtin "sorted") rfl ?_);refine callWith_kw (thn (T a b s σ H _ I h) λus v ⟨vs,t,I1,r1,C⟩=>?_) R g;have E:PK X [⟨some "key",.Name "order_key" o,c⟩] (tCons (tC (.ref f)) tNil):=MH (fH ⟨_,P,rfl⟩ i) O8;refine thn (E a b v σ t (λvs r=>vs=[.ref f]/\r=t) I1 ⟨rfl,rfl⟩) λJ s2 ⟨G,r,Z,B,Y,W⟩=>?_;subst Y W;obtain⟨ku,rfl,d⟩:=aW.one B;cases d;obtain⟨l,xs,ds,rfl,hl,z,fl,U,j,q⟩:=C;obtain⟨u,rfl,x⟩:=aW.one r1;cases x;exact C2 F S L Z hl z fl U j q
end Lw
namespace Lw
open PySem L2
section
variable {P:Program}{w:World}{K:PySem.W.Frag}{mg:jF}{base:Heap}
theorem PM (n z:Str)(d:D)(a:Fl d):opn1 n z d=if eqD d (.str z)=true then []else opP n d:=by
 rcases kX a with⟨x,rfl,_⟩|⟨m,es,rfl,_⟩
 ·rfl
 ·have e:eqD (.tup (.str m::es)) (.str z)=false:=rfl;rw[e,ab (by decide)];rfl
theorem rJ:∀(ds l:List D),(∀d∈ds,Fl d)->(∀d∈l,Fl d)->l.Pairwise leK->(ds.foldl (λl d=>insA d l) l).Pairwise leK
 | [],l,_,_,h=>h
 | d::ds,l,hd,hl,h=>by
  refine rJ ds (insA d l) (λe a=>hd e (ay _ a)) (λe a=>?_) (rK (hd d av) hl h);rcases cu.mp ((nE d l).mem_iff.mp a)with rfl|a
  ·exact hd _ av
  ·exact hl e a
theorem gN {ds:List D}(h:∀d∈ds,Fl d):(fQ ds).Pairwise leK:=rJ ds [] h (λ_ h=>by cases h) .nil
theorem FM {ds es:List D}(h:∀d∈ds,Fl d)(p:es.Perm ds)(s:es.Pairwise leK):es=fQ ds :=
 oA (λd hd=>h d (p.mem_iff.mp hd)) (p.trans (bU ds).symm) s (gN h)
theorem sM:∀{ds:List D} {d:D},d∈ds->nds d<=ndss ds
 | e::ds,d,h=>by
  rw[ndss];obtain rfl|h:=cu.mp h
  ·omega
  ·have:=sM h;omega
theorem JK (n z:Str)(d:D):ndss (opn1 n z d)<=nds d:=by
 unfold opn1;split
 ·split
  ·rw[nds];omega
  ·rw[ndss,ndss];omega
 ·split
  ·rw[ndss];omega
  ·rw[ndss,ndss];omega
theorem xV (n z:Str):∀ds:List D,ndss (opn n z ds)<=ndss ds
 | []=>ac _
 | d::ds=>by rw[cE,dY,ndss];have:=JK n z d;have:=xV n z ds;omega
def vS:Sp:=λvs H Q _=>∃(n z:Str) (a:Addr) (ds:List D) (ws:List V),vs=[.str n,.str z,.ref a]/\H a=some (.lst ws)/\Reps H ds ws/\Fls ds/\szs ds<=60/\ndss ds<=1000/\depDs ds<=50 /\
 ∀(b:V) (H':Hp),aD H H'->aZ H' (one n z (fQ (opn n z ds))) b->Q b H'
def UJ (a l:Addr)(n z:Str)(ds:List D)(H:Hp)(i:Nat)(σ:St)(b:Hp):Prop:=∃(us:List V) (o:Option V),σ=[some (.str n),some (.str z),some (.ref a),some (.ref l),o]/\b l=some (.lst us)/\aD H b/\Reps b (opn n z (ds.take i)) us
theorem B9 {f:Addr}{N:FuncData}(F:gG K "flat_sum" "flat_sum" kM f N)(T:Txt mg)(t:dP P w K mg base bN 1 "opened" qJ)(j:dP P w K mg base bN 2 "order_key" spKey):bY P w K mg base bN 5 f N uS vS:=by
 refine F.ok lU (λvs H Q E h=>?_) (λcdv A outer s H vs Q E hr h=>?_)
 ·obtain⟨n,z,a,ds,ws,rfl,_⟩:=h;rfl
 ·obtain⟨n,z,a,ds,ws,rfl,G,L,r,v,c,B,q⟩:=h;have hu:=hr.units
  refine⟨_,(aC (aU (i:=3) lU.nd rfl (Or.inl rfl) (bQ aB))
   (aC (fB di rfl (cQ K rfl (pv 2)) (bA (i:=4) lU.nd rfl (Or.inl rfl)) (aH (bL (aQ (oE hu) (pv 4) (pv 1) (nomark _)) (aH (bZ (fI df PySem.F.slot_list_extend PySem.F.type_list_extend iH (pv 3) (aA (aM t (hr.mono (by decide)) pass0 rfl (aA (pv 0) (aA (pv 4) aB))) aB)))) aR)))
   (aC (bL (eK (aV K rfl (pv 3) (λ_=>rfl))) (aH (aN (pv 1))) aR)
   (aC (bL (aQ (dQ hu) (aL bK rfl T.n_len rfl (aA (pv 3) aB)) aF (nomark _)) (aH (aN (bC bW (pv 3) aF (λ_ _=>rfl)))) aR)
   (aH (aN (cB dM rfl T.n_tuple rfl (aA (bG bT (bQ (aA (pv 0) aB)) (B1 j (hr.mono (by decide)) rfl T.n_sorted rfl (aA (pv 3) aB))) aB)))))))),?_⟩
  simp only[oQ];clear hr F T hu t j;have keep:=aI q (aI G (aI L (aI r (aI v (aI c B)))));clear q G L r v c B
  walk_at "rd"
  obtain⟨q,G,L,r,v,c,B⟩:=keep;refine⟨by decide,λl hl=>⟨ws,.inl (by rw[aE (aG G hl)];exact G),λJ hJ=>?_⟩⟩;have Z:aD H (upd H l (.lst [])):=aD.upd hl;have h1:upd H l (.lst []) l=some (.lst []):=upd_same;generalize upd H l (.lst [])=H1 at Z h1 hJ⊢;have g:∀i,(opn n z (ds.take i)).length<=60:=λi=>by have h1:=sE (opn n z (ds.take i));have I:=B3 n z (ds.take i);have h3:=HX i ds;omega
  have lw:=Reps.len L;refine gQ hJ (UJ a l n z ds H) ⟨[],none,rfl,h1,Z,rfl⟩ (by rintro i σ H' _ ⟨_,_,_,_,s2,_⟩;rw[s2 _ _ G,Z _ _ G]) ?_ ?_
  ·rintro i x σ H2 hx ⟨us,o,rfl,I,s2,C⟩;obtain⟨d,hd,rx⟩:=Reps.get L hx;have N:=r.get hd;have dd:=i5 hd;have keep:=aI q (aI G (aI L (aI r (aI v (aI c (aI B (aI hl (aI I (aI s2 (aI C (aI hd (aI rx (aI N (aI dd g))))))))))))));clear q G L r v c B hl I s2 C hd rx N dd g Z h1 hJ hx
   walk_at "rd"
   obtain⟨q,G,L,r,v,c,B,hl,I,s2,C,hd,rx,N,dd,g⟩:=keep;refine⟨d,.str z,aZ.same s2 rx,rfl,by omega,_,rfl,?_⟩;have R:=Reps.len C;have W:=PM n z d N;cases S:eqD d (.str z)with
   | true =>
    rw[ab (by decide)];rw[S,ai rfl]at W;exact⟨us,_,rfl,I,s2,by rw[bD hd,pI,W,bn];exact C⟩
   | false =>
    rw[ai (by decide)];rw[S,ab (by decide)]at W;refine⟨tyL I,n,d,x,rfl,aZ.same s2 rx,N,λl2 Y H3 s3 hl2 h3 r3=>?_⟩;have l3:=s3 _ _ I;have lv:=Reps.len r3;have sm:=g (i+1);rw[bD hd,pI,aq,W]at sm;have f2:Fls (opn n z (ds.take i)++opP n d):=by rw[←W,←pI,←bD hd];exact tM (eD λe S=>bM r e (List.mem_of_mem_take S))
    refine⟨l,l2,us,Y,rfl,rfl,l3,.inl h3,ao (m:=100) (by omega) (by decide),us++Y,_,rfl,upd_same,λb o hb=>by rw[aE (aG hb hl)];exact s3 _ _ (s2 _ _ hb),?_⟩;rw[bD hd,pI,W];exact Reps.tups (aX.lst l3) f2 (Reps.append (Reps.same s3 C) (Reps.same s3 r3))
  ·rintro σ H2 ⟨us,o,rfl,I,s2,C⟩;rw[lw,bw]at C;have keep:=aI q (aI G (aI L (aI r (aI v (aI c (aI B (aI hl (aI I (aI s2 (aI C g))))))))));clear q G L r v c B hl I s2 C g Z h1 hJ
   walk_at "rd"
   obtain⟨q,G,L,r,v,c,B,hl,I,s2,C,g⟩:=keep;have U:=tM (n:=n) (z:=z) r;have R:=Reps.len C;have sm:=g ds.length;rw[bw]at sm;have nn:=xV n z ds;refine⟨!us.isEmpty,.inl ⟨us,dN.of I,rfl⟩,?_⟩;generalize hos:opn n z ds=os at U R sm nn C q;clear hos
   match os,U,R,sm,nn,C,q with
   | [],U,R,sm,nn,C,q =>
    cases (show us=[]from C);rw[ai (by decide)];exact q _ _ s2 rfl
   | [d],U,R,sm,nn,⟨u,_,e,h,e'⟩,q =>
    subst e;cases (show _=[]from e');rw[ab (by simp),ai (by simp)];exact⟨u,atI_zero,q _ _ s2 h⟩
   | d::d2::O,U,R,sm,nn,C,q =>
    have l2:us.length=O.length+2:=by rw[R];rfl
    have ne:us≠[]:=λz=>by rw[z]at l2;simp at l2
    rw[ab (by cases us with|nil=>exact absurd rfl ne|cons a b=>simp),ab (by omega)];refine⟨by decide,λp hp=>?_⟩;have sp:aD H2 (upd H2 p (.lst [.str n])):=aD.upd hp;have hpp:upd H2 p (.lst [.str n]) p=some (.lst [.str n]):=upd_same;generalize upd H2 p (.lst [.str n])=H3 at sp hpp⊢;have all:∀e∈d::d2::O,Fl e:=bM U;refine⟨_,rfl,l,us,d::d2::O,rfl,sp _ _ I,Reps.same sp C,λe S=>⟨all e S,by have:=sM S;omega⟩,by simp,by simp only[ap]at sm⊢;omega,λl' X es H4 s4 hl' h4 pm so re=>?_⟩;have ees:=FM all pm so;have ly:=Reps.len re;have le:=pm.length_eq;refine⟨.lst (.str n::X),nI (s4 _ _ hpp) h4 (ao (m:=100) (by simp only[ap,List.length_nil]at sm le⊢;omega) (by decide)),λp5 hp5=>⟨.str n::X,.inl upd_same,λl6 H6 hc=>?_⟩⟩;rcases hc with⟨hc,_⟩|⟨_,hl6,rfl⟩
    ·cases hc
    ·have s6:aD H4 (upd (upd H4 p5 (.lst (.str n::X))) l6 (.tup (.str n::X))):=(aD.upd hp5).trans (aD.upd hl6);refine q _ _ ((s2.trans (sp.trans s4)).trans s6) ?_;rw[JO (by rw[(bU _).length_eq];simp),←ees];exact⟨l6,_,rfl,upd_same,.str n,X,rfl,rfl,Reps.same (s4.trans s6) re⟩
def vR (K:PySem.W.Frag)(C:Addr):Sp:=λvs H Q _=>∃(g:Addr) (fx:cH) (sm:bH) (n:Str) (a:Addr) (ds:List D) (ws:List V),vs=[.ref g,.str n,.ref a]/\iK K C fx sm H g/\H a=some (.lst ws)/\Reps H ds ws/\Fls ds/\szs ds<=60/\ndss ds<=1000/\depDs ds<=50 /\
 ∀(b:V) (H':Hp),aD H H'->aZ H' (knot sm n ds) b->Q b H'
theorem B7 {f C:Addr}{O:FuncData}(F:gG K "flat_of_parts" "flat_of_parts" fL f O)(T:Txt mg)(c:BF P w K mg base bN 1 C "nought" (jY K C))(b:dP P w K mg base bN 5 "flat_sum" vS):bY P w K mg base bN 6 f O lH (vR K C):=by
 refine F.ok jZ (λvs H Q E h=>?_) (λY A outer s H vs Q E u h=>?_)
 ·obtain⟨g,N,sm,n,a,ds,o,rfl,_⟩:=h;rfl
 ·obtain⟨g,N,sm,n,a,ds,o,rfl,sg,t,r,j,e,d,l,q⟩:=h;have S:=u.units
  refine⟨_,(aC (aU (i:=3) jZ.nd rfl (Or.inl rfl) (oB c (u.mono (by decide)) pass0 (pv 0) (aA (pv 1) aB)))
   (aC (bL (aQ xY (pv 3) iZ (nomark _)) (aH (aN (cB dM rfl T.n_tuple rfl (aA (bG bT (bQ (aA (pv 1) aB)) (pv 2)) aB)))) aR)
   (aH (aN (aM b (u.mono (by decide)) pass0 rfl (aA (pv 1) (aA (pv 3) (aA (pv 2) aB)))))))),?_⟩
  simp only[iB];clear u F T S c b;have keep:=aI q (aI t (aI r (aI j (aI e (aI d (aI l sg))))));clear q t r j e d l sg
  walk_at "rd"
  obtain⟨q,t,r,j,e,d,l,sg⟩:=keep;obtain⟨X,fs,_,_,W,_,U,_⟩:=sg.ex;refine⟨_,rfl,g,X,fs,rfl,W,U,_,rfl,g,n,N,sm,rfl,sg,?_⟩;unfold knot at q;cases hz:zr sm n with
  | none =>
   have G:nulV sm n = .non:=by unfold nulV;rw[hz];rfl
   rw[hz]at q;rw[G,ai rfl];have Z:=Reps.len r;have:=sE ds;refine⟨by decide,λp L=>⟨.lst (.str n::o),nI upd_same (by rw[aE (aG t L)];exact t) (ao (m:=100) (by simp;omega) (by decide)),λR v=>⟨.str n::o,.inl upd_same,λJ H6 B=>?_⟩⟩⟩;rcases B with⟨B,_⟩|⟨_,x,rfl⟩
   ·cases B
   ·have I:aD H (upd (upd (upd H p (.lst [.str n])) R (.lst (.str n::o))) J (.tup (.str n::o))):=((aD.upd L).trans (aD.upd v)).trans (aD.upd x);exact q _ _ I ⟨J,_,rfl,upd_same,.str n,o,rfl,rfl,Reps.same I r⟩
  | some z =>
   have G:nulV sm n = .str z:=by unfold nulV;rw[hz];rfl
   rw[hz]at q;rw[G,ab (by simp)];exact⟨n,z,a,ds,o,rfl,t,r,j,e,d,l,q⟩
noncomputable def pts:D->List D
 | .tup (.str _::ds)=>ds
 | .lst (.str _::ds)=>ds
 | _=>[]
noncomputable def stk:List D->List D
 | []=>[]
 | x::S=>x::(stk S).drop (pts x).length
mutual
theorem xF:∀{d:D},Wk d->∀S:List D,stk (wlk d++S)=d::stk S
 | .str x,_,S=>by unfold wlk;show stk (.str x::S)=_;rw[stk];rfl
 | .tup (.str n::ds),h,S=>by
  unfold Wk at h;rw[wlk,List.cons_append,stk,lR h S];show _::(ds++stk S).drop ds.length=_;rw[List.drop_left]
 | .lst (.str n::ds),h,S=>by
  unfold Wk at h;rw[wlk,List.cons_append,stk,lR h S];show _::(ds++stk S).drop ds.length=_;rw[List.drop_left]
 | .non,h,_ | .bl _,h,_ | .int _,h,_ | .tup [],h,_ | .lst [],h,_ | .tup (.non::_),h,_ | .tup (.bl _::_),h,_ | .tup (.int _::_),h,_ | .tup (.tup _::_),h,_ | .tup (.lst _::_),h,_ | .lst (.non::_),h,_ | .lst (.bl _::_),h,_ | .lst (.int _::_),h,_ | .lst (.tup _::_),h,_ | .lst (.lst _::_),h,_=>by unfold Wk at h;exact absurd h id
theorem lR:∀{ds:List D},Wks ds->∀S:List D,stk (wlks ds++S)=ds++stk S
 | [],_,S=>rfl
 | d::ds,⟨a,b⟩,S=>by rw[wlks,cp,xF a,lR b];rfl
end
mutual
theorem qD:∀{d:D},Wk d->∀{pre S:List D} {x:D},wlk d=pre++x::S->∃rest,S=wlks (pts x)++rest
 | .str y,_,pre,S,x,e=>by
  unfold wlk at e;cases pre with
  | nil=>cases e;exact⟨[],rfl⟩
  | cons p pre=>have:=congrArg List.length e;simp at this
 | .tup (.str n::ds),h,pre,S,x,e=>by
  unfold Wk at h;rw[wlk]at e;cases pre with
  | nil=>cases e;exact⟨[],by simp[pts]⟩
  | cons p pre=>injection e with _ e;exact kE h e
 | .lst (.str n::ds),h,pre,S,x,e=>by
  unfold Wk at h;rw[wlk]at e;cases pre with
  | nil=>cases e;exact⟨[],by simp[pts]⟩
  | cons p pre=>injection e with _ e;exact kE h e
 | .non,h,_,_,_,_ | .bl _,h,_,_,_,_ | .int _,h,_,_,_,_ | .tup [],h,_,_,_,_ | .lst [],h,_,_,_,_ | .tup (.non::_),h,_,_,_,_ | .tup (.bl _::_),h,_,_,_,_ | .tup (.int _::_),h,_,_,_,_ | .tup (.tup _::_),h,_,_,_,_ | .tup (.lst _::_),h,_,_,_,_ | .lst (.non::_),h,_,_,_,_ | .lst (.bl _::_),h,_,_,_,_ | .lst (.int _::_),h,_,_,_,_ | .lst (.tup _::_),h,_,_,_,_ | .lst (.lst _::_),h,_,_,_,_=>by unfold Wk at h;exact absurd h id
theorem kE:∀{ds:List D},Wks ds->∀{pre S:List D} {x:D},wlks ds=pre++x::S->∃rest,S=wlks (pts x)++rest
 | [],_,pre,S,x,e=>by have:=congrArg List.length e;simp[wlks]at this
 | d::ds,⟨a,b⟩,pre,S,x,e=>by
  rw[wlks]at e;rcases List.append_eq_append_iff.mp e with⟨m,f,c⟩|⟨m,f,c⟩
  ·exact kE b c
  ·cases m with
   | nil=>exact kE b (pre:=[]) (by simpa using c.symm)
   | cons y m =>
    injection c with i h;subst i;obtain⟨rest,g⟩:=qD a f;exact⟨rest++wlks ds,by rw[h,g];show(wlks (pts x)++rest)++wlks ds=_;rw[cp]⟩
end
theorem xG:∀{S:List D} {y:D},y∈stk S->y∈S
 | x::S,y,h=>by
  rw[stk]at h;obtain rfl|h:=cu.mp h
  ·exact av
  ·exact ay _ (xG (List.mem_of_mem_drop h))
theorem xH:∀S:List D,(stk S).length<=S.length
 | []=>ac _
 | x::S=>by rw[stk,ap,ap,bx];have:=xH S;omega
theorem kW {l:List D}(h:Fls l):Fls l.reverse:=eD λd hd=>bM h d (List.mem_reverse.mp hd)
theorem pQ {l:List D}(h:Fls l)(k:Nat):Fls (l.drop k):=eD λd hd=>bM h d (List.mem_of_mem_drop hd)
theorem AS {l:List D}(h:Fls l)(k:Nat):Fls (l.take k):=eD λd hd=>bM h d (List.mem_of_mem_take hd)
theorem wH (sm:bH)(l:List D)(k:Nat):flts sm (l.drop k)=(flts sm l).drop k:=by rw[cT,cT,List.map_drop]
structure Sub (d x:D):Prop where
 tm:Tm x
 sz:sz x<=sz d
 nd:nds x<=nds d
 dp:depD x<=depD d
mutual
theorem oU:∀{d:D},Tm d->∀x∈wlk d,Sub d x
 | .str y,h,x,f=>by unfold wlk at f;rw[cs.mp f];exact⟨h,ac _,ac _,ac _⟩
 | .tup (.str n::ds),h,x,f=>by
  rw[wlk]at f;obtain rfl|f:=cu.mp f
  ·exact⟨h,ac _,ac _,ac _⟩
  ·unfold Tm at h;obtain⟨a,b,c,e⟩:=tB h.2 x f;exact⟨a,by rw[sz];omega,by rw[nds];omega,by rw[depD,depDs];omega⟩
 | .lst (.str n::ds),h,x,f=>by
  rw[wlk]at f;obtain rfl|f:=cu.mp f
  ·exact⟨h,ac _,ac _,ac _⟩
  ·unfold Tm at h;obtain⟨a,b,c,e⟩:=tB h.2 x f;exact⟨a,by rw[sz];omega,by rw[nds];omega,by rw[depD,depDs];omega⟩
 | .non,h,_,_ | .bl _,h,_,_ | .int _,h,_,_ | .tup [],h,_,_ | .lst [],h,_,_ | .tup (.non::_),h,_,_ | .tup (.bl _::_),h,_,_ | .tup (.int _::_),h,_,_ | .tup (.tup _::_),h,_,_ | .tup (.lst _::_),h,_,_ | .lst (.non::_),h,_,_ | .lst (.bl _::_),h,_,_ | .lst (.int _::_),h,_,_ | .lst (.tup _::_),h,_,_ | .lst (.lst _::_),h,_,_=>by unfold Tm at h;exact absurd h id
theorem tB:∀{ds:List D},Tms ds->∀x∈wlks ds,Tm x/\sz x<=szs ds/\nds x<=ndss ds/\depD x<=depDs ds
 | d::ds,⟨a,b⟩,x,c=>by
  rw[wlks]at c;obtain c|c:=cx.mp c
  ·obtain⟨e,h,g,f⟩:=oU a x c;exact⟨e,by rw[szs];omega,by rw[ndss];omega,by rw[depDs];omega⟩
  ·obtain⟨e,h,g,f⟩:=tB b x c;exact⟨e,by rw[szs];omega,by rw[ndss];omega,by rw[depDs];omega⟩
end
mutual
theorem qG:∀{d:D},Tm d->Wk d
 | .str x,h=>trivial
 | .tup (.str n::ds),h=>by unfold Wk;unfold Tm at h;exact lP h.2
 | .lst (.str n::ds),h=>by unfold Wk;unfold Tm at h;exact lP h.2
 | .non,h | .bl _,h | .int _,h | .tup [],h | .lst [],h | .tup (.non::_),h | .tup (.bl _::_),h | .tup (.int _::_),h | .tup (.tup _::_),h | .tup (.lst _::_),h | .lst (.non::_),h | .lst (.bl _::_),h | .lst (.int _::_),h | .lst (.tup _::_),h | .lst (.lst _::_),h=>by unfold Tm at h;exact absurd h id
theorem lP:∀{ds:List D},Tms ds->Wks ds
 | [],_=>trivial
 | _::_,⟨a,b⟩=>⟨qG a,lP b⟩
end
theorem MZ (n z:Str)(l:List D):nds (one n z l)<=1+ndss l:=by
 unfold one;split
 ·show nds (.str z)<=_;unfold nds;omega
 ·rw[ndss,ndss];omega
 ·rw[nds];omega
theorem GD {l m:List D}(p:l.Perm m):ndss l=ndss m:=by
 induction p with
 | nil=>rfl
 | cons x _ c=>rw[ndss,ndss,c]
 | swap x y l=>rw[ndss,ndss,ndss,ndss];omega
 | trans _ _ a b=>exact a.trans b
theorem AI (sm:bH)(n:Str)(ps:List D):nds (knot sm n ps)<=1+ndss ps:=by
 unfold knot;split
 ·rw[nds];omega
 ·rename_i z _;have a:=MZ n z (fQ (opn n z ps));rw[GD (bU _)]at a;have b:=xV n z ps;omega
mutual
theorem NS (sm:bH):∀d:D,nds (flt sm d)<=nds d
 | .tup (.str n::ds)=>by rw[flt,nds];have:=AI sm n (flts sm ds);have:=pN sm ds;omega
 | .lst (.str n::ds)=>by rw[flt,nds];have:=AI sm n (flts sm ds);have:=pN sm ds;omega
 | .non | .bl _ | .int _ | .str _ | .tup [] | .lst [] | .tup (.non::_) | .tup (.bl _::_) | .tup (.int _::_) | .tup (.tup _::_) | .tup (.lst _::_) | .lst (.non::_) | .lst (.bl _::_) | .lst (.int _::_) | .lst (.tup _::_) | .lst (.lst _::_)=>by unfold flt;exact ac _
theorem pN (sm:bH):∀ds:List D,ndss (flts sm ds)<=ndss ds
 | []=>ac _
 | d::ds=>by rw[flts,ndss,ndss];have:=NS sm d;have:=pN sm ds;omega
end
theorem NP {x a:Str}{st:Stmt}{f:Addr}{m:Value}{od l:Option Addr}{osl:Array (Option Value)}{kV d j b ct:Value}{N ps:aS}{k:Nat}{e:Sp}(o:K.lookup f=some ⟨m,od,.func (PySem.W.fnOf x a (c6 st) (cP st) (aJ st) .none kV d j l b ct),osl⟩)(i:PySem.W.codeIn K b a=true)(S:aT N ps (aJ st))(len:∀vs H Q E,e vs H Q E->vs.length=ps.length)
  (c:∀(A:Around) (outer:List Env) (s:Shared) (H:Hp) (vs:List V) (Q:VK) (E:XK),eP k (A.deeper (PyProof.Rows.envOfC a (aJ st) s.heap.objs.size f b))->e vs H Q E ->
   ∃t,FC (cxOf bN P w K mg base N a (aJ st) f b A outer s H E).nox (cP st) t/\t {nx:=λ_ H'=>Q .non H',rt:=Q} (start N vs) H):bY P w K mg base bN (k+1) f (PySem.W.fnOf x a (c6 st) (cP st) (aJ st) .none kV d j l b ct) ps e:=by
 refine OG o i S len λA outer s H vs Q E p g=>?_;obtain⟨t,h,q⟩:=c A outer s H vs Q E p g;exact⟨t,h.nox,q⟩
mutual
theorem aZ.but {H H':Hp}{p:Addr}(b:cG p H H')(n1:∀xs,H p≠some (.tup xs))(n2:∀xs,H p≠some (.lst xs)):∀{d:D} {v:V},aZ H d v->aZ H' d v
 | .non,v,h | .bl _,v,h | .int _,v,h | .str _,v,h=>h
 | .tup ds,v,⟨a,vs,f,c,e⟩=>⟨a,vs,f,b a _ (λz=>n1 vs (z ▸ c)) c,Reps.but b n1 n2 e⟩
 | .lst ds,v,⟨a,vs,f,c,e⟩=>⟨a,vs,f,b a _ (λz=>n2 vs (z ▸ c)) c,Reps.but b n1 n2 e⟩
theorem Reps.but {H H':Hp}{p:Addr}(b:cG p H H')(n1:∀xs,H p≠some (.tup xs))(n2:∀xs,H p≠some (.lst xs)):∀{ds:List D} {vs:List V},Reps H ds vs->Reps H' ds vs
 | [],vs,h=>h
 | d::ds,vs,⟨v,r,e,c,a⟩=>⟨v,r,e,aZ.but b n1 n2 c,Reps.but b n1 n2 a⟩
end
structure RB (fx:cH)(sm:bH)(os:aS)(d:D):Prop where
 so:bF fx sm
 ho:∀x∈os,c4 x
 tm:bB fx sm os d
 lv:lvs d<=50
 nd:nds d<=1000
 dp:depD d<=50
theorem HS {a:cH}{sm:bH}{os:aS}{d:D}(t:RB a sm os d):Fl (flt sm d):=(qW (eW t.so) (nN t.so t.ho t.tm).1).1
def lT:Sp:=λvs H Q _=>∃(p a:Addr) (fx:cH) (fv:List V),vs=[.ref p,.ref a]/\aP H p/\H a=some (.lst fv)/\cX H fx fv/\a≠p/\(∀j,j<5->∃x,fx[j]?=some (x,0))/\∀(x:Str) (H':Hp),cG p H H'->aP H' p->(x∈wi31∨x∈zeros fx)->Q (.str x) H'
theorem cX.at_ {H:Hp}:∀{l:cH} {vs:List V} {i:Nat} {r:Str×Int},cX H l vs->l[i]?=some r->∃t,vs[i]?=some (.ref t)/\H t=some (.tup [.str r.1,.int r.2])
 | [],_,_,_,_,e=>by simp at e
 | r::_,_,0,_,⟨t,us,e,h,q⟩,k=>by subst e;simp at k;subst k;exact⟨t,rfl,h⟩
 | _::_,_,i+1,_,⟨t,us,e,h,q⟩,k=>by subst e;simp at k;obtain⟨t,b,a⟩:=cX.at_ q k;exact⟨t,by simpa using b,a⟩
theorem NC {f:Addr}{I:FuncData}(F:gG K "_law_leaf" "_law_leaf" jJ f I)(T:Txt mg)(b:dP P w K mg base bN 1 "_law_take" fP):bY P w K mg base bN 2 f I rR lT:=by
 refine F.ok pB (λvs H Q E h=>?_) (λR A outer s H vs Q E e h=>?_)
 ·obtain⟨p,a,O,G,rfl,_⟩:=h;rfl
 ·obtain⟨p,a,O,G,rfl,C,N,g,l,J,q⟩:=h;have B:=e.units
  refine⟨_,(aC (aU (i:=2) pB.nd rfl (Or.inl rfl) (aM b (e.mono (by decide)) pass0 rfl (aA (pv 0) (aA aF aB))))
   (aC (bL (aQ (kQ B) (pv 2) aF (nomark _)) (aH (aN (bC bW (bQ (aA cJ (aA cJ (aA cJ (aA cJ aB))))) (pv 2) (λ_ _=>rfl)))) aR)
   (aH (aN (bC bW (bC bW (pv 1) (bG fC (pv 2) aF) (λ_ _=>rfl)) aF (λ_ _=>rfl)))))),?_⟩
  clear e F T b B;refine⟨_,rfl,p,9,rfl,C,by decide,by decide,λd x y U S=>⟨_,rfl,.inl (.inl ⟨_,_,rfl,rfl,_,rfl,ite2 (λc=>?_) (λc=>?_)⟩)⟩⟩
  ·have c:d<4:=by simpa using c
   refine⟨show 4<=sizeLine by decide,λr e=>⟨_,rfl,?_⟩⟩;have q':=λx L=>q x _ ((cG.upd p H (.lst [.int _,.int _])).trans (cG.new (p:=p) (o:=.lst [.str "?x",.str "?1",.str "?0z9",.str "?zzzzzzzz"]) e)) (aP.but ⟨_,_,upd_same⟩ (aP.ne ⟨_,_,upd_same⟩ e)) (.inl L);have:d=0∨d=1∨d=2∨d=3:=by omega
   rcases this with rfl|rfl|rfl|rfl
   ·exact⟨.str "?x",by rw[ixV_l upd_same];rfl,q' _ (by decide)⟩
   ·exact⟨.str "?1",by rw[ixV_l upd_same];rfl,q' _ (by decide)⟩
   ·exact⟨.str "?0z9",by rw[ixV_l upd_same];rfl,q' _ (by decide)⟩
   ·exact⟨.str "?zzzzzzzz",by rw[ixV_l upd_same];rfl,q' _ (by decide)⟩
  ·have c:¬d<4:=by simpa using c
   obtain⟨j,hj,h5⟩:∃j:Nat,d - 4=(j:Int)/\j<5:=⟨(d - 4).toNat,by omega,by omega⟩
   obtain⟨z,hz⟩:=J j h5;have v:=aX.pot (o:=.lst [.int x,.int y]) C;obtain⟨t,u,m⟩:=(g.same v).at_ hz;refine⟨_,rfl,_,rfl,_,_,rfl,rfl,.ref t,?_,.str z,by rw[ixV_t m];rfl,q z _ (cG.upd _ _ _) ⟨_,_,upd_same⟩ (.inr ?_)⟩
   ·dsimp only;rw[hj,ixV_l (xs:=G) (by rw[aE l];exact N)];exact iJ u
   ·exact cy.mpr ⟨(z,0),db.mpr ⟨bi hz,rfl⟩,rfl⟩
def RC (p t:Addr)(a:cH)(sm:bH)(H:Hp):Prop:=aP H p/\LD p t a sm H/\bF a sm/\RZ a sm
theorem RC.but {p t:Addr}{a:cH}{sm:bH}{H H':Hp}(h:RC p t a sm H)(c:cG p H H')(b:aP H' p):RC p t a sm H':=⟨b,h.2.1.but c h.1,h.2.2⟩
def oX:Sp:=λvs H Q _=>∃(p t:Addr) (fx:cH) (sm:bH) (b:Nat),vs=[.ref p,.ref t,.int b]/\RC p t fx sm H/\2<=b/\b<=40/\∀(u:Addr) (n:Str) (k:Nat) (H':Hp),cG p H H'->aP H' p->H' u=some (.tup [.str n,.int k])->nM fx sm n k->k<=b->Q (.ref u) H'
def SY (c:cH)(b:Nat)(H:Hp)(i:Nat)(a:List V)(σ:St)(H':Hp):Prop:=H'=H/\(∃o:Option V,σ=[o,some (.int b)])/\cX H ((c.take i).filter λr=>decide (1<=r.2) && decide (r.2<=(b:Int))) a
theorem NE {f:Addr}{fd:FuncData}(F:gG K "_law_head" "_law_head" gZ f fd)(T:Txt mg)(g:dP P w K mg base bN 1 "_law_take" fP):bY P w K mg base bN 2 f fd rS oX:=by
 refine F.ok kH (λvs H Q E h=>?_) (λcdv A outer s H vs Q E G h=>?_)
 ·obtain⟨p,t,fx,sm,b,rfl,_⟩:=h;rfl
 ·obtain⟨p,t,fx,sm,b,rfl,h0,b2,b40,q⟩:=h;have hu:=G.units
  refine⟨_,(aC (gB (pv 1) (dI K rfl (i:=3) (j:=4) rfl kH.nd rfl rfl rfl rfl))
   (aC (bL (aQ (dQ hu) (aM g (G.mono (by decide)) pass0 rfl (aA (pv 0) (aA aF aB))) aF (nomark _)) (aH (aN (bE (aA (bC bW (bC bW (pv 4) (aM g (G.mono (by decide)) pass0 rfl (aA (pv 0) (aA (aL bK rfl T.n_len rfl (aA (pv 4) aB)) aB))) (λ_ _=>rfl)) aF (λ_ _=>rfl)) (aA (bG bT aF (aM g (G.mono (by decide)) pass0 rfl (aA (pv 0) (aA (bG fC (pv 2) aF) aB)))) aB))))) aR)
   (aC (gM (i:=5) kH.nd rfl rfl rfl rfl (bJ.by (N:=mU) (names:=(aJ gZ).names) (N':=["_law_pair","_law_budget"]) (src:=[none,some 2]) (by decide +kernel) rfl rfl) (cQ K rfl (pv 3)) (λ_ _ _ _=>(bA (i:=0) (show List.Nodup (["_law_pair","_law_budget"]:aS)by decide +kernel) rfl (Or.inl rfl))) (λ_ _ _ _=>(sF (j7 mF mF aF (bC bW (pv 0) aF (λ_ _=>rfl)) (pv 1)))) (λ_ _ _ _=>(pv 0)))
   (aH (aN (bC bW (pv 5) (aM g (G.mono (by decide)) pass0 rfl (aA (pv 0) (aA (aL bK rfl T.n_len rfl (aA (pv 5) aB)) aB))) (λ_ _=>rfl))))))),?_⟩
  clear G F T g hu;simp only[dF];obtain⟨hp,⟨fa,sa,fv,sv,t1,t2,t3,t4,t5,nfp,nsp⟩,so,sg⟩:=id h0;refine⟨_,rfl,t,_,rfl,gF.of t1,rfl,_,_,rfl,_,_,rfl,rfl,?_⟩;refine⟨_,rfl,p,2,rfl,hp,by decide,by decide,λd x y d0 d1=>?_⟩;have U:aP (upd H p (.lst [.int x,.int y])) p:=⟨_,_,upd_same⟩
  have O:cG p H (upd H p (.lst [.int x,.int y])):=cG.upd p H _;have h1:=h0.but O U;have f1:upd H p (.lst [.int x,.int y]) fa=some (.lst fv):=by rw[aE nfp];exact t2
  have s1:upd H p (.lst [.int x,.int y]) sa=some (.lst sv):=by rw[aE nsp];exact t3
  have r1:=t4.same (aX.pot (o:=.lst [.int x,.int y]) hp);have S:=t5.same (aX.pot (o:=.lst [.int x,.int y]) hp);generalize upd H p (.lst [.int x,.int y])=H1 at U O h1 f1 s1 r1 S⊢;have ls:=S.len;have len1:∀{l:Addr} {xs:List V} {H':Hp},H' l=some (.lst xs)->(Option.map (λn=>V.int n) do let a ←lenV H' (.ref l);pure (a:Int))=some (.int xs.length):=λh=>by rw[lenV_l h];rfl
  refine⟨.int d,.int 0,rfl,rfl,au _,_,rfl,bX (λc=>?_) (λc=>?_)⟩
  ·refine⟨_,rfl,_,rfl,_,rfl,_,_,rfl,len1 s1,p,sv.length,rfl,U,by have:=sg.2.2;omega,by have:=so.s2;omega,λe Y X e0 e1=>?_⟩;obtain⟨r,I,G,htt,ht⟩:∃r I,sm[e.toNat]?=some r/\sv[e.toNat]?=some (.ref I)/\H1 I=some (.tup [.str r.1,.str r.2]):=by
    obtain⟨v,W⟩:∃v,sv[e.toNat]?=some v:=⟨_,aw (by omega)⟩
    obtain⟨r,I,h1,rfl,h3⟩:=S.get W;exact⟨r,I,h1,W,h3⟩
   have Z:aP (upd H1 p (.lst [.int Y,.int X])) p:=⟨_,_,upd_same⟩
   have L:=O.trans (cG.upd p H1 (.lst [.int Y,.int X]));have s2:upd H1 p (.lst [.int Y,.int X]) sa=some (.lst sv):=by rw[aE nsp];exact s1
   have t2':=aX.pot (o:=.lst [.int Y,.int X]) U _ _ ht;generalize upd H1 p (.lst [.int Y,.int X])=H2 at Z L s2 t2'⊢;refine⟨.ref I,by rw[ixV_l s2,uK e0 e1];exact htt,.str r.1,by rw[ixV_t t2'];rfl,_,rfl,_,rfl,_,_,rfl,rfl,p,_,rfl,Z,by omega,by omega,λk x2 y2 k0 k1=>.inl ⟨_,rfl,show 2<=sizeLine by decide,λu hu=>?_⟩⟩;obtain⟨kk,hk⟩:∃kk:Nat,2+k=(kk:Int):=⟨(2+k).toNat,by omega⟩
   rw[hk];have p3:aP (upd H2 p (.lst [.int x2,.int y2])) p:=⟨_,_,upd_same⟩
   exact q u r.1 kk _ ((L.trans (cG.upd p H2 _)).trans (cG.new hu)) (p3.but (p3.ne hu)) upd_same (.inr ⟨by omega,cy.mpr ⟨r,bi G,rfl⟩⟩) (by omega)
  ·refine⟨_,rfl,fa,fv,rfl,.inl f1,λJ hJ=>cU hJ (SY fx b H1) ⟨rfl,⟨none,rfl⟩,rfl⟩ (λi B σ H' _ h=>by rw[h.1]) ?_ ?_⟩
   ·rintro i v B σ H' W ⟨rfl,⟨o,rfl⟩,C⟩;obtain⟨r,I,G,rfl,ht⟩:=r1.get W;have la:B.length<sizeLine:=aj (m:=12) (by rw[C.len];exact ao (List.length_filter_le _ _) (by rw[bv];have:=so.f2;omega)) (by decide);have no:(decide (1<=r.2) && decide (r.2<=(b:Int)))=false->SY fx b H' (i+1) B [some (.ref I),some (.int b)] H':=λz=>⟨rfl,⟨_,rfl⟩,by rw[bD G,List.filter_append,List.filter_cons_of_neg (by rw[z];decide),List.filter_nil,bn];exact C⟩
    refine⟨_,rfl,.int r.2,by rw[ixV_t ht];rfl,_,_,rfl,rfl,_,rfl,bX (λO=>⟨_,rfl,_,_,rfl,rfl,_,rfl,bX (λL=>?_) (λL=>?_)⟩) (λO=>⟨_,rfl,?_⟩)⟩
    ·refine⟨_,rfl,la,rfl,⟨_,rfl⟩,?_⟩;rw[bD G,List.filter_append,List.filter_cons_of_pos (by rw[O,L];rfl),List.filter_nil];exact C.snoc ht
    ·exact no (by rw[L,Bool.and_false])
    ·exact no (by rw[O,Bool.false_and])
   ·rintro B σ H' ⟨rfl,⟨o,rfl⟩,C⟩ l hl;rw[r1.len,bw]at C;have Z:=U.but (o:=.lst B) (U.ne hl);have L:=O.trans (cG.new (p:=p) (o:=.lst B) hl);have l2:upd H' l (.lst B) l=some (.lst B):=upd_same;have R:=C.same (aX.of (aD.upd (o:=.lst B) hl));have nlp:=(U.ne hl).symm;generalize upd H' l (.lst B)=H2 at Z L l2 R⊢;have la:=R.len;have mem:∀r,r∈fx.filter (λr=>decide (1<=r.2) && decide (r.2<=(b:Int))) ↔ r∈fx/\1<=r.2/\r.2<=(b:Int):=λr=>by rw[db,Bool.and_eq_true,decide_eq_true_iff,decide_eq_true_iff]
    have pos:1<=B.length:=by obtain⟨r,h1,h2⟩:=sg.2.1;rw[la];exact List.length_pos_of_mem ((mem r).mpr ⟨h1,by omega,by omega⟩)
    have le12:B.length<=12:=by rw[la];exact ao (List.length_filter_le _ _) so.f2
    refine⟨_,rfl,_,rfl,_,rfl,_,_,rfl,len1 l2,p,B.length,rfl,Z,by omega,by omega,λe Y X e0 e1=>?_⟩;obtain⟨v,W⟩:∃v,B[e.toNat]?=some v:=⟨_,aw (by omega)⟩
    obtain⟨r,I,G,rfl,ht⟩:=R.get W;obtain⟨g1,g2,g3⟩:=(mem r).mp (bi G);refine⟨.ref I,by rw[ixV_l (xs:=B) (by rw[aE nlp];exact l2),uK e0 e1];exact W,?_⟩;obtain⟨k,hk⟩:∃k:Nat,r.2=(k:Int):=⟨r.2.toNat,by omega⟩
    exact q I r.1 k _ (L.trans (cG.upd p H2 _)) ⟨_,_,upd_same⟩ (by rw[←hk];exact aX.pot Z _ _ ht) (.inl ⟨by omega,by rw[←hk];exact g1⟩) (by omega)
def jX (n:Nat):Sp:=λvs H Q _=>∃(p t:Addr) (fx:cH) (sm:bH) (room deep:Nat),vs=[.ref p,.ref t,.int room,.int deep]/\RC p t fx sm H/\1<=room/\room<=40/\deep<=n /\
 ∀(d:D) (v:V) (H':Hp),cG p H H'->aP H' p->aZ H' d v->bB fx sm wi31 d->Fl d->lvs d<=room->depD d<=deep->Q v H'
def RX (p t rw u:Addr)(a c b:Nat)(nm:Str)(e:cH)(sm:bH)(H:Hp)(i:Nat)(σ:St)(d:Hp):Prop :=
 ∃(left:Nat) (ds:List D) (vs:List V) (o8 o9:Option V),σ=[some (.ref p),some (.ref t),some (.int a),some (.int c),some (.str nm),some (.int b),some (.ref rw),some (.int left),o8,o9] /\
  cG p H d/\aP d p/\d rw=some (.lst (.str nm::vs))/\Reps d ds vs/\ds.length=i/\IsTms e sm wi31 ds/\Fls ds/\lvss ds+left<=a/\b<=left+i/\depDs ds+1<=c
theorem M5 {f:Addr}{fd:FuncData}(n:Nat)(F:gG K "_law_term" "_law_term" fT f fd)(T:Txt mg)(C:dP P w K mg base bN 1 "_law_take" fP)(G:dP P w K mg base bN 2 "_law_leaf" lT)(I:dP P w K mg base bN 2 "_law_head" oX)
  (B:dP P w K mg base bN (n+3) "_law_term" (λvs H Q E=>∃m,m<n/\jX m vs H Q E)):bY P w K mg base bN (n+4) f fd hX (jX n):=by
 refine F.ok dH (λvs H Q E h=>?_) (λcdv A outer s H vs Q E Y h=>?_)
 ·obtain⟨p,t,S,sm,o,l,rfl,_⟩:=h;rfl
 ·obtain⟨p,t,S,sm,o,l,rfl,J,r1,r2,dn,q⟩:=h;have hu:=Y.units
  refine⟨_,(aC (bL (PW.pt (lY (aQ (dQ hu) (pv 2) aF (nomark _)) (iW (aQ (dQ hu) (pv 3) aF (nomark _))))) (aH (aN (aM G (Y.mono (by omega)) pass0 rfl (aA (pv 0) (aA (bC bW (pv 1) aF (λ_ _=>rfl)) aB))))) aR)
   (aC (gB (aM I (Y.mono (by omega)) pass0 rfl (aA (pv 0) (aA (pv 1) (aA (pv 2) aB)))) (dI K rfl (i:=4) (j:=5) rfl dH.nd rfl rfl rfl rfl))
   (aC (aU (i:=6) dH.nd rfl (Or.inl rfl) (bQ (aA (pv 4) aB)))
   (aC (aU (i:=7) dH.nd rfl (Or.inl rfl) (pv 2))
   (aC (fB di rfl (iO rfl T.n_range (aA (pv 5) aB)) (bA (i:=8) dH.nd rfl (Or.inl rfl)) (aC (aU (i:=9) dH.nd rfl (Or.inl rfl) (pv 7))
   (aC (bL (aQ (kQ hu) (pv 8) (bG fC (pv 5) aF) (nomark _)) (aH (aU (i:=9) dH.nd rfl (Or.inl rfl) (bG bT aF (aM C (Y.mono (by omega)) pass0 rfl (aA (pv 0) (aA (bG fC (pv 7) (bG fC (bG fC (pv 5) aF) (pv 8))) aB)))))) aR)
   (aC (bZ (fI df dh dg eI (pv 6) (aA (aM B (Y.mono (by omega)) pass0 rfl (aA (pv 0) (aA (pv 1) (aA (pv 9) (aA (bG fC (pv 3) aF) aB))))) aB)))
   (aH (aU (i:=7) dH.nd rfl (Or.inl rfl) (bG fC (pv 7) (pv 9))))))))
   (aH (aN (cB dM rfl T.n_tuple rfl (aA (pv 6) aB))))))))),?_⟩
  clear Y F T hu C G I B;simp only[eM];have leaf:∀W,cG p H W->aP W p->∀a Z,W a=some (.lst Z)->cX W S Z->a≠p->lT [.ref p,.ref a] W Q E0:=λW b1 p1 a Z ha row na=>by
   refine⟨p,a,S,Z,rfl,p1,ha,row,na,J.2.2.2.1,λx H' b2 R X=>q (.str x) (.str x) H' (b1.trans b2) R rfl (by unfold bB;exact X) ?_ r1 (au _)⟩;unfold Fl;rcases X with X|X
   ·have:∀y∈wi31,1<=y.cps.toList.length/\y.cps.toList.length<=20:=by decide +kernel
    exact this x X
   ·have:=J.2.2.1.nm x (cj _ ((FE S).subset X));exact⟨this.1,ao this.2.1 (by decide)⟩
  obtain⟨hp,⟨fa,sa,Z,sv,t1,t2,t3,t4,t5,nfp,nsp⟩,so,sg⟩:=id J;have lf:=leaf H (cG.refl _ _) hp fa Z t2 t4 nfp;refine⟨_,rfl,.int o,.int 1,rfl,rfl,au _,_,rfl,bX (λc=>?_) (λc1=>⟨_,rfl,.int l,.int 0,rfl,rfl,au _,_,rfl,bX (λc=>?_) (λc2=>?_)⟩)⟩
  ·exact⟨_,rfl,_,rfl,.ref fa,by rw[ixV_t t1];rfl,lf⟩
  ·exact⟨_,rfl,_,rfl,.ref fa,by rw[ixV_t t1];rfl,lf⟩
  have n1:(o:Int)≠1:=λz=>by rw[z]at c1;exact absurd c1 (by decide)
  have n2:(l:Int)≠0:=λz=>by rw[z]at c2;exact absurd c2 (by decide)
  clear lf leaf c1 c2;refine⟨_,rfl,_,rfl,_,rfl,p,t,S,sm,o,rfl,J,by omega,r2,λu nm r W b1 p1 u1 hh hk=>?_⟩;refine⟨u,_,rfl,gF.of u1,rfl,_,_,rfl,_,_,rfl,rfl,_,rfl,show 1<=sizeLine by decide,λrw O=>⟨_,rfl,_,rfl,r,rfl,by omega,by omega,?_⟩⟩;have N:=(p1.ne O).symm;have nrH:H rw=none:=by
   cases e:H rw with
   | none=>rfl
   | some w=>have:=b1 rw w N e;rw[O]at this;cases this
  refine oJ (n:=r) (RX p t rw u o l r nm S sm H) ⟨o,[],[],none,none,rfl,b1.trans (cG.new O),p1.but (p1.ne O),upd_same,rfl,rfl,trivial,trivial,by show 0+o<=o;omega,by omega,by show 0+1<=l;omega⟩ ?_ ?_
  ·rintro i σ H2 hi ⟨left,ds,vs,o8,o9,rfl,b2,R,w2,rp,hl,U,L,lv,mi,dp⟩;have hh2:=Reps.len rp;have step:∀(b:Nat) (H3:Hp) (b3:cG p H2 H3) (p3:aP H3 p) (s1:1<=b) (s2:b<=left) (s3:r<=left - b+(i+1)) (D:hZ) (hD:∀σ H',RX p t rw u o l r nm S sm H (i+1) σ H'->D.nx σ H'),
     tSeq (tDrop (tBM K "list" rAppend (tVar 6) (tCons (tCall (λvs H Q E=>∃m,m<n/\jX m vs H Q E) [] E0 (tCons (tVar 0) (tCons (tVar 1) (tCons (tVar 9) (tCons (tOp (rI0 λi j=>V.int (i - j)) (tVar 3) (tC (V.int 1))) tNil))))) tNil))) (tAsg (tOp (rI0 λi j=>V.int (i - j)) (tVar 7) (tVar 9)) (gName 7)) D
      [some (.ref p),some (.ref t),some (.int o),some (.int l),some (.str nm),some (.int r),some (.ref rw),some (.int left),some (.int (0+i)),some (.int b)] H3:=λb H3 b3 p3 s1 s2 s3 D hD=>by
    have w3:=b3 _ _ N w2;have e2:(l:Int) - 1=((l - 1:Nat):Int):=by omega
    refine⟨_,rfl,.inl ⟨rfl,_,dN.of w3⟩,_,rfl,_,rfl,_,rfl,_,rfl,_,_,rfl,rfl,l - 1,by omega,p,t,S,sm,b,l - 1,(by rw[←e2];rfl),J.but (b2.trans b3) p3,s1,by omega,ac _,λd v H4 b4 p4 rep tm fl lv4 dp4=>?_⟩;have w4:=b4 _ _ N w3;refine⟨rw,_,v,rfl,rfl,w4,aj (m:=100) (by simp only[ap];omega) (by decide),_,rfl,_,rfl,_,_,rfl,rfl,hD _ _ ?_⟩;have tt:aX H2 H4:=(aX.ofBut b3 R).trans (aX.ofBut b4 p3);refine⟨left - b,ds++[d],vs++[v],some (.int (0+i)),some (.int b),?_,C3 ((b2.trans b3).trans b4) nrH,p4.but N.symm,by rw[upd_same];rfl,?_,by rw[aq,hl];rfl,U.snoc tm,?_,?_,s3,?_⟩
    ·rw[Int.ofNat_sub s2];rfl
    ·have t5:aX H4 (upd H4 rw (.lst (.str nm::vs++[v]))):=aX.lst w4;exact Reps.snoc (aZ.tups t5 fl rep) (Reps.tups t5 L (Reps.tups tt L rp))
    ·exact eD λe he=>(cx.mp he).elim (λh=>bM L e h) λh=>by rw[cs.mp h];exact fl
    ·rw[nC];omega
    ·rw[uH];omega
   refine⟨_,rfl,_,rfl,_,rfl,_,_,rfl,rfl,.inl (.inl ⟨_,_,rfl,rfl,_,rfl,ite2 (λc=>?_) (λc=>?_)⟩)⟩
   ·have c:(0:Int)+i<r - 1:=by simpa using c
    obtain⟨m,hm⟩:∃m:Nat,(left:Int) - (r - 1 - (0+i))=(m:Int):=⟨left - (r - 1 - i),by omega⟩
    refine⟨_,rfl,_,rfl,_,rfl,_,_,rfl,rfl,_,rfl,_,_,rfl,rfl,_,_,rfl,rfl,p,m,(by dsimp only;rw[hm];rfl),R,by omega,by omega,λg x y g0 g1=>.inl ⟨_,rfl,?_⟩⟩;obtain⟨k,hk⟩:∃k:Nat,1+g=(k:Int):=⟨(1+g).toNat,by omega⟩
    rw[hk];exact step k _ (cG.upd p H2 _) ⟨_,_,upd_same⟩ (by omega) (by omega) (by omega) _ λ_ _ h=>h
   ·have c:¬(0:Int)+i<r - 1:=by simpa using c
    exact step left H2 (cG.refl _ _) R (by omega) (ac _) (by omega) _ λ_ _ h=>h
  ·rintro σ H2 ⟨left,ds,vs,o8,o9,rfl,b2,R,w2,rp,hl,U,L,lv,mi,dp⟩;refine⟨_,rfl,rw,_,rfl,.inl w2,λtp H3 hc=>?_⟩;rcases hc with⟨z,_⟩|⟨_,ht,rfl⟩
   ·rw[w2]at z;cases z
   refine q (.tup (.str nm::ds)) _ _ (b2.trans (cG.new ht)) (R.but (R.ne ht)) ⟨tp,_,rfl,upd_same,_,_,rfl,rfl,Reps.same (aD.upd ht) rp⟩ ?_ ?_ ?_ ?_
   ·unfold bB;exact⟨by rw[hl];exact hh,U⟩
   ·unfold Fl;exact L
   ·rw[lvs];omega
   ·rw[depD,depDs,show depD (.str nm)=0 from rfl];omega
theorem NR {f:Addr}{d:FuncData}(F:gG K "_law_term" "_law_term" fT f d)(T:Txt mg)(a:dP P w K mg base bN 1 "_law_take" fP)(b:dP P w K mg base bN 2 "_law_leaf" lT)(c:dP P w K mg base bN 2 "_law_head" oX)
  (hm:mg "_law_term" = some (.ref f)) (o:PySem.W.keepIn K (.ref f)=true) (e:eN K d hX []):∀n,bY P w K mg base bN (n+4) f d hX (jX n):=by
 intro n
 induction n using Nat.strongRecOn with
 | ind n i =>
  exact M5 n F T a b c ⟨f,d,_,⟨λvs H Q E ⟨m,g,h⟩=>(i m g).len vs H Q E h,λA outer s H args us vs Q E l p e j ⟨m,g,h⟩=>((i m g).mono (by omega)).run A outer s H args us vs Q E l p e j h⟩,hm,o,e⟩
theorem JE {f:Addr}{d:FuncData}(F:gG K "_law_term" "_law_term" fT f d)(T:Txt mg)(a:dP P w K mg base bN 1 "_law_take" fP)(b:dP P w K mg base bN 2 "_law_leaf" lT)(c:dP P w K mg base bN 2 "_law_head" oX)
  (hm:mg "_law_term" = some (.ref f)) (e:PySem.W.keepIn K (.ref f)=true) (g:eN K d hX []) (n:Nat):dP P w K mg base bN (n+4) "_law_term" (jX n):=⟨f,d,_,NR F T a b c hm e g n,hm,e,g⟩
end
mutual
def NF (sm:bH):D->Prop
 | .tup (.str n::ds)=>NFs sm ds/\∀z,zr sm n=some z->2<=ds.length/\ds.Pairwise leK/\∀e∈ds,opn1 n z e=[e]
 | _=>True
def NFs (sm:bH):List D->Prop
 | []=>True
 | d::ds=>NF sm d/\NFs sm ds
end
theorem x6 {sm:bH}:∀{ds:List D},NFs sm ds->∀d∈ds,NF sm d
 | _::_,⟨a,b⟩,d,h=>by
  obtain rfl|h:=cu.mp h
  ·exact a
  ·exact x6 b d h
theorem JW {sm:bH}:∀{ds:List D},(∀d∈ds,NF sm d)->NFs sm ds
 | [],_=>trivial
 | d::ds,h=>⟨h d av,JW λe k=>h e (ay _ k)⟩
theorem MU {sm:bH}{n z:Str}(hz:zr sm n=some z){d:D}(h:NF sm d):∀e∈opn1 n z d,NF sm e/\opn1 n z e=[e]:=by
 intro e a;have rest:∀d':D,(∀m es,d'≠.tup (.str m::es))->opn1 n z d'=if eqD d' (.str z)=true then []else [d']:=λd' hd=>by
  unfold opn1;split
  ·rename_i m es;exact absurd rfl (hd m es)
  ·rfl
 by_cases c:∃m es,d = .tup (.str m::es)
 ·obtain⟨m,es,rfl⟩:=c;by_cases hm:m=n
  ·subst hm;have b:opn1 m z (.tup (.str m::es))=es:=by rw[opn1,ai rfl]
   rw[b]at a;unfold NF at h;exact⟨x6 h.1 e a,(h.2 z hz).2.2 e a⟩
  ·have b:opn1 n z (.tup (.str m::es))=[.tup (.str m::es)]:=by rw[opn1,ab hm]
   rw[b]at a;cases cs.mp a;exact⟨h,b⟩
 ·have b:=rest d λm es z=>c ⟨m,es,z⟩;by_cases q:eqD d (.str z)=true
  ·rw[b,ai q]at a;cases a
  ·rw[ab q]at b;rw[b]at a;cases cs.mp a;exact⟨h,b⟩
theorem JJ {sm:bH}{n z:Str}(hz:zr sm n=some z){ds:List D}(h:NFs sm ds):∀e∈opn n z ds,NF sm e/\opn1 n z e=[e]:=λe a=>by obtain⟨d,c,b⟩:=List.mem_flatMap.mp a;exact MU hz (x6 h d c) e b
theorem EH {sm:bH}{n:Str}{ps:List D}(f:Fls ps)(h:NFs sm ps):NF sm (knot sm n ps):=by
 unfold knot;cases hz:zr sm n with
 | none =>
  dsimp only;unfold NF;exact⟨h,λz e=>by rw[hz]at e;cases e⟩
 | some z =>
  dsimp only;have c:=bU (opn n z ps);have so:=gN (bM (tM (n:=n) (z:=z) f));have al:∀e∈fQ (opn n z ps),NF sm e/\opn1 n z e=[e]:=λe g=>JJ hz h e (c.mem_iff.mp g);generalize fQ (opn n z ps)=l at so al
  match l,so,al with
  | [],_,_=>unfold one NF;trivial
  | [d],_,al=>exact(al d (cs.mpr rfl)).1
  | d::e::l,so,al =>
   show NF sm (.tup (.str n::d::e::l));unfold NF;refine⟨JW λx b=>(al x b).1,λi a=>?_⟩;rw[hz]at a;cases a;exact⟨by simp,so,λx b=>(al x b).2⟩
mutual
theorem CO {sm:bH}(hz:∀r∈sm,r.2=("" : Str)∨Fl (.str r.2)):∀{d:D},Tm d->NF sm (flt sm d)
 | .str x,_=>by
  have:flt sm (.str x) = .str x:=by unfold flt;rfl
  rw[this];unfold NF;trivial
 | .tup (.str n::ds),h=>by
  unfold Tm at h;rw[flt];exact EH (iI hz h.2).1 (pM hz h.2)
 | .lst (.str n::ds),h=>by unfold Tm at h;rw[flt];exact EH (iI hz h.2).1 (pM hz h.2)
theorem pM {sm:bH}(hz:∀r∈sm,r.2=("" : Str)∨Fl (.str r.2)):∀{ds:List D},Tms ds->NFs sm (flts sm ds)
 | [],_=>trivial
 | d::ds,⟨a,b⟩=>by rw[flts];exact⟨CO hz a,pM hz b⟩
end
theorem wA {sm:bH}{n z:Str}{ps a:List D}(hz:zr sm n=some z)(f:Fls ps)(p:(opn n z ps).Perm (opn n z a)):knot sm n ps=knot sm n a:=by unfold knot;rw[hz];dsimp only;have f1:=bM (tM (n:=n) (z:=z) f);have f2:∀d∈opn n z a,Fl d:=λd hd=>f1 d (p.mem_iff.mpr hd);rw[oA (λd hd=>f1 d ((bU _).mem_iff.mp hd)) ((bU _).trans (p.trans (bU _).symm)) (gN f1) (gN f2)]
theorem qN {sm:bH}{n z:Str}{gs:List D}(hz:zr sm n=some z)(h:NFs sm gs):(opn1 n z (knot sm n gs)).Perm (opn n z gs):=by
 unfold knot;rw[hz];dsimp only;have a:=bU (opn n z gs);have al:∀e∈fQ (opn n z gs),opn1 n z e=[e]:=λe b=>(JJ hz h e (a.mem_iff.mp b)).2;refine List.Perm.trans ?_ a;generalize fQ (opn n z gs)=l at al
 match l,al with
 | [],_ =>
  show(opn1 n z (.str z)).Perm [];have:opn1 n z (.str z)=[]:=by unfold opn1;dsimp only;rw[ai (by simp[eqD])]
  rw[this]
 | [d],al=>rw[show one n z [d]=d from rfl,al d (cs.mpr rfl)]
 | d::e::l,al =>
  show(opn1 n z (.tup (.str n::d::e::l))).Perm _;rw[opn1,ai rfl]
theorem GH {l m:List D}(p:l.Perm m):lvss l=lvss m:=by
 induction p with
 | nil=>rfl
 | cons _ _ a=>rw[lvss,lvss,a]
 | swap _ _ _=>rw[lvss,lvss,lvss,lvss];omega
 | trans _ _ c b=>exact c.trans b
theorem dE {c:cH}{sm:bH}{os:aS}:∀{ds:List D},IsTms c sm os ds->∀d∈ds,bB c sm os d
 | _::_,⟨a,b⟩,d,h=>by
  obtain rfl|h:=cu.mp h
  ·exact a
  ·exact dE b d h
theorem mL {a:cH}{sm:bH}{os:aS}:∀{ds:List D},(∀d∈ds,bB a sm os d)->IsTms a sm os ds
 | [],_=>trivial
 | d::ds,h=>⟨h d av,mL λe k=>h e (ay _ k)⟩
theorem mJ:∀(ds es:List D),lvss (ds++es)=lvss ds+lvss es
 | [],es=>by simp[lvss]
 | d::ds,es=>by rw[List.cons_append,lvss,mJ ds es,lvss];omega
theorem JI {n z:Str}{l m:List D}(p:l.Perm m):(opn n z l).Perm (opn n z m):=by unfold opn;exact p.flatMap_right _
theorem DB {sm:bH}{n z:Str}(h:zr sm n=some z):∃r∈sm,r.1=n/\r.2=z:=by unfold zr at h;obtain⟨r,a,c⟩:=Option.map_eq_some_iff.mp h;have b:=List.find?_some a;exact⟨r,List.mem_of_find?_eq_some a,bu b,c⟩
section
variable {P:Program}{w:World}{K:PySem.W.Frag}{mg:jF}{base:Heap}
mutual
noncomputable def lfs:D->aS
 | .str x=>[x]
 | .tup (.str _::ds)=>lfss ds
 | .lst (.str _::ds)=>lfss ds
 | _=>[]
noncomputable def lfss:List D->aS
 | []=>[]
 | d::ds=>lfs d++lfss ds
end
noncomputable def txD:D->Option Str
 | .str x=>some x
 | _=>none
mutual
theorem LU:∀{d:D},Wk d->(wlk d).filterMap txD=lfs d
 | .str x,_=>by rw[wlk,lfs] <;> simp[txD]
 | .tup (.str n::ds),h=>by
  unfold Wk at h;rw[wlk,lfs,List.filterMap_cons];exact qC h
 | .lst (.str n::ds),h=>by
  unfold Wk at h;rw[wlk,lfs,List.filterMap_cons];exact qC h
 | .non,h | .bl _,h | .int _,h | .tup [],h | .lst [],h | .tup (.non::_),h | .tup (.bl _::_),h | .tup (.int _::_),h | .tup (.tup _::_),h | .tup (.lst _::_),h | .lst (.non::_),h | .lst (.bl _::_),h | .lst (.int _::_),h | .lst (.tup _::_),h | .lst (.lst _::_),h=>by unfold Wk at h;exact absurd h id
theorem qC:∀{ds:List D},Wks ds->(wlks ds).filterMap txD=lfss ds
 | [],_=>by rw[wlks,lfss];rfl
 | d::ds,⟨a,b⟩=>by rw[wlks,lfss,List.filterMap_append,LU a,qC b]
end
mutual
theorem sQ:∀{d:D},Wk d->(lfs d).length=lvs d
 | .str x,_=>by
  have:lvs (.str x)=1:=by rw[lvs] <;> simp
  rw[lfs,this];rfl
 | .tup (.str n::ds),h=>by
  unfold Wk at h;rw[lfs,lvs];exact tT h
 | .lst (.str n::ds),h=>by
  unfold Wk at h;rw[lfs,lvs];exact tT h
 | .non,h | .bl _,h | .int _,h | .tup [],h | .lst [],h | .tup (.non::_),h | .tup (.bl _::_),h | .tup (.int _::_),h | .tup (.tup _::_),h | .tup (.lst _::_),h | .lst (.non::_),h | .lst (.bl _::_),h | .lst (.int _::_),h | .lst (.tup _::_),h | .lst (.lst _::_),h=>by unfold Wk at h;exact absurd h id
theorem tT:∀{ds:List D},Wks ds->(lfss ds).length=lvss ds
 | [],_=>by rw[lfss,lvss];rfl
 | d::ds,⟨a,b⟩=>by rw[lfss,lvss,aq,sQ a,tT b]
end
mutual
theorem HG:∀{d:D},Wk d->∀e∈wlk d,Wk e
 | .str x,h=>λe a=>by
  have:wlk (.str x)=[.str x]:=by rw[wlk] <;> simp
  rw[this,cs]at a;rw[a];exact h
 | .tup (.str n::ds),h=>λe a=>by
  rw[wlk,cu]at a;rcases a with z|z
  ·rw[z];exact h
  ·unfold Wk at h;exact w5 h e z
 | .lst (.str n::ds),h=>λe a=>by
  rw[wlk,cu]at a;rcases a with z|z
  ·rw[z];exact h
  ·unfold Wk at h;exact w5 h e z
 | .non,h | .bl _,h | .int _,h | .tup [],h | .lst [],h | .tup (.non::_),h | .tup (.bl _::_),h | .tup (.int _::_),h | .tup (.tup _::_),h | .tup (.lst _::_),h | .lst (.non::_),h | .lst (.bl _::_),h | .lst (.int _::_),h | .lst (.tup _::_),h | .lst (.lst _::_),h=>by unfold Wk at h;exact absurd h id
theorem w5:∀{ds:List D},Wks ds->∀e∈wlks ds,Wk e
 | [],_=>λe c=>by rw[wlks]at c;cases c
 | d::ds,⟨a,b⟩=>λe c=>by
  rw[wlks,cx]at c;rcases c with z|z
  ·exact HG a e z
  ·exact w5 b e z
end
theorem met {d e:D}{G H:Hp}{v:V}(c:Wk d)(f:e∈wlk d)(re:aZ G e v)(s:aD G H):(∃y,e = .str y/\v = .str y)∨(txD e=none/\∃a xs,v = .ref a/\i8 H a xs/\isV H (.ref a) (.ty "str")=some false):=by
 rcases HJ (HG c e f)with⟨y,rfl⟩|⟨n,ds,rfl|rfl,_⟩
 ·exact .inl ⟨y,rfl,re⟩
 ·obtain⟨a,vs,rfl,b,_⟩:=re;exact .inr ⟨rfl,a,vs,rfl,.inr (s _ _ b),gC (s _ _ b)⟩
 ·obtain⟨a,vs,rfl,b,_⟩:=re;exact .inr ⟨rfl,a,vs,rfl,.inl (s _ _ b),tZ (s _ _ b)⟩
noncomputable def isQ (x:Str):Bool:=x.cps.toList.head? == some 63
theorem OR {x:Str}(h:c4 x):isQ x=true:=by obtain⟨l,rfl,_⟩:=h;rfl
theorem QA {x:Str}(h:jU x):isQ x=false:=by
 unfold isQ;cases e:x.cps.toList.head? with
 | none=>rfl
 | some c =>
  have m:c∈x.cps.toList:=List.mem_of_head? e;have:=h.2.2 c (by simpa using m);have ne:c≠63:=by omega
  simp[ne]
end
noncomputable def chn (n:Str):List D->D
 | []=>.str n
 | [d]=>d
 | d::e::r=>.tup [.str n,d,chn n (e::r)]
noncomputable def pr (sm:bH)(n:Str)(ds:List D):D:=match zr sm n with
 | none=>.tup (.str n::ds)
 | some _=>chn n ds
mutual
noncomputable def prD (sm:bH):D->D
 | .tup (.str n::ds)=>pr sm n (prDs sm ds)
 | .lst (.str n::ds)=>pr sm n (prDs sm ds)
 | d=>d
noncomputable def prDs (sm:bH):List D->List D
 | []=>[]
 | d::ds=>prD sm d::prDs sm ds
end
section
variable {fx:cH}{sm:bH}{os:aS}
theorem cZ (sm:bH):∀ds:List D,prDs sm ds=ds.map (prD sm)
 | []=>rfl
 | d::ds=>by rw[prDs,cZ sm ds];rfl
theorem FS (sm:bH)(l:List D)(k:Nat):prDs sm (l.drop k)=(prDs sm l).drop k:=by rw[cZ,cZ,List.map_drop]
theorem xQ (sm:bH){n:Str}{ds:List D}{x:D}(h:x = .tup (.str n::ds)∨x = .lst (.str n::ds)):prD sm x=pr sm n (prDs sm ds)/\pts x=ds:=by rcases h with rfl|rfl <;> exact⟨by rw[prD],rfl⟩
theorem sI (sm:bH)(x:Str):prD sm (.str x) = .str x:=by unfold prD;rfl
theorem sU {P:D->Prop}{n:Str}(two:∀d e,P d->P e->P (.tup [.str n,d,e])):∀{ds:List D},ds≠[]->(∀d∈ds,P d)->P (chn n ds)
 | [],h,_=>absurd rfl h
 | [d],_,h=>h d av
 | d::e::r,_,h=>two d _ (h d av) (sU two (by simp) λx a=>h x (ay _ a))
theorem OC {n:Str}{ds:List D}(h:Fls ds)(ne:ds≠[]):Fl (pr sm n ds):=by
 unfold pr;split
 ·unfold Fl;exact h
 ·exact sU (λd e a b=>by unfold Fl;exact⟨a,b,trivial⟩) ne (bM h)
mutual
theorem xR:∀{d:D},Tm d->Fl (prD sm d)
 | .str x,h=>by rw[sI];unfold Tm at h;unfold Fl;exact h
 | .tup (.str n::ds),h=>by
  unfold Tm at h;rw[prD];exact OC (xO h.2) (by rw[cZ];simpa using h.1)
 | .lst (.str n::ds),h=>by
  unfold Tm at h;rw[prD];exact OC (xO h.2) (by rw[cZ];simpa using h.1)
 | .non,h | .bl _,h | .int _,h | .tup [],h | .lst [],h | .tup (.non::_),h | .tup (.bl _::_),h | .tup (.int _::_),h | .tup (.tup _::_),h | .tup (.lst _::_),h | .lst (.non::_),h | .lst (.bl _::_),h | .lst (.int _::_),h | .lst (.tup _::_),h | .lst (.lst _::_),h=>by unfold Tm at h;exact absurd h id
theorem xO:∀{ds:List D},Tms ds->Fls (prDs sm ds)
 | [],_=>trivial
 | d::ds,⟨a,b⟩=>by rw[prDs];exact⟨xR a,xO b⟩
end
theorem HD {n:Str}(h:n∈sm.map (·.1)):∃z,zr sm n=some z:=by
 obtain⟨r,a,rfl⟩:=cy.mp h;unfold zr;cases e:sm.find? λq=>decide (q.1=r.1)with
 | none=>exact absurd (bh rfl) (List.find?_eq_none.mp e r a)
 | some q=>exact⟨q.2,rfl⟩
theorem HE (so:bF fx sm){n:Str}{k:Int}(h:(n,k)∈fx):zr sm n=none:=by
 cases e:zr sm n with
 | none=>rfl
 | some z =>
  obtain⟨r,a,b,_⟩:=DB e;exact absurd rfl ((List.nodup_append.mp so.nd).2.2 n (List.mem_map_of_mem (f:=(·.1)) h) n (b ▸ List.mem_map_of_mem (f:=(·.1)) a))
theorem uD (so:bF fx sm){n:Str}{k:Nat}(h:nM fx sm n k):(zr sm n=none/\(n,(k:Int))∈fx/\0<k)∨∃z,zr sm n=some z/\n∈sm.map (·.1)/\2<=k:=by
 rcases h with⟨b,a⟩|⟨b,a⟩
 ·exact .inl ⟨HE so a,a,b⟩
 ·obtain⟨z,hz⟩:=HD a;exact .inr ⟨z,hz,a,b⟩
theorem E7 {n:Str}:∀{ds:List D},ds≠[]->lvs (chn n ds)=lvss ds
 | [],h=>absurd rfl h
 | [d],_=>by show lvs d=_;rw[lvss,lvss];omega
 | d::e::r,_=>by have:=E7 (n:=n) (ds:=e::r) (by simp);show lvs (.tup [.str n,d,chn n (e::r)])=_;simp only[lvs,lvss]at this⊢;omega
theorem E6 {n:Str}:∀{ds:List D},ds≠[]->nds (chn n ds)+1=ndss ds+ds.length
 | [],h=>absurd rfl h
 | [d],_=>by show nds d+1=_;rw[ndss,ndss];rfl
 | d::e::r,_=>by have:=E6 (n:=n) (ds:=e::r) (by simp);show nds (.tup [.str n,d,chn n (e::r)])+1=_;simp only[nds,ndss,ap]at this⊢;omega
theorem E8 {n:Str}:∀{ds:List D},ds≠[]->depD (chn n ds)+1<=depDs ds+ds.length
 | [],h=>absurd rfl h
 | [d],_=>by show depD d+1<=_;rw[depDs,depDs];simp
 | d::e::r,_=>by have:=E8 (n:=n) (ds:=e::r) (by simp);show depD (.tup [.str n,d,chn n (e::r)])+1<=_;simp only[depD,depDs,ap]at this⊢;omega
theorem OU {d:D}(h:bB fx sm os d):1<=lvs d:=lQ h
theorem DE:∀{ds:List D},IsTms fx sm os ds ↔ ∀e∈ds,bB fx sm os e
 | []=>⟨λ_ _ h=>(nomatch h),λ_=>trivial⟩
 | d::ds=>by unfold IsTms;rw[DE,List.forall_mem_cons]
mutual
theorem xC {P:D->Prop}(s:∀x,bB fx sm os (.str x)->P (.str x))(t:∀n ds d,(d = .tup (.str n::ds)∨d = .lst (.str n::ds))->nM fx sm n ds.length->IsTms fx sm os ds->(∀e∈ds,P e)->P d):∀{d:D},bB fx sm os d->P d
 | .str x,h=>s x h
 | .tup (.str n::ds),h=>by unfold bB at h;exact t n ds _ (.inl rfl) h.1 h.2 (xA s t h.2)
 | .lst (.str n::ds),h=>by unfold bB at h;exact t n ds _ (.inr rfl) h.1 h.2 (xA s t h.2)
 | .non,h | .bl _,h | .int _,h | .tup [],h | .lst [],h | .tup (.non::_),h | .tup (.bl _::_),h | .tup (.int _::_),h | .tup (.tup _::_),h | .tup (.lst _::_),h | .lst (.non::_),h | .lst (.bl _::_),h | .lst (.int _::_),h | .lst (.tup _::_),h | .lst (.lst _::_),h=>by unfold bB at h;exact absurd h id
theorem xA {P:D->Prop}(s:∀x,bB fx sm os (.str x)->P (.str x))(t:∀n ds d,(d = .tup (.str n::ds)∨d = .lst (.str n::ds))->nM fx sm n ds.length->IsTms fx sm os ds->(∀e∈ds,P e)->P d):∀{ds:List D},IsTms fx sm os ds->∀e∈ds,P e
 | [],_=>λe h=>(nomatch h)
 | d::ds,⟨a,b⟩=>List.forall_mem_cons.mpr ⟨xC s t a,xA s t b⟩
end
theorem eB {n:Str}{ds:List D}{d:D}(h:d = .tup (.str n::ds)∨d = .lst (.str n::ds)):lvs d=lvss ds/\nds d=1+ndss ds/\depD d=depDs ds+1/\flt sm d=knot sm n (flts sm ds)/\lfs d=lfss ds:=by
 rcases h with rfl|rfl
 ·exact⟨by rw[lvs],by rw[nds],by rw[depD,depDs,show depD (.str n)=0 from rfl];omega,by rw[flt],by rw[lfs]⟩
 ·exact⟨by rw[lvs],by rw[nds],by rw[depD,depDs,show depD (.str n)=0 from rfl];omega,by rw[flt],by rw[lfs]⟩
theorem ES (so:bF fx sm)(ho:∀x∈os,c4 x){n z:Str}(hz:zr sm n=some z):∀{es:List D},IsTms fx sm os es->2<=es.length->flt sm (chn n es)=knot sm n (flts sm es)
 | [],_,h=>by simp at h
 | [_],_,h=>by simp at h
 | [d,e],_,_=>by show flt sm (.tup [.str n,d,e])=_;rw[flt]
 | d::e::g::r,⟨i,f⟩,_=>by
  have c:=ES so ho hz (es:=e::g::r) f (by simp);have a:=eW so;show flt sm (.tup [.str n,d,chn n (e::g::r)])=_;have f1:=(qW a (nN so ho i).1).1;have b:=(n9 so ho f).1;have f2:Fl (flt sm (chn n (e::g::r))):=by rw[c];exact yE a (iI a b).1 (iI a b).2 (by rw[flts];simp)
  rw[flt];show knot sm n [flt sm d,flt sm (chn n (e::g::r))]=knot sm n (flt sm d::flts sm (e::g::r));refine wA hz ⟨f1,f2,trivial⟩ ?_;rw[cE,cE,cE,c];refine List.Perm.append_left (opn1 n z (flt sm d)) ?_;have:=qN hz (pM a b)
  simpa [opn] using this
theorem EE {n:Str}:∀{ds:List D},ds≠[]->lfs (chn n ds)=lfss ds
 | [],h=>absurd rfl h
 | [d],_=>by show lfs d=_;simp only[lfss,bn]
 | d::e::r,_=>by have:=EE (n:=n) (ds:=e::r) (by simp);show lfs (.tup [.str n,d,chn n (e::r)])=_;simp only[lfs,lfss,bn]at this⊢;rw[this]
theorem DU {n z:Str}(hz:zr sm n=some z):∀{ds:List D},ds≠[]->(∀e∈ds,prD sm e=e)->prD sm (chn n ds)=chn n ds
 | [],h,_=>absurd rfl h
 | [d],_,h=>h d av
 | d::e::r,_,h=>by have:=DU hz (ds:=e::r) (by simp) λx a=>h x (ay _ a);show prD sm (.tup [.str n,d,chn n (e::r)]) = .tup [.str n,d,chn n (e::r)];rw[prD,prDs,prDs,prDs,h d av,this];unfold pr;rw[hz];rfl
structure SJ (fx:cH)(sm:bH)(os:aS)(d e:D):Prop where
 tm:bB fx sm os e
 lv:lvs e=lvs d
 nd:nds e+1<=nds d+lvs d
 dp:depD e+1<=lvs d+depD d
 fl:flt sm e=flt sm d
 lf:lfs e=lfs d
 id:prD sm e=e
structure SI (fx:cH)(sm:bH)(os:aS)(ds es:List D):Prop where
 tm:IsTms fx sm os es
 ln:es.length=ds.length
 lv:lvss es=lvss ds
 nd:ndss es+ds.length<=ndss ds+lvss ds
 dp:depDs es+ds.length<=lvss ds+depDs ds
 fl:flts sm es=flts sm ds
 lf:lfss es=lfss ds
 id:∀e∈es,prD sm e=e
theorem DT:∀{ds:List D},IsTms fx sm os ds->(∀e∈ds,SJ fx sm os e (prD sm e))->SI fx sm os ds (prDs sm ds)
 | [],_,_=>⟨trivial,rfl,rfl,ac _,ac _,rfl,rfl,λ_ h=>nomatch h⟩
 | d::ds,⟨t1,f⟩,h=>by
  have a:=h d av;have b:=DT f λe c=>h e (ay _ c);have i:=OU t1;have g:=d5 f;have o:=a.nd;have m:=a.dp;have l:=b.nd;have j:=b.dp;rw[prDs];refine⟨⟨a.tm,b.tm⟩,by rw[ap,ap,b.ln],by rw[lvss,lvss,a.lv,b.lv],?_,?_,by rw[flts,flts,a.fl,b.fl],by rw[lfss,lfss,a.lf,b.lf],λe c=>?_⟩
  ·rw[ndss,ndss,lvss,ap];omega
  ·rw[depDs,depDs,lvss,ap];omega
  ·obtain rfl|c:=cu.mp c
   ·exact a.id
   ·exact b.id e c
theorem O7 (so:bF fx sm)(ho:∀x∈os,c4 x){d:D}(h:bB fx sm os d):SJ fx sm os d (prD sm d):=by
 refine xC (P:=λd=>SJ fx sm os d (prD sm d)) (λx r=>?_) (λn ds d hd j i q=>?_) h
 ·rw[sI];exact⟨r,rfl,by unfold nds lvs;exact ac _,by unfold lvs;show 0+1<=1+0;omega,rfl,rfl,sI _ _⟩
 ·have b:=DT i q;obtain⟨c,p,o,m,l⟩:=eB (sm:=sm) hd;have J:=b.nd;have I:=b.dp;rw[(xQ sm hd).1];rcases uD so j with⟨hz,C,B⟩|⟨z,hz,s,E⟩
  ·have f:pr sm n (prDs sm ds) = .tup (.str n::prDs sm ds):=by unfold pr;rw[hz]
   obtain⟨A,w,v,u,t⟩:=eB (sm:=sm) (d:=.tup (.str n::prDs sm ds)) (.inl rfl);rw[f];refine⟨by unfold bB;rw[b.ln];exact⟨j,b.tm⟩,by rw[A,c,b.lv],by rw[w,p,c];omega,by rw[v,c,o];omega,by rw[u,m,b.fl],by rw[t,l,b.lf],?_⟩;rw[prD,cZ,List.map_congr_left (g:=id) b.id,List.map_id];exact f
  ·have f:pr sm n (prDs sm ds)=chn n (prDs sm ds):=by unfold pr;rw[hz]
   have ne:prDs sm ds≠[]:=λz=>by have:=b.ln;rw[z]at this;simp only[List.length_nil]at this;omega
   have H:=E6 (n:=n) ne;have G:=E8 (n:=n) ne;have F:=b.ln;rw[f];refine⟨sU (λd e a b=>by unfold bB;exact⟨.inr ⟨by simp,s⟩,a,b,trivial⟩) ne (DE.mp b.tm),by rw[E7 ne,c,b.lv],by rw[p,c];omega,by rw[c,o];omega,by rw[ES so ho hz b.tm (by omega),m,b.fl],by rw[EE ne,l,b.lf],DU hz ne b.id⟩
end
section
variable {P:Program}{w:World}{K:PySem.W.Frag}{mg:jF}{base:Heap}
def spInP (K:PySem.W.Frag)(C:Addr):Sp:=λvs H Q _=>∃(g:Addr) (fx:cH) (sm:bH) (n:Str) (a:Addr) (ds:List D) (ws:List V),vs=[.ref g,.str n,.ref a]/\iK K C fx sm H g/\H a=some (.lst ws)/\Reps H ds ws/\ds≠[]/\ds.length<=1000 /\
 ∀(b:V) (H':Hp),aD H H'->aZ H' (pr sm n ds) b->Q b H'
def UF (g a p:Addr)(n:Str)(ds:List D)(H:Hp)(i:Nat)(σ:St)(b:Hp):Prop:=∃(w:V) (o4:Option V),σ=[some (.ref g),some (.str n),some (.ref a),some w,o4]/\aD H b/\aZ b (chn n (ds.drop (ds.length - 1 - i))) w
theorem K8 {n:Str}{ds:List D}{j:Nat}{d:D}(h:ds[j]?=some d)(l:j+1<ds.length):chn n (ds.drop j) = .tup [.str n,d,chn n (ds.drop (j+1))]:=by obtain⟨a,rfl⟩:=cr.mp h;rw[List.drop_eq_getElem_cons a,List.drop_eq_getElem_cons l];rfl
theorem B8 {f C:Addr}{fd:FuncData}(F:gG K "in_pairs" "in_pairs" kL f fd)(T:Txt mg)(b:BF P w K mg base bN 1 C "nought" (jY K C)):bY P w K mg base bN 2 f fd uR (spInP K C):=by
 refine F.ok jH (λvs H Q E h=>?_) (λcdv A outer s H vs Q E O h=>?_)
 ·obtain⟨g,fx,sm,n,a,ds,d,rfl,_⟩:=h;rfl
 ·obtain⟨g,fx,sm,n,a,ds,d,rfl,sg,I,t,ne,X,q⟩:=h;have l:=O.units
  refine⟨_,(aC (bL (aQ xY (oB b (O.mono (by decide)) pass0 (pv 0) (aA (pv 1) aB)) iZ (nomark _)) (aH (aN (cB dM rfl T.n_tuple rfl (aA (bG bT (bQ (aA (pv 1) aB)) (pv 2)) aB)))) aR)
   (aC (aU (i:=3) jH.nd rfl (Or.inl rfl) (bC bW (pv 2) (rF lO aF) (λ_ _=>rfl)))
   (aC (fB di rfl (cQ K rfl (mZ L1 (pv 2) (cM (rF lO aF)) c5 (cM (rF lO aF)))) (bA (i:=4) jH.nd rfl (Or.inl rfl)) (aH (aU (i:=3) jH.nd rfl (Or.inl rfl) (bE (aA (pv 1) (aA (pv 4) (aA (pv 3) aB)))))))
   (aH (aN (pv 3)))))),?_⟩
  try dsimp only[cxOf,Cx.nox]
  clear O F T l b;simp only[eM];obtain⟨dx,fs,_,_,h1,_,h3,_⟩:=sg.ex;have v:=Reps.len t;refine⟨_,rfl,g,dx,fs,rfl,h1,h3,_,rfl,g,n,fx,sm,rfl,sg,?_⟩;refine⟨rfl,_,rfl,bX (λc=>?_) (λc=>?_)⟩
  ·have hz:zr sm n=none:=by
    have c:=bu c;unfold nulV at c;cases e:zr sm n with
    | none=>rfl
    | some z=>rw[e]at c;cases c
   have W:pr sm n ds = .tup (.str n::ds):=by unfold pr;rw[hz]
   rw[W]at q;refine⟨_,rfl,show 1<=sizeLine by decide,λp B=>⟨_,rfl,.inr ⟨.lst (.str n::d),nI upd_same (by rw[aE (aG I B)];exact I) (ao (m:=1100) (by simp;omega) (by decide)),λZ R=>⟨Z,.str n::d,rfl,.inl upd_same,λl6 H6 G=>?_⟩⟩⟩⟩;rcases G with⟨G,_⟩|⟨_,S,rfl⟩
   ·rw[upd_same]at G;cases G
   ·have Y:aD H (upd (upd (upd H p (.lst [.str n])) Z (.lst (.str n::d))) l6 (.tup (.str n::d))):=((aD.upd B).trans (aD.upd R)).trans (aD.upd S);exact q _ _ Y ⟨l6,_,rfl,upd_same,.str n,d,rfl,rfl,Reps.same Y t⟩
  ·obtain⟨z,hz⟩:∃z,zr sm n=some z:=by
    have c:=of_decide_eq_false c;unfold nulV at c;cases e:zr sm n with
    | none=>rw[e]at c;exact absurd rfl c
    | some z=>exact⟨z,rfl⟩
   have W:pr sm n ds=chn n ds:=by unfold pr;rw[hz]
   rw[W]at q;have l1:1<=ds.length:=List.length_pos_iff.mpr ne;obtain⟨o,hw0⟩:∃o,d[ds.length - 1]?=some o:=⟨_,aw (by omega)⟩
   obtain⟨d0,U,r0⟩:=Reps.get t hw0;have e0:ds.drop (ds.length - 1)=[d0]:=by obtain⟨g1,rfl⟩:=cr.mp U;rw[List.drop_eq_getElem_cons g1,List.drop_eq_nil_of_le (by omega)]
   refine⟨_,rfl,1,rfl,o,?_,_,rfl,2,rfl,-2,rfl,1,rfl,-1,rfl,rfl,rfl,rfl,a,d,rfl,I,λz=>by rw[z]at v;simp at v;omega,λp B=>⟨p,_,rfl,.inl upd_same,λJ hJ=>?_⟩⟩
   ·rw[ixV_l I,←v]at *;show atI d (-1)=_;unfold atI ixN;rw[ab (by decide),ai (by omega)];have:(-1+(d.length:Int)).toNat=d.length - 1:=by omega
    rw[this];exact hw0
   ·have r:aD H (upd H p (.lst d.dropLast.reverse)):=aD.upd B;have L:upd H p (.lst d.dropLast.reverse) p=some (.lst d.dropLast.reverse):=upd_same;generalize upd H p (.lst d.dropLast.reverse)=H1 at r L hJ⊢;refine gQ hJ (UF g a p n ds H1) ⟨o,none,rfl,aD.refl _,by rw[Nat.sub_zero,e0];exact aZ.same r r0⟩ (λi σ H' _ ⟨_,_,_,s,_⟩=>by rw[s _ _ L,L]) ?_ ?_
    ·rintro i x σ H2 N ⟨w,o4,rfl,s2,j⟩;have hi:=(cr.mp N).1;rw[List.length_reverse,List.length_dropLast]at hi;have hx':d[ds.length - 2 - i]?=some x:=by rw[List.getElem?_reverse (by rw[List.length_dropLast];exact hi),List.length_dropLast,List.getElem?_dropLast,ai (by omega)]at N;rw[show ds.length - 2 - i=d.length - 1 - 1 - i by omega];exact N
     obtain⟨e,he,re⟩:=Reps.get t hx';refine⟨_,rfl,_,rfl,_,rfl,show 3<=sizeLine by decide,λu l=>⟨.ref u,some x,rfl,s2.trans (aD.upd l),?_⟩⟩;rw[show ds.length - 1 - (i+1)=ds.length - 2 - i by omega,K8 he (by omega),show ds.length - 2 - i+1=ds.length - 1 - i by omega];exact⟨u,_,rfl,upd_same,_,_,rfl,rfl,_,_,rfl,aZ.same ((r.trans s2).trans (aD.upd l)) re,_,_,rfl,aZ.same (aD.upd l) j,rfl⟩
    ·rintro σ H2 ⟨w,o4,rfl,s2,j⟩;rw[List.length_reverse,List.length_dropLast,v,Nat.sub_self,List.drop_zero]at j;exact⟨_,rfl,q w H2 (r.trans s2) j⟩
end
end Lw
namespace L2
open PySem PySem.Spec PyProof.Rows
theorem DZ {X:Cx}(K:PySem.W.Frag)(g:X.K=K){o:Expr}{f:TE}{name:Str}{b a:Pos}{T id:String}{r:V->List V->Hp->VK->Prop}(pa:PlainAttrs T)(slot:Slot T name id)(e:typeOf (.builtin id)=pure (.type "method_descriptor"))(hm:SK X id r)(ho:PE X o f)
  (d:attributeBase o name X.env (eval o X.env)=eval o X.env:=by rfl) (c:(b.endLine == a.line)=true:=by rfl):PE X (.Call (.Attribute o name b) [] [] a) (tBM0 K T r f):=by
 subst g;exact qL pa slot e hm ho d c
noncomputable abbrev pinO (a:Addr)(o:Obj):HO:=.ext λh=>h.get? a=some o
theorem xS {P:Program}{w:World}{H:Hp}{h:Heap}{a:Addr}{o:Obj}(e:h.get? a=some o):cK P w H h a (pinO a o):=⟨e,⟨o,e⟩,λc b q k=>k o q⟩
theorem pG {P:Program}{w:World}{H:Hp}{h:Heap}{a:Addr}{o:Obj}(ok:gX P w H h)(e:H a=some (pinO a o)):h.get? a=some o:=(ok a _ e).1
noncomputable def del1 (H:Hp)(p:Addr):Hp:=λb=>if b=p then none else H b
theorem K3 {H:Hp}{p b:Addr}{o:HO}(h:del1 H p b=some o):H b=some o/\b≠p:=by
 unfold del1 at h;by_cases e:b=p
 ·rw[ai e]at h;cases h
 ·rw[ab e]at h;exact⟨h,e⟩
theorem iP {H:Hp}{p b:Addr}(h:H b=none):del1 H p b=none:=by
 unfold del1;split
 ·rfl
 ·exact h
theorem dS {H:Hp}{p b:Addr}(h:b≠p):del1 H p b=H b:=by unfold del1;rw[ab h]
theorem nG {H:Hp}{p:Addr}:del1 H p p=none:=by unfold del1;rw[ai rfl]
theorem gX.del {P:Program}{w:World}{H:Hp}{h:Heap}{c:Addr}{φ:Heap->Prop}(ok:gX P w H h)(e:H c=some (.ext φ)):gX P w (del1 H c) h:=λa o q=>by obtain⟨d,f⟩:=K3 q;exact(ok a o d).stay (λ_ _ _ z=>z) (λb z=>by rw[dS (λw=>by rw[w,e]at z;cases z)];exact z) (λb xs z=>by rw[dS (λw=>by rw[w,e]at z;cases z)];exact z)
theorem gX.back {P:Program}{w:World}{H:Hp}{h:Heap}{c:Addr}{o:Obj}(ok:gX P w H h)(n:H c=none)(e:h.get? c=some o):gX P w (upd H c (pinO c o)) h:=λa u q=>by
 by_cases z:a=c
 ·subst z;rw[upd_same]at q;cases q;exact xS e
 ·rw[aE z]at q;exact(ok a u q).stay (λ_ _ _ z=>z) (λb z=>by rw[aE (aG z n)];exact z) (λb xs z=>by rw[aE (aG z n)];exact z)
end L2
namespace Lw
open PySem PySem.Spec PyProof.Rows L2
noncomputable def yD (s:Stmt):Expr:=match cP s with
 | [_,.Return (some (.Call _ [_,_,e] _ _)) _]=>e
 | _=>.Name "" ⟨0,0,0,0⟩
noncomputable def QC (e:Expr):Arguments:=match e with
 | .Lambda a _ _ _=>a
 | _=>default
noncomputable def QD (e:Expr):Expr:=match e with
 | .Lambda _ b _ _=>b
 | e=>e
noncomputable def lamSc (e:Expr):Scope:=match e with
 | .Lambda _ _ s _=>s
 | _=>default
noncomputable abbrev pP:Arguments:=QC (yD cS)
noncomputable abbrev bP:Expr:=QD (yD cS)
noncomputable abbrev scP:Scope:=lamSc (yD cS)
noncomputable def qP:Str:="paired.<locals>.<lambda>"
noncomputable abbrev oP (c0 c':Addr)(pm ctv:Value):Obj:=PySem.W.kla_obj "<lambda>" qP pP bP scP [("signs",c0)] pm c' ctv
noncomputable abbrev envP (L fl c0 c':Addr):Env:=newEnv scP L mainGlobals [("signs",c0)] (qP++".<locals>.") (some fl) (.ref c') none builtinsNs
noncomputable def cxP (P:Program)(w:World)(K:PySem.W.Frag)(mg:jF)(base:Heap)(A:Around)(outer:List Env)(s:Shared)(H:Hp)(fl a b:Addr):Cx where
 prog:=P
 w:=w
 K:=K
 mg:=mg
 base:=base
 A:=A.deeper (envP s.heap.objs.size fl a b)
 N:=["name","parts","signs"]
 s₀:=s
 H₀:=H
 env:=envP s.heap.objs.size fl a b
 outer:=outer
 stack:=envP s.heap.objs.size fl a b::outer
 ex:=[]
 fn:=λ_=>false
 calm:=true
 pn:=[]
 xe:=λ_ _=>False
theorem AN {x:Str}(h:scP.names.lookup x=some .cell∨scP.names.lookup x=some .free):x="signs":=by
 have all:∀y∈scP.names,(y.2 = .cell∨y.2 = .free)->y.1=("signs" : Str):=by decide +kernel
 rcases h with h|h
 ·exact all _ (PySem.mem_of_lookup h) (.inl rfl)
 ·exact all _ (PySem.mem_of_lookup h) (.inr rfl)
section
variable {P:Program}{w:World}{K:PySem.W.Frag}{mg:jF}{base:Heap}
theorem J5 {A:Around}{outer:List Env}{s:Shared}{H:Hp}{g fl d B a C:Addr}{pm U N L:Value}{f F:Obj}{E:iR}{tq:Tok}{n:Str}{k:Nat}{Q:VK}(hr:eP (k+1) A)(j:y3 P w K mg base A outer s H)
  (hfl:H fl=some (pinO fl (oP d B pm U))) (m:H d=some (pinO d f)) (T:f.data = .cell (some (.ref g))) (hc':H B=some (pinO B F)) (hcd:F.data = .fields E) (hq:E[1]?=some (.str qP tq))
  (O:dP P w K mg base bN k "in_pairs" (spInP K C)) (r1:aY (.str n) N) (r2:aY (.ref a) L) (sp:spInP K C [.ref g,.str n,.ref a] (del1 H d) (λv H'=>H' d=none->Q v (upd H' d (pinO d f))) E0) :
  codeAny (model P w) A (.call (.ref fl) ⟨[N,L],[]⟩) (CR bN outer P w H s Q E0) s:=by
 have gfl:=pG j.hok hfl;have Y:=pG j.hok m;have g':=pG j.hok hc';have lim:s.heap.NoLimit:=j.mod.nolimit.keeps λb o e=>(j.bs b o e).1;refine PySem.W.kla_callFunE hr.depth gfl rfl rfl rfl rfl ⟨B,F,E,tq,rfl,g',hcd,hq⟩ ?_;rw[show bindArgs (PySem.W.kla_fn "<lambda>" qP pP bP scP [("signs",d)] pm (.ref B) U) ⟨[N,L],[]⟩=pure [(("name" : Str),N),(("parts" : Str),L)]from rfl];have nc:∀x∈scP.names,x.2≠.cell:=by decide +kernel
 have nl:∀x∈[(("name" : Str),N),(("parts" : Str),L)],scP.names.lookup x.1=some .local:=by
  intro x l;obtain rfl|l:=cu.mp l
  ·rfl
  ·rw[cs.mp l];rfl
 refine ak (wpAny_newFunctionEnv nc nl (λh' hns S=>⟨lim.fresh _ S,?_⟩) rfl);have X:∀b o,s.heap.get? b=some o->h'.get? b=some o:=λb o e=>S.extBut b o (bo (az e)) (af _ e);have R:=j.hok.del m;have Z:d∉frs outer:=λz=>by have:=j.frf d z;rw[m]at this;cases this
 have I:aO (cxP P w K mg base A outer s (del1 H d) fl d B) [] [some (.str n),some (.ref a),some (.ref g)] (del1 H d) {s with heap:=h',toks:=s.toks+2}:=by
  have G:∀b:Addr,b∉(cxP P w K mg base A outer s (del1 H d) fl d B).ex:=λb z=>absurd (show b∈([]:List Addr)from z) (by simp);have one:∀x c,(cxP P w K mg base A outer s (del1 H d) fl d B).env.cells.lookup x=some c->x=("signs" : Str)/\c=d:=λx c e=>by have e':[(("signs" : Str),d)].lookup x=some c:=e;have:=PySem.mem_of_lookup e';rw[cs]at this;cases this;exact⟨rfl,rfl⟩
  refine⟨⟨j.mod,rfl,rfl,rfl,ac _,λx y c r t=>?_,λx l=>?_,λx c h=>absurd h (by simp[cxP]),λ_=>hr.hd,Around.frames_deeper j.frames,.inr ⟨rfl,rfl⟩,λb z=>absurd z (G b),λb o e=>⟨(j.bs b o e).1,iP (j.bs b o e).2⟩,j.bsz,λb _ _=>G b,λb z=>absurd z (G b),j.funs,λb z=>iP (j.frf b z)⟩,
   rfl,j.bare,Un.kept X,⟨_,hns,λi x v r t h3=>?_⟩,λx c h=>?_,R.fresh (ac _),λx c h=>?_,λp hp=>absurd (show p∈([]:c9)from hp) (by simp),R.kept X,rfl⟩
  ·rw[(one x c r).1,(one y c t).1]
  ·rw[AN l];exact⟨d,rfl⟩
  ·match i,r,t with
   | 0,r,t=>cases r;cases t;exact⟨N,r1,.inl ⟨rfl,rfl⟩⟩
   | 1,r,t=>cases r;cases t;exact⟨L,r2,.inl ⟨rfl,rfl⟩⟩
   | 2,r,t=>cases r;cases t;exact⟨.ref g,rfl,.inr ⟨.inr rfl,d,rfl,f,X _ _ Y,T⟩⟩
   | i+3,r,t=>cases r
  ·rw[(one x c h).2];exact⟨_,f,X _ _ Y,T⟩
  ·rw[(one x c h).2];exact nG
 have pb:PE (cxP P w K mg base A outer s (del1 H d) fl d B) bP (tCall (spInP K C) [] E0 (tCons (tVar 2) (tCons (tVar 0) (tCons (tVar 1) tNil)))):=aM O (hr.deeper _) pass0 rfl (aA (pv 2) (aA (pv 0) (aA (pv 1) aB)));refine PySem.W.kla_codeExpr (wpAny_mono (pb [] _ _ _ (λv H'=>H' d=none->Q v (upd H' d (pinO d f))) I ⟨_,rfl,_,rfl,_,rfl,sp⟩) (λu s' ⟨v,H',J,rv,q⟩=>?_) λ_ _ z=>z.elim);have un:Un (frs outer) [] (del1 H d) H' s.heap s'.heap:=J.base;have gs:=un.keep d f Y nG Z (by simp);have nn:=un.free d f Y nG (by simp);refine⟨v,upd H' d (pinO d f),J.os,J.bare,?_,J.hok.back nn gs,rv,q nn⟩;have ne:∀b u,H b=some u->(∀φ,u≠.ext φ)->b≠d:=λb u e z w=>by rw[w,m]at e;cases e;exact z _ rfl
 refine⟨λb o e z hb l=>un.keep b o e (iP z) hb l,λb o e z hb l=>un.slot b o e (iP z) hb l,λb o e z l=>?_,λb o e l=>un.there b o e l,λb xs e=>?_,λb o u' e=>?_,λb ps e=>?_⟩
 ·rw[aE (λw=>by rw[w,m]at z;cases z)];exact un.free b o e (iP z) l
 ·have nb:=ne b _ e (λφ=>by simp);rw[aE nb];exact un.tups b xs (by rw[dS nb];exact e)
 ·have nb:=ne b _ e (λφ=>by simp);rw[aE nb];exact un.frzs b o u' (by rw[dS nb];exact e)
 ·have nb:=ne b _ e (λφ=>by simp);rw[aE nb];exact un.tbls b ps (by rw[dS nb];exact e)
end
def LL (H:Hp)(fl a g:Addr):Prop:=∃(b:Addr) (pm ctv:Value) (oc0 oc':Obj) (vsc:iR) (tq:Tok),H fl=some (pinO fl (oP a b pm ctv))/\H a=some (pinO a oc0)/\oc0.data = .cell (some (.ref g))/\H b=some (pinO b oc')/\oc'.data = .fields vsc/\vsc[1]?=some (.str qP tq)
theorem LL.same {H H':Hp}{fl e g:Addr}(h:LL H fl e g)(s:aD H H'):LL H' fl e g:=by obtain⟨q,i,d,b,c,a,f,p,o,m,l,j⟩:=h;exact⟨q,i,d,b,c,a,f,s _ _ p,s _ _ o,m,s _ _ l,j⟩
mutual
theorem aZ.del1 {H:Hp}{c:Addr}{φ:Heap->Prop}(e:H c=some (.ext φ)):∀{d:D} {v:V},aZ H d v->aZ (L2.del1 H c) d v
 | .non,v,h | .bl _,v,h | .int _,v,h | .str _,v,h=>h
 | .tup ds,v,⟨a,vs,g,b,f⟩=>⟨a,vs,g,by rw[dS (λz=>by rw[z,e]at b;cases b)];exact b,Reps.del1 e f⟩
 | .lst ds,v,⟨a,vs,g,b,f⟩=>⟨a,vs,g,by rw[dS (λz=>by rw[z,e]at b;cases b)];exact b,Reps.del1 e f⟩
theorem Reps.del1 {H:Hp}{c:Addr}{φ:Heap->Prop}(e:H c=some (.ext φ)):∀{ds:List D} {vs:List V},Reps H ds vs->Reps (L2.del1 H c) ds vs
 | [],vs,h=>h
 | d::ds,vs,⟨v,r,f,b,a⟩=>⟨v,r,f,aZ.del1 e b,Reps.del1 e a⟩
end
theorem iK.del1 {K:PySem.W.Frag}{C:Addr}{j:cH}{sm:bH}{H:Hp}{g c:Addr}{φ:Heap->Prop}(e:H c=some (.ext φ))(h:iK K C j sm H g):iK K C j sm (L2.del1 H c) g:=by obtain⟨a,b,n,q,fs,r,dn,i,p,o,m,l,f,d⟩:=h;exact⟨a,b,n,q,fs,r,dn,by rw[dS (λz=>by rw[z,e]at i;cases i)];exact i,p,o,m,l,by rw[dS (λz=>by rw[z,e]at f;cases f)];exact f,by rw[dS (λz=>by rw[z,e]at d;cases d)];exact d⟩
def tLamP (K:PySem.W.Frag)(C:Addr)(i:Nat)(t:TA):TE:=λσ H Q=>∃fl,σ[i]?=some (some (.ref fl))/\t σ H λvs b=>∃(d g:Addr) (fx:cH) (sm:bH) (n:Str) (a:Addr) (ds:List D) (ws:List V),vs=[.str n,.ref a]/\LL b fl d g /\
 iK K C fx sm b g/\b a=some (.lst ws)/\Reps b ds ws/\ds≠[]/\ds.length<=1000/\∀(c:V) (H':Hp),aD b H'->aZ H' (pr sm n ds) c->Q c H'
theorem zQ {X:Cx}{C:Addr}{k i:Nat}{E m:Expr}{t:TA}{p d:Pos}(hN:X.N[i]?=some ("whole" : Str))(hv:R5 X.env.scope "whole")(O:dP X.prog X.w X.K X.mg X.base bN k "in_pairs" (spInP X.K C))(hr:eP (k+1) X.A)(ha:PA X [E,m] t)
  (he:starEach [E,m] X.env=(false,eval E X.env)::starEach [m] X.env:=by rfl) (G:(backTo d (starEach [m] X.env)).any (·.1)=false:=by rfl):PE X (.Call (.Name "whole" p) [E,m] [] d) (tLamP X.K C i t):=by
 intro j s σ H Q I h;obtain⟨fl,J,h⟩:=h;have pw:PE X (.Name "whole" p) (tVar i):=IY hN hv;refine wpAny_Call_Name_kw (thn (pw j s σ H (λx H'=>x = .ref fl/\H'=H) I ⟨_,J,rfl,rfl⟩) λf s0 ⟨x,H0,I0,rx,e3,e4⟩=>?_);subst e3 e4;cases rx;have c:=ha d j s0 σ H0 _ I0 h;rw[he]at c⊢;refine PySem.W.callWith_of (P:=λh=>∃o Y,h.get? fl=some o/\o.data = .func Y) (by show((false || (backTo d (starEach [m] X.env)).any (·.1)) || false)=false;rw[G];rfl) (λh ⟨o,Y,z1,Z⟩=>⟨.frame,.inl rfl,?_⟩) (Calls.evalArgs_plain (thn c λus s1 ⟨vs,H1,T,rv,q⟩=>?_))
 ·intro A' Q' E' s' kp q;unfold keeperOf;refine aa (wpAny_load (kp _ _ z1) ?_);rw[Z];exact ak q
 ·obtain⟨c0,g,fx,sm,n,a,ds,ws,rfl,la,sg,L,rd,S,l,q⟩:=q;obtain⟨c',pm,ctv,oc0,oc',vsc,tq,U,v,l3,l4,l5,l6⟩:=la;obtain⟨u1,u2,rfl,r1,r2⟩:=aW.two rv;refine⟨⟨_,_,pG T.hok U,rfl⟩,?_⟩;refine wpAny_call (codeAny_mono (J5 (Q:=Q) hr T.env0 U v l3 l4 l5 l6 O r1 r2 ⟨g,fx,sm,n,a,ds,ws,rfl,sg.del1 v,by rw[dS (λz=>by rw[z,v]at L;cases L)];exact L,Reps.del1 v rd,S,l,λv' H' F rp nn=>q v' _ (λb o e=>?_) (aZ.same (aD.upd nn) rp)⟩) λr s' B=>?_)
  ·by_cases z:b=c0
   ·subst z;rw[v]at e;cases e;exact upd_same
   ·rw[aE z];exact F b o (by rw[dS z];exact e)
  ·cases r with
   | error e=>exact B.elim
   | ok R =>
    cases R with
    | ret u=>exact T.after B
    | next=>exact B.elim
    | brk=>exact B.elim
    | cont=>exact B.elim
end Lw
namespace Lw
open PySem L2
section
variable {P:Program}{w:World}{K:PySem.W.Frag}{mg:jF}{base:Heap}
def spFWP (K:PySem.W.Frag)(C:Addr):Sp:=λvs H Q _=>∃(b fl c g:Addr) (fx:cH) (sm:bH) (d:D) (v:V),vs=[v,.ref b,.ref fl]/\H b=some (.dK [])/\LL H fl c g/\iK K C fx sm H g/\aZ H d v/\Tm d/\nds d<=1000 /\
 ∀(a:V) (H':Hp),aD H H'->aZ H' (prD sm d) a->Q a H'
def SQ (v:V)(c fl m l:Addr)(sm:bH)(W:List D)(b:List V)(H:Hp)(i:Nat)(σ:St)(a:Hp):Prop:=∃(us:List V) (o4 o5:Option V),σ=[some v,some (.ref c),some (.ref fl),some (.ref m),o4,o5]/\a m=some (.lst us)/\aD H a/\a l=some (.lst b)/\Reps a (prDs sm (stk (W.drop (W.length - i)))).reverse us
def SR (m l p:Addr)(c:List V)(o:HO)(fs:List D)(H:Hp)(j:Nat)(b:List V)(σ:St)(a:Hp):Prop:=∃(us:List V) (o0:Option V),σ=[o0,some (.ref m)]/\a m=some (.lst us)/\aD H a/\a l=some (.lst c)/\a p=some o/\Reps a (fs.drop j).reverse us/\Reps a (fs.take j) b
theorem P6 {f C:Addr}{fd:FuncData}(F:gG K "from_within" "from_within" fF f fd)(T:Txt mg)(I:dP P w K mg base bN 1 "walked" tD)(G:dP P w K mg base bN 2 "in_pairs" (spInP K C)):bY P w K mg base bN 8 f fd nU (spFWP K C):=by
 refine F.ok fV (λvs H Q E h=>?_) (λcdv A outer s H vs Q E hr h=>?_)
 ·obtain⟨fi,fl,c0,g,fx,sm,d,v,rfl,_⟩:=h;rfl
 ·obtain⟨fi,fl,c0,g,fx,sm,d,v,rfl,U,la,sg,rep,tm,c,q⟩:=h;have hu:=hr.units
  refine⟨_,(aC (aU (i:=3) fV.nd rfl (Or.inr rfl) (bQ aB))
   (aC (fB di rfl (kO K rfl rfl T.n_reversed (aA (aM I (hr.mono (by decide)) pass0 rfl (aA (pv 0) aB)) aB)) (bA (i:=4) fV.nd rfl (Or.inl rfl)) (aH (bL (aV K rfl (aL aK rfl T.n_isinstance rfl (aA (pv 4) (aA (bR (v:=V.ty "str") rfl T.n_str rfl rfl) aB))) (λ_=>rfl)) (aH (bZ (fI df dh dg eI (pv 3) (aA (JA (aj (bS (by decide) _) hu) (pv 1) (pv 4) (pv 4) ⟨rfl,rfl,rfl,rfl⟩) aB)))) (aC (gM (i:=5) fV.nd rfl rfl rfl rfl (bJ.by (N:=gU) (names:=(aJ fF).names) (N':=["part","made"]) (src:=[none,some 3]) (by decide +kernel) rfl rfl) (cQ K rfl (dX iT (pv 4) (cM aF) c5)) (λ_ _ _ _=>(bA (i:=0) (show List.Nodup (["part","made"]:aS)by decide +kernel) rfl (Or.inl rfl))) (λ_ _ _ _=>cV) (λ_ _ _ _=>(DZ K rfl df PySem.F.slot_list_pop PySem.F.type_list_pop oF (pv 1))))
   (aH (bZ (fI df dh dg eI (pv 3) (aA (zQ (i:=2) rfl (Or.inl rfl) G (hr.mono (by decide)) (aA (bC bW (pv 4) aF (λ_ _=>rfl)) (aA (pv 5) aB))) aB))))))))
   (aH (aN (bC bW (pv 3) aF (λ_ _=>rfl)))))),?_⟩
  try dsimp only[cxOf,Cx.nox]
  simp only[gU];clear hr F T hu I G;have keep:=aI q (aI U (aI la (aI sg (aI rep (aI tm c)))));clear q U la sg rep tm c
  walk_at "rd"
  obtain⟨q,U,la,sg,rep,tm,c⟩:=keep;refine⟨au _,λm hm=>?_⟩;have s1:aD H (upd H m (.lst [])):=aD.upd hm;have hm1:upd H m (.lst []) m=some (.lst []):=upd_same;generalize upd H m (.lst [])=H1 at s1 hm1⊢;refine⟨_,rfl,d,v,H,rfl,s1,rep,qG tm,c,λl ws H2 s2 hl h2 rws=>⟨l,ws,rfl,h2,?_⟩⟩;have lw:=Reps.len rws;have lk:=oR d;have Z:m≠l:=λz=>by rw[z,hl]at hm1;cases hm1
  refine AO ws (SQ v fi fl m l sm (wlk d) ws H) ⟨[],none,none,rfl,s2 _ _ hm1,s1.trans s2,h2,by rw[Nat.sub_zero,List.drop_length];rfl⟩ (λi σ H3 _ ⟨_,_,_,_,_,_,h,_⟩=>h) ?_ ?_
  ·rintro i x σ H3 hi hx ⟨us,o4,o5,rfl,h3,s3,X,ru⟩;obtain⟨e,he,rx⟩:=Reps.get rws hx;rw[lw]at hi he;have hlt:(wlk d).length - 1 - i<(wlk d).length:=by omega
   have t:(wlk d).drop ((wlk d).length - (i+1))=e::(wlk d).drop ((wlk d).length - i):=by have e1:(wlk d)[(wlk d).length - 1 - i]=e:=(cr.mp he).2;rw[show(wlk d).length - (i+1)=(wlk d).length - 1 - i by omega,List.drop_eq_getElem_cons hlt,e1,show(wlk d).length - 1 - i+1=(wlk d).length - i by omega]
   have O:wlk d=(wlk d).take ((wlk d).length - (i+1))++e::(wlk d).drop ((wlk d).length - i):=by rw[←t,List.take_append_drop]
   obtain⟨rest,B⟩:=qD (qG tm) O;have sub:=oU tm e (bi he);have inS:∀y∈(wlk d).drop ((wlk d).length - i),y∈wlk d:=λy hy=>List.mem_of_mem_drop hy;have lS:((wlk d).drop ((wlk d).length - i)).length<=1000:=by rw[bx];omega
   generalize (wlk d).drop ((wlk d).length - i)=S at t O B inS lS ru;have W:Fls (prDs sm (stk S)):=eD λy hy=>by rw[cZ]at hy;obtain⟨z,hz1,rfl⟩:=cy.mp hy;exact xR (oU tm z (inS z (xG hz1))).tm
   have lu:=Reps.len ru;rw[List.length_reverse,cZ,ae]at lu;have ls:(stk S).length<=1000:=ao (xH S) lS;have keep:=aI q (aI U (aI la (aI sg (aI tm (aI c (aI hm (aI X (aI h3 (aI s3 (aI ru (aI rx (aI sub (aI t (aI B (aI W (aI lu (aI ls (aI Z he))))))))))))))))));clear q U la sg rep tm c hm X h3 s3 ru rx sub t B W lu ls Z he s1 hm1 s2 hl h2 rws lw lk hx hi hlt O inS lS
   walk_at "rd"
   obtain⟨q,U,la,sg,tm,c,hm,X,h3,s3,ru,rx,sub,t,B,W,lu,ls,Z,he⟩:=keep;rcases LX sub.tm with⟨y,rfl,_⟩|⟨n,ds,hd,dne,tms⟩
   ·cases (show x = .str y from rx);refine⟨true,rfl,?_⟩;rw[ai rfl];refine⟨tyL h3,_,rfl,fi,rfl,.inl ⟨_,.inl (s3 _ _ U)⟩,_,rfl,_,rfl,_,lL.k (k:=.inr y) (s3 _ _ U),us,h3,aj (m:=1000) (by omega) (by decide),us++[.str y],_,_,rfl,upd_same,λb o hb=>by rw[aE (aG hb hm)];exact s3 _ _ hb,by rw[aE Z.symm];exact X,?_⟩;rw[t,stk];show Reps _ (prDs sm (.str y::(stk S).drop 0)).reverse _;rw[List.drop_zero,prDs,List.reverse_cons];exact Reps.snoc (by unfold prD;rfl) (Reps.tups (aX.lst h3) (kW W) ru)
   ·obtain⟨va,L,rfl,hbb,hseq,lv⟩:∃va L,x = .ref va/\isV H3 (.ref va) (.ty "str")=some false/\i8 H va (.str n::L)/\L.length=ds.length:=by
     rcases hd with rfl|rfl
     ·obtain⟨a,vs,rfl,ha,_,L,rfl,e1,r⟩:=rx;cases e1;exact⟨a,L,rfl,gC (s3 _ _ ha),.inr ha,Reps.len r⟩
     ·obtain⟨a,vs,rfl,ha,_,L,rfl,e1,r⟩:=rx;cases e1;exact⟨a,L,rfl,tZ (s3 _ _ ha),.inl ha,Reps.len r⟩
    obtain⟨hfe,hpe⟩:=xQ sm hd;rw[hpe]at B;have wds:Wks ds:=lP tms;have hst:stk S=ds++stk rest:=by rw[B,lR wds]
    have hfs:prDs sm (stk S)=prDs sm ds++prDs sm (stk rest):=by rw[hst,cZ,ax,←cZ,←cZ]
    have lds:(prDs sm ds).length=ds.length:=by rw[cZ,ae]
    have lfs:(prDs sm (stk S)).length<=1000:=by rw[cZ,ae];exact ls
    refine⟨false,hbb,?_⟩;rw[ab (by decide)];refine⟨va,rfl,_,hseq.same s3,λ_ h=>by have:=h.1;simp[HT.sIx]at this,λp o hp ho=>?_⟩;rw[gT]at ho;refine⟨L,by rcases ho with⟨rfl,_⟩|⟨rfl,_⟩;exact .inl upd_same;exact .inr upd_same,λJ hJ=>?_⟩;have sp:aD H3 (upd H3 p o):=aD.upd hp;have hpo:upd H3 p o p=some o:=upd_same;have hmp:m≠p:=aG h3 hp;have hlp:l≠p:=aG X hp;generalize upd H3 p o=H4 at sp hpo hJ⊢;refine cU hJ (SR m l p ws o (prDs sm (stk S)) H) ⟨us,none,rfl,sp _ _ h3,s3.trans sp,sp _ _ X,hpo,by rw[List.drop_zero];exact Reps.same sp ru,rfl⟩ (λj Y σ H' _ ⟨_,_,_,_,_,_,h,_⟩=>by rw[h,hpo]) ?_ ?_
    ·rintro j y Y σ H5 hy ⟨us5,o0,rfl,h5,s5,hl5,hp5,r5,R⟩;have hj:j<ds.length:=by have:=(cr.mp hy).1;omega
     have hj2:j<(prDs sm (stk S)).length:=by rw[hfs,aq];omega
     rw[List.drop_eq_getElem_cons hj2,List.reverse_cons]at r5;obtain⟨us6,u,rfl,r6,ru6⟩:=dZ r5;have la':=Reps.len R;rw[bv]at la';have fu:Fl (prDs sm (stk S))[j]:=bM W _ (List.getElem_mem hj2);refine⟨_,rfl,tyL h5,m,_,u,rfl,rfl,h5,by simp,aj (m:=1000) (by omega) (by decide),?_⟩;rw[List.dropLast_concat];have tt:aX H5 (upd H5 m (.lst us6)):=aX.lst h5;refine⟨us6,_,rfl,upd_same,λb o hb=>by rw[aE (aG hb hm)];exact s5 _ _ hb,by rw[aE Z.symm];exact hl5,by rw[aE hmp.symm];exact hp5,Reps.tups tt (kW (pQ W (j+1))) r6,?_⟩;rw[bD (aw hj2)];exact Reps.snoc (aZ.tups tt fu ru6) (Reps.tups tt (AS W j) R)
    ·rintro Y σ H5 ⟨us5,o0,rfl,h5,s5,hl5,hp5,r5,R⟩ p6 hp6;have e1:(prDs sm (stk S)).take L.length=prDs sm ds:=by rw[hfs,lv,←lds,List.take_left]
     rw[e1]at R;have s6:aD H5 (upd H5 p6 (.lst Y)):=aD.upd hp6;have h66:upd H5 p6 (.lst Y) p6=some (.lst Y):=upd_same;have hmp6:m≠p6:=aG h5 hp6;generalize upd H5 p6 (.lst Y)=H6 at s6 h66⊢;have sH6:=s5.trans s6;have ix0:ixV H6 (.ref va) (.int 0)=some (.str n):=by
      rcases hseq.same sH6 with e|e
      ·rw[ixV_l e,atI_zero]
      ·rw[ixV_t e,atI_zero]
     refine⟨tyL (s6 _ _ h5),fl,rfl,_,rfl,.str n,ix0,_,rfl,c0,g,fx,sm,n,p6,prDs sm ds,Y,rfl,la.same sH6,sg.same sH6,h66,Reps.same s6 R,(λz=>by rw[z]at lds;exact absurd (List.length_eq_zero_iff.mp lds.symm) dne),(by rw[hfs,aq]at lfs;omega),λv' H7 s7 r7=>?_⟩;have h7:=s7 _ _ (s6 _ _ h5);have l5:=Reps.len r5;rw[List.length_reverse,bx]at l5;refine⟨us5,h7,aj (m:=1000) (by omega) (by decide),us5++[v'],_,_,rfl,upd_same,λb o hb=>by rw[aE (aG hb hm)];exact s7 _ _ (sH6 _ _ hb),by rw[aE Z.symm];exact s7 _ _ (s6 _ _ hl5),?_⟩;have tt:aX H7 (upd H7 m (.lst (us5++[v']))):=aX.lst h7;rw[t,stk,prDs,List.reverse_cons,hpe,FS,hfe];rw[lv]at r5;have fe:=xR (sm:=sm) sub.tm;rw[hfe]at fe;exact Reps.snoc (aZ.tups tt fe r7) (Reps.tups tt (kW (pQ W ds.length)) (Reps.same (s6.trans s7) r5))
  ·rintro σ H3 ⟨us,o4,o5,rfl,h3,s3,X,ru⟩;rw[lw,Nat.sub_self,List.drop_zero]at ru;have e:=xF (qG tm) [];rw[bn]at e;rw[e]at ru;obtain⟨u,r,rfl,r1,r2⟩:=ru;cases (show r=[]from r2);exact⟨_,rfl,u,by rw[ixV_l h3,atI_zero],q u H3 s3 r1⟩
end
end Lw
namespace L2
open PySem PySem.Spec PyProof.Rows PySem.W
theorem aO.grow {X:Cx}{a:c9}{σ:L2.St}{H:Hp}{s:Shared}{P:Addr}{ps more:iR}{h':Heap}{t':Nat}(I:aO X a σ H s)(i:H P=some (.tbl ps))(f:Heap.ExtBut P s.heap h')(l:h'.get? P=some (tabObj (ps++more))):aO X a σ (upd H P (.tbl (ps++more))) {s with heap:=h',toks:=t'}:=by
 have g:∀b,H b=none->b≠P:=λb e z=>by rw[z,i]at e;cases e
 have d:∀b u,H b=some u->(∀j,u≠.tbl j)->b≠P:=λb u e z w=>by rw[w,i]at e;cases e;exact z _ rfl
 refine I.un ⟨λb o e n _ _=>f b o (g b n) e,λb o e n _ _=>⟨o.slots,f b o (g b n) e⟩,λb o e n _=>by rw[aE (g b n)];exact n,λb o e _=>?_,λb xs e=>?_,λb o u e=>?_,λb j e=>?_⟩ (λb u e=>?_)
 ·by_cases z:b=P
  ·subst z;exact⟨_,l⟩
  ·exact⟨o,f b o z e⟩
 ·rw[aE (d b _ e λ_=>by simp)];exact e
 ·rw[aE (d b _ e λ_=>by simp)];exact e
 ·by_cases z:b=P
  ·subst z;rw[i]at e;cases e;exact⟨more,upd_same⟩
  ·exact⟨#[],by rw[aE z,e];simp⟩
 ·by_cases z:b=P
  ·subst z;rw[upd_same]at e;cases e;exact l
  ·rw[aE z]at e;refine(I.hok b u e).stay (λc o h q=>f c o ?_ q) (λc q=>by rw[aE (d c _ q λ_=>by simp)];exact q) (λc xs q=>by rw[aE (d c _ q λ_=>by simp)];exact q);rcases h with rfl|h
   ·exact z
   ·exact d c _ h λ_=>by simp
end L2
namespace Lw
open PySem PySem.Spec PyProof.Rows PySem.W L2
noncomputable def QB (e:Expr):Pos:=match e with
 | .Lambda _ _ _ p=>p
 | _=>⟨0,0,0,0⟩
noncomputable abbrev xP:Pos:=QB (yD cS)
def qB (P:Addr)(H:Hp):Prop:=H P=some (.tbl #[])∨∃(a:Addr) (oc':Obj) (vsc:iR) (tq:Tok),H P=some (.tbl #[rawInt xP.line,rawInt xP.col,.ref a])/\H a=some (pinO a oc')/\oc'.data = .fields vsc/\vsc[1]?=some (.str qP tq)
theorem qB.same {P:Addr}{H H':Hp}(h:qB P H)(s:aD H H'):qB P H':=by
 rcases h with h|⟨g,b,a,c,f,e,d⟩
 ·exact .inl (s _ _ h)
 ·exact .inr ⟨g,b,a,c,s _ _ f,s _ _ e,d⟩
def Bm (mg:jF)(base:Heap):Prop:=∃a o,mg "__builtins__" = some (.ref a)/\a≠builtinsNs/\a≠mainGlobals/\base.get? a=some o/\o.cls = .type "module"/\o.dict=some builtinsNs/\o.data = .plain
def LY (P a:Addr):TE:=λσ H Q=>qB P H/\∀(fl b:Addr) (pm ctv:Value) (oc':Obj) (vsc:iR) (tq:Tok) (H':Hp),cG P H H'->qB P H'->H' fl=some (pinO fl (oP a b pm ctv))->H' b=some (pinO b oc')->oc'.data = .fields vsc->vsc[1]?=some (.str qP tq)->H a=none->H' a=none->Q (.ref fl) H'
theorem FY {X:Cx}{c P i:Addr}(x:closureFor scP X.env=pure [(("signs" : Str),i)])(g:X.env.cells.lookup ("signs" : Str)=some i)(l:X.env.code = .ref c)(hq:X.env.qual++"<lambda>" = qP)(hC:∀h,X.K.In h->CodeHd h c P)(hB:Bm X.mg X.base):PE X (.Lambda pP bP scP xP) (LY P i):=by
 intro p s σ H Q I h;obtain⟨lt,q⟩:=h;have hg:s.heap.Ns mainGlobals X.mg:=I.mod.glob.keeps I.bk;have L:∃ps,H P=some (.tbl ps):=by
  rcases lt with h|⟨_,_,_,_,h,_⟩
  ·exact⟨_,h⟩
  ·exact⟨_,h⟩
 obtain⟨ps,t⟩:=L;have B:s.heap.get? P=some (tabObj ps):=I.hok P _ t;have nb:∀b o,X.base.get? b=some o->b≠P:=λb o e z=>by have:=(I.bs b o e).2;rw[z,t]at this;cases this
 have J:mainGlobals≠P:=by obtain⟨o,es,ep,e,_⟩:=I.mod.glob;exact nb _ _ e
 have hb:s.heap.BuiltinsAt X.mg P:=by obtain⟨bm,o,b1,b2,b3,b4,b5,b6,b7⟩:=hB;exact⟨bm,o,b1,b2,b3,nb _ _ b4,I.bk _ _ b4,b5,b6,b7⟩
 have Z:=I.freeC _ _ g;refine kla_eval rfl ?_;rw[hq];rcases lt with lt|⟨a,f,j,u,lt,l2,l3,l4⟩
 ·rw[t]at lt;cases lt;refine kla_makeFunction x I.ok.glob hg l (hC _ I.kIn) B trivial rfl J hb λa d h' tk hx m w v F=>?_;obtain⟨c2,f,j,u,e2,G,hd,hv⟩:=v;cases e2;have I1:aO X p σ (upd H P (.tbl (#[] ++ #[rawInt xP.line,rawInt xP.col,.ref a]))) {s with heap:=h',toks:=tk}:=I.grow t hx F;have Y:P≠a:=λz=>by have:=az B;rw[z]at this;exact cf _ (bf this m)
  have nc':H a=none:=I.hok.fresh m;have fc:=I.fpOk (H':=upd H P (.tbl (#[] ++ #[rawInt xP.line,rawInt xP.col,.ref a]))) m (by rw[aE Y.symm];exact nc');have T:=I1.adopt (o:=pinO a f) fc (xS G);have U:s.heap.objs.size<=h'.objs.size:=ao m (Nat.le_of_lt w);have S:=T.kept (t':=tk) λb o e=>af (oP i a ((X.mg "__name__").getD .none) d) e;have R:=T.fpOk (ac h'.objs.size) (T.hok.fresh (ac _));have O:(h'.push (oP i a ((X.mg "__name__").getD .none) d)).get? h'.objs.size=some (oP i a ((X.mg "__name__").getD .none) d):=ar _ rfl;have A:=S.adopt (o:=pinO h'.objs.size (oP i a ((X.mg "__name__").getD .none) d)) R (xS O);have C:a≠h'.objs.size:=bo w;have E:P≠h'.objs.size:=λz=>by have:=az B;rw[z]at this;exact cf _ (bf this U)
  have r:upd (upd (upd H P (.tbl (#[] ++ #[rawInt xP.line,rawInt xP.col,.ref a]))) a (pinO a f)) h'.objs.size (pinO h'.objs.size (oP i a ((X.mg "__name__").getD .none) d)) a=some (pinO a f):=by rw[aE C];exact upd_same
  have N:upd (upd (upd H P (.tbl (#[] ++ #[rawInt xP.line,rawInt xP.col,.ref a]))) a (pinO a f)) h'.objs.size (pinO h'.objs.size (oP i a ((X.mg "__name__").getD .none) d)) P=some (.tbl #[rawInt xP.line,rawInt xP.col,.ref a]):=by rw[aE E,aE Y,upd_same];rfl
  refine⟨.ref h'.objs.size,_,A,rfl,q _ a _ d f j u _ (λb o nb e=>?_) (.inr ⟨a,f,j,u,N,r,hd,hv⟩) upd_same r hd hv Z (A.freeC _ _ g)⟩;have lb:=I.hok.lt e;rw[aE (λz=>by rw[z]at lb;exact cf _ (bf lb U)),aE (aG e nc'),aE nb];exact e
 ·rw[t]at lt;cases lt;have am:codeAmong xP [rawInt xP.line,rawInt xP.col,.ref a]=some (.ref a):=by simp[codeAmong,rawInt]
  refine kla_makeFunctionHit (cv:=.ref a) x I.ok.glob hg l (hC _ I.kIn) B trivial am hb λd h' tk hk hsz=>?_;have S:aO X p σ H {s with heap:=h'.push (oP i a ((X.mg "__name__").getD .none) d),toks:=tk}:=I.kept λb o e=>af _ (hk b o e);have W:=I.hok.fresh hsz;have R:=I.fpOk hsz W;have O:(h'.push (oP i a ((X.mg "__name__").getD .none) d)).get? h'.objs.size=some (oP i a ((X.mg "__name__").getD .none) d):=ar _ rfl;have A:=S.adopt (o:=pinO h'.objs.size (oP i a ((X.mg "__name__").getD .none) d)) R (xS O);have sm:aD H (upd H h'.objs.size (pinO h'.objs.size (oP i a ((X.mg "__name__").getD .none) d))):=aD.upd W;exact⟨.ref h'.objs.size,_,A,rfl,q _ a _ d f j u _ (λb o _ e=>sm b o e) (.inr ⟨a,f,j,u,sm _ _ t,sm _ _ l2,l3,l4⟩) upd_same (sm _ _ l2) l3 l4 Z (A.freeC _ _ g)⟩
def tFWcP (K:PySem.W.Frag)(C b:Addr)(t:TA):TE:=λσ H Q=>t σ H λvs c=>∃g,σ[0]?=some (some (.ref g))/\∀a:Obj,a.data = .cell (some (.ref g))->c b=none->spFWP K C vs (upd c b (pinO b a)) (λv H'=>H' b=some (pinO b a)/\Q v (del1 H' b)) E0
theorem PD {X:Cx}{C i:Addr}{k:Nat}{e:Expr}{es:lM}{t:TA}{p G:Pos}(O:dP X.prog X.w X.K X.mg X.base bN k "from_within" (spFWP X.K C))(hr:eP k X.A)(hg:Gl X "from_within")(hN:X.N[0]?=some ("signs" : Str))(l:X.env.scope.names.lookup ("signs" : Str)=some .cell)(d:X.env.cells.lookup ("signs" : Str)=some i)(hfn:X.fn "signs" = true)(ha:PA X (e::es) t)
  (he:starEach (e::es) X.env=(false,eval e X.env)::starEach es X.env:=by rfl) (hpl:(backTo G (starEach es X.env)).any (·.1)=false:=by rfl):PE X (.Call (.Name "from_within" p) (e::es) [] G) (tFWcP X.K C i t):=by
 obtain⟨f,fd,ps,F,hm,hk,hb⟩:=O;intro P s σ H Q I h;refine wpAny_Call_Name_kw (sR I hg hm ?_ (by decide));refine PySem.W.callWith_K (h₀:=X.base) I.ok.mod.kin hk (thn (ha G P s σ H _ I h) λus L ⟨vs,H1,B,r,q⟩=>⟨B.kIn,?_⟩) he hpl;obtain⟨g,hσ,q⟩:=q;have n0:=B.freeC _ _ d;have j:=B.ok.cab _ _ hfn d;obtain⟨a,ho,hd⟩:∃a,L.heap.get? i=some a/\a.data = .cell (some (.ref g)):=by
  obtain⟨m,hns,hl⟩:=B.loc;obtain⟨u,ru,look⟩:=hl 0 _ _ hN hσ (.inr (.inl l));cases ru;rcases look with⟨z,_⟩|⟨_,c,hc,a,ho,hd⟩
  ·have z':X.env.scope.names.lookup ("signs" : Str)=some .local:=z;rw[l]at z';cases z'
  ·rw[d]at hc;cases hc;exact⟨a,ho,hd⟩
 have sp:=q a hd n0;have E:=B.env0;have nl:i≠X.env.locals:=λz=>by obtain⟨m,⟨o,es',ep,Y,e2,_⟩,_⟩:=B.loc;rw[←z,ho]at Y;cases Y;rw[hd]at e2;cases e2
 have R:∀b∈frs X.stack,b≠i:=λb hb z=>by
  rcases cu.mp (B.stkSub b hb)with w|w
  ·exact nl (z ▸ w)
  ·obtain⟨_,o,Y,_⟩:=B.ok.funs.mem w;exact cf _ (bf (az Y) (z ▸ j))
 have hl:(us++[]).length=ps.length:=by have:=F.len _ _ _ _ sp;rw[bn,←r.length];exact this
 have ne:∀b o,X.base.get? b=some o->b≠i:=λb o e z=>cf _ (bf (az (B.ok.bs b o e).1) (z ▸ j));have env:y3 X.prog X.w X.K X.mg X.base X.A X.stack L (upd H1 i (pinO i a)):=⟨E.frames,E.mod,λb o e=>⟨(E.bs b o e).1,by rw[aE (ne b o e)];exact(E.bs b o e).2⟩,E.bsz,E.funs,λb z=>by rw[aE (R b z)];exact E.frf b z,E.hok.back n0 ho,E.bare⟩
 refine wpAny_call (codeAny_mono (F.run X.A X.stack L _ ⟨us,[]⟩ us vs _ E0 hr env (by have:=hb L us B.kIn hl;rw[bn]at this;exact this) r sp) λres s' S=>?_);cases res with
 | error x=>exact S.elim
 | ok fl' =>
  cases fl' with
  | ret u =>
   obtain⟨v,H',os,bare,un,hok,rv,T,qq⟩:=S;have g0:=pG hok T;have nb:∀b u,H1 b=some u->b≠i:=λb u e=>aG e n0;have Z:Un (frs X.stack) [] H1 (del1 H' i) L.heap s'.heap:=by
    refine⟨λb o e n U J=>?_,λb o e n U J=>?_,λb o e n J=>?_,λb o e J=>un.there b o e J,λb xs e=>?_,λb o u' e=>?_,λb qs e=>?_⟩
    ·by_cases z:b=i
     ·subst z;rw[ho]at e;cases e;exact g0
     ·exact un.keep b o e (by rw[aE z];exact n) U J
    ·exact un.slot b o e (by rw[aE (R b U)];exact n) U J
    ·by_cases z:b=i
     ·subst z;exact nG
     ·exact iP (un.free b o e (by rw[aE z];exact n) J)
    ·rw[dS (nb b _ e)];exact un.tups b xs (by rw[aE (nb b _ e)];exact e)
    ·rw[dS (nb b _ e)];exact un.frzs b o u' (by rw[aE (nb b _ e)];exact e)
    ·rw[dS (nb b _ e)];exact un.tbls b qs (by rw[aE (nb b _ e)];exact e)
   exact⟨v,_,B.call' (ch:=[]) os Z (hok.del T) bare (λb z=>absurd z (by simp)),rv,qq⟩
  | next=>exact S.elim
  | brk=>exact S.elim
  | cont=>exact S.elim
end Lw
namespace Lw
open PySem L2
section
variable {P:Program}{w:World}{K:PySem.W.Frag}{mg:jF}{base:Heap}
theorem qB.tbl {Pt:Addr}{H:Hp}(h:qB Pt H):∃ps,H Pt=some (.tbl ps):=by
 rcases h with h|⟨_,_,_,_,h,_⟩
 ·exact⟨_,h⟩
 ·exact⟨_,h⟩
theorem qB.rep {Pt:Addr}{H H':Hp}(h:qB Pt H)(b:cG Pt H H'){d:D}{v:V}(r:aZ H d v):aZ H' d v:=by obtain⟨ps,e⟩:=h.tbl;exact aZ.but b (λxs z=>by rw[e]at z;cases z) (λxs z=>by rw[e]at z;cases z) r
theorem qB.ne {Pt:Addr}{H:Hp}(h:qB Pt H){a:Addr}{o:HO}(e:H a=some o)(n:∀ps,o≠.tbl ps):a≠Pt:=λz=>by obtain⟨ps,b⟩:=h.tbl;rw[z,b]at e;cases e;exact n _ rfl
theorem qB.sg {Pt C g:Addr}{e:cH}{sm:bH}{H H':Hp}(h:qB Pt H)(b:cG Pt H H')(s:iK K C e sm H g):iK K C e sm H' g:=by obtain⟨r,q,p,m,fs,o,dn,d,l,j,i,f,c,a⟩:=s;exact⟨r,q,p,m,fs,o,dn,b _ _ (h.ne d λ_=>by simp) d,l,j,i,f,b _ _ (h.ne c λ_=>by simp) c,b _ _ (h.ne a λ_=>by simp) a⟩
def tE (K:PySem.W.Frag)(C Pp:Addr):Sp:=λvs H Q _=>∃(g:Addr) (fx:cH) (sm:bH) (os:aS) (d:D) (v:V),vs=[.ref g,v]/\iK K C fx sm H g/\aZ H d v/\RB fx sm os d/\qB Pp H /\
 ∀(a:V) (H':Hp),cG Pp H H'->qB Pp H'->aZ H' (prD sm d) a->Q a H'
theorem F4 {f C c Pp:Addr}{oc:Value}{od X:Option Addr}{osl:Array (Option Value)}{kV u x ct:Value}(lk:K.lookup f=some ⟨oc,od,.func (PySem.W.fnOf "paired" "paired" (c6 cS) (cP cS) (aJ cS) .none kV u x X (.ref c) ct),osl⟩)(l:PySem.W.codeIn K (.ref c) "paired" = true)
  (hC:∀h,K.In h->PySem.W.CodeHd h c Pp) (hB:Bm mg base) (i:dP P w K mg base bN 3 "check_term" (DN K C)) (a:dP P w K mg base bN 8 "from_within" (spFWP K C)):bY P w K mg base bN 9 f (PySem.W.fnOf "paired" "paired" (c6 cS) (cP cS) (aJ cS) .none kV u x X (.ref c) ct) uO (tE K C Pp):=by
 refine NP lk l FP (λvs H Q E h=>?_) (λA outer s H vs Q E U h=>?_)
 ·obtain⟨g,O,sm,os,d,v,rfl,_⟩:=h;rfl
 ·obtain⟨g,O,sm,os,d,v,rfl,sg,rep,tm,lt,q⟩:=h
  refine⟨_,(aC (bZ (aM i (U.mono (by decide)) pass0 rfl (aA (pv 0) (aA (pv 1) aB))))
   (aH (aN (PD a (U.mono (by decide)) rfl rfl rfl rfl rfl (aA (pv 1) (@MP _ _ _ _ (aA (FY rfl rfl rfl rfl hC hB) aB))))))),?_⟩
  try dsimp only[cxOf,Cx.nox]
  refine⟨_,rfl,_,rfl,g,O,sm,os,d,v,rfl,sg,tm.so,tm.ho,rep,tm.tm,ao tm.lv (by decide),ao tm.dp (by decide),tm.nd,λS s1=>?_⟩;refine⟨_,rfl,λt J=>?_⟩;have s2:aD H (upd S t (.dK [])):=s1.trans (aD.upd J);have f2:upd S t (.dK []) t=some (.dK []):=upd_same;generalize upd S t (.dK [])=H2 at s2 f2⊢;have j:=lt.same s2;refine⟨j,λfl c' x R F z Z H' bt G I N l hv n0 r=>⟨g,rfl,λp L _=>?_⟩⟩;have m:aD H' (upd H' (s.heap.objs.size+1) (pinO (s.heap.objs.size+1) p)):=aD.upd r;refine⟨t,fl,s.heap.objs.size+1,g,O,sm,d,v,rfl,m _ _ (bt _ _ (j.ne f2 λ_=>by simp) f2),⟨c',x,R,p,F,z,Z,m _ _ I,upd_same,L,m _ _ N,l,hv⟩,(j.sg bt (sg.same s2)).same m,aZ.same m (j.rep bt (aZ.same s2 rep)),(nN tm.so tm.ho tm.tm).1,tm.nd,λY H3 B r3=>⟨B _ _ upd_same,?_⟩⟩;have T:aD H' (del1 H3 (s.heap.objs.size+1)):=λb o e=>by rw[dS (aG e r)];exact B _ _ (m _ _ e)
  exact q Y _ (λb o nb e=>T _ _ (bt b o nb (s2 _ _ e))) (G.same T) (aZ.del1 (B _ _ upd_same) r3)
end
mutual
/-- texts and tuples,each sum of two parts -/
def Pd (sm:bH):D->Prop
 | .str _=>True
 | .tup (.str n::ds)=>(zr sm n≠none->ds.length=2)/\Pds sm ds
 | _=>False
def Pds (sm:bH):List D->Prop
 | []=>True
 | d::ds=>Pd sm d/\Pds sm ds
end
section
variable {fx:cH}{sm:bH}{os:aS}
theorem D1:∀{ds:List D},Pds sm ds ↔ ∀e∈ds,Pd sm e
 | []=>⟨λ_ _ h=>(nomatch h),λ_=>trivial⟩
 | d::ds=>by unfold Pds;rw[D1,List.forall_mem_cons]
theorem RM (so:bF fx sm){d:D}(h:bB fx sm os d):Pd sm (prD sm d):=by
 refine xC (P:=λd=>Pd sm (prD sm d)) (λx _=>by rw[sI];unfold Pd;trivial) (λn ds d hd i _ f=>?_) h;have all:∀e∈prDs sm ds,Pd sm e:=λe c=>by rw[cZ]at c;obtain⟨x,g,rfl⟩:=cy.mp c;exact f x g
 rw[(xQ sm hd).1];unfold pr;cases e:zr sm n with
 | none =>
  dsimp only;unfold Pd;exact⟨λz=>absurd e z,D1.mpr all⟩
 | some z =>
  have ne:prDs sm ds≠[]:=λz=>by have:=kU i;rw[cZ,List.map_eq_nil_iff]at z;rw[z]at this;simp at this
  exact sU (λd e a b=>by unfold Pd;exact⟨λ_=>rfl,a,b,trivial⟩) ne all
noncomputable def backK (k:Str):Str:=if k="left" then "right" else if k="right" then "left" else if k="drop" then "add" else if k="add" then "drop" else k
noncomputable def kinds:aS:=["turn","left","right","drop","add"]
theorem BR {n:Str}{a b:D}:bB fx sm os (.tup [.str n,a,b]) ↔ nM fx sm n 2/\bB fx sm os a/\bB fx sm os b:=by
 constructor
 ·intro h;unfold bB at h;exact⟨h.1,h.2.1,h.2.2.1⟩
 ·intro h;unfold bB;exact⟨h.1,h.2.1,h.2.2,trivial⟩
theorem eL (n:Str)(a b:D):lvs (.tup [.str n,a,b])=lvs a+lvs b/\nds (.tup [.str n,a,b])=1+(nds a+nds b)/\depD (.tup [.str n,a,b])=max (depD a) (depD b)+1/\flt sm (.tup [.str n,a,b])=knot sm n [flt sm a,flt sm b]:=by obtain⟨g,f,e,c,_⟩:=eB (sm:=sm) (d:=.tup [.str n,a,b]) (.inl rfl);refine⟨by rw[g];simp only[lvss];omega,by rw[f];simp only[ndss];omega,by rw[e];simp only[depDs];omega,by rw[c];rfl⟩
theorem KM {b:D}{z:Str}(h:eqD b (.str z)=true):b = .str z:=by
 cases b with
 | str x=>unfold eqD at h;rw[bu h]
 | _=>unfold eqD at h;simp at h
theorem GA (so:bF fx sm){n z:Str}(hz:zr sm n=some z)(ne:z≠("" : Str)):bB fx sm os (.str z):=by obtain⟨r,a,_,rfl⟩:=DB hz;unfold bB;exact .inr (so.nought r a ne)
end
mutual
def Nl:D->Prop
 | .tup ds=>Nls ds
 | .lst _=>False
 | _=>True
def Nls:List D->Prop
 | []=>True
 | d::ds=>Nl d/\Nls ds
end
mutual
theorem aZ.nl {H H':Hp}(s:aX H H'):∀{d:D} {v:V},Nl d->aZ H d v->aZ H' d v
 | .non,_,_,h | .bl _,_,_,h | .int _,_,_,h | .str _,_,_,h=>h
 | .tup _,_,n,⟨a,vs,e,h,r⟩=>⟨a,vs,e,s _ _ h,Reps.nl s (by unfold Nl at n;exact n) r⟩
 | .lst _,_,n,_=>by unfold Nl at n;exact n.elim
theorem Reps.nl {H H':Hp}(s:aX H H'):∀{ds:List D} {vs:List V},Nls ds->Reps H ds vs->Reps H' ds vs
 | [],_,_,h=>h
 | _::_,_,⟨a,b⟩,⟨v,r,e,h,q⟩=>⟨v,r,e,aZ.nl s a h,Reps.nl s b q⟩
end
theorem qQ:∀{ds:List D},(∀d∈ds,Nl d)->Nls ds
 | [],_=>trivial
 | d::ds,h=>⟨h d av,qQ λe k=>h e (ay _ k)⟩
mutual
theorem OH:∀{d:D},Fl d->Nl d
 | .str _,_=>trivial
 | .tup (.str n::ds),h=>by unfold Fl at h;unfold Nl;exact⟨trivial,KI h⟩
 | .non,h | .bl _,h | .int _,h | .lst _,h | .tup [],h | .tup (.non::_),h | .tup (.bl _::_),h | .tup (.int _::_),h | .tup (.tup _::_),h | .tup (.lst _::_),h=>by unfold Fl at h;exact h.elim
theorem KI:∀{ds:List D},Fls ds->Nls ds
 | [],_=>trivial
 | _::_,⟨a,b⟩=>⟨OH a,KI b⟩
end
abbrev S3:=Str×List Nat×Str
noncomputable def iD (p:List Nat):D:=.tup (p.map λ(i:Nat)=>D.int (i:Int))
noncomputable def stD (s:S3):D:=.tup [.str s.1,iD s.2.1,.str s.2.2]
noncomputable def rwD (r:List Nat×D):D:=.tup [iD r.1,r.2]
theorem EA:∀p:List Nat,Nls (p.map λ(i:Nat)=>D.int (i:Int))
 | []=>trivial
 | _::p=>⟨trivial,EA p⟩
theorem OE (p:List Nat):Nl (iD p):=by unfold iD Nl;exact EA p
theorem RT (s:S3):Nl (stD s):=by unfold stD Nl;exact⟨trivial,OE _,trivial,trivial⟩
theorem D9 {r:List Nat×D}(h:Fl r.2):Nl (rwD r):=by unfold rwD Nl;exact⟨OE _,OH h,trivial⟩
theorem i3 (l:List S3):Nls (l.map stD):=qQ λd hd=>by obtain⟨s,_,rfl⟩:=cy.mp hd;exact RT s
noncomputable def iV (p:List Nat):List V:=p.map λ(i:Nat)=>V.int (i:Int)
theorem IP {H:Hp}{pa:Addr}{p:List Nat}(h:H pa=some (.tup (iV p))):aZ H (iD p) (.ref pa):=by
 unfold iD;refine⟨pa,_,rfl,h,?_⟩;clear h
 induction p with
 | nil=>rfl
 | cons i p a=>exact⟨_,_,rfl,rfl,a⟩
theorem KD {H:Hp}{p:List Nat}{v:V}(h:aZ H (iD p) v):∃pa,v = .ref pa/\H pa=some (.tup (iV p)):=by
 unfold iD at h;obtain⟨a,vs,rfl,h,r⟩:=h;refine⟨a,rfl,h.trans ?_⟩;congr 2;clear h
 induction p generalizing vs with
 | nil=>cases (show vs=[]from r);rfl
 | cons i p b =>
  obtain⟨v,r,rfl,rfl,q⟩:=r;rw[b _ q];rfl
theorem oV {H:Hp}{T pa:Addr}{k n:Str}{p:List Nat}(h:H T=some (.tup [.str k,.ref pa,.str n]))(a:H pa=some (.tup (iV p))):aZ H (stD (k,p,n)) (.ref T) :=
 ⟨T,_,rfl,h,_,_,rfl,rfl,_,_,rfl,IP a,_,_,rfl,rfl,rfl⟩
theorem OZ {H:Hp}{s:S3}{v:V}(h:aZ H (stD s) v):∃T pa,v = .ref T/\H T=some (.tup [.str s.1,.ref pa,.str s.2.2])/\H pa=some (.tup (iV s.2.1)):=by obtain⟨T,vs,rfl,h,_,r,rfl,rfl,v,d,rfl,a,_,c,rfl,rfl,e⟩:=h;cases e;obtain⟨pa,rfl,b⟩:=KD a;exact⟨T,pa,rfl,h,b⟩
theorem IJ {H:Hp}{T pa:Addr}{p:List Nat}{d:D}{v:V}(h:H T=some (.tup [.ref pa,v]))(a:H pa=some (.tup (iV p)))(r:aZ H d v):aZ H (rwD (p,d)) (.ref T) :=
 ⟨T,_,rfl,h,_,_,rfl,IP a,_,_,rfl,r,rfl⟩
theorem II {H:Hp}{r:List Nat×D}{v:V}(h:aZ H (rwD r) v):∃T pa u,v = .ref T/\H T=some (.tup [.ref pa,u])/\H pa=some (.tup (iV r.1))/\aZ H r.2 u:=by obtain⟨T,vs,rfl,h,v,r,rfl,b,u,d,rfl,a,e⟩:=h;cases e;obtain⟨pa,rfl,c⟩:=KD b;exact⟨T,pa,u,rfl,h,c,a⟩
mutual
noncomputable def plw (p:List Nat):D->List (List Nat×D)
 | .tup (.str n::ds)=>(p,.tup (.str n::ds))::plws p 0 ds
 | d=>[(p,d)]
noncomputable def plws (p:List Nat)(k:Nat):List D->List (List Nat×D)
 | []=>[]
 | d::ds=>plw (p++[k]) d++plws p (k+1) ds
end
noncomputable def chR (p:List Nat)(k:Nat):List D->List (List Nat×D)
 | []=>[]
 | d::ds=>(p++[k],d)::chR p (k+1) ds
theorem DV (p:List Nat):∀(ds:List D) (k:Nat),plws p k ds=(chR p k ds).flatMap λr=>plw r.1 r.2
 | [],_=>rfl
 | d::ds,k=>by rw[plws,chR,List.flatMap_cons,DV p ds]
theorem AZ (p:List Nat)(e:D):∀(ds:List D) (k:Nat),chR p k (ds++[e])=chR p k ds++[(p++[k+ds.length],e)]
 | [],k=>rfl
 | d::ds,k=>by rw[List.cons_append,chR,AZ p e ds,chR,List.cons_append,ap,Nat.add_assoc,Nat.add_comm 1]
theorem yR (p:List Nat):∀(ds:List D) (k:Nat),(chR p k ds).length=ds.length
 | [],_=>rfl
 | d::ds,k=>by rw[chR,ap,yR p ds,ap]
theorem E9 {p:List Nat}{r:List Nat×D}:∀{ds:List D} {k:Nat},r∈chR p k ds->r.2∈ds/\r.1.length=p.length+1
 | d::ds,k,h=>by
  rw[chR]at h;obtain rfl|h:=cu.mp h
  ·exact⟨av,by simp⟩
  ·obtain⟨a,b⟩:=E9 h;exact⟨ay _ a,b⟩
mutual
theorem DW:∀{d:D},Fl d->∀p,(plw p d).map (·.2)=wlk d
 | .str x,_,p=>by unfold plw wlk;rfl
 | .tup (.str n::ds),h,p=>by unfold Fl at h;rw[plw,wlk,bd,zO h]
 | .non,h,_ | .bl _,h,_ | .int _,h,_ | .lst _,h,_ | .tup [],h,_ | .tup (.non::_),h,_ | .tup (.bl _::_),h,_ | .tup (.int _::_),h,_ | .tup (.tup _::_),h,_ | .tup (.lst _::_),h,_=>by unfold Fl at h;exact h.elim
theorem zO:∀{ds:List D},Fls ds->∀p k,(plws p k ds).map (·.2)=wlks ds
 | [],_,_,_=>rfl
 | d::ds,⟨a,b⟩,p,k=>by rw[plws,ax,DW a,zO b,wlks]
end
mutual
theorem DX:∀(d:D) (p:List Nat),∀r∈plw p d,r.1.length+depD r.2<=p.length+depD d
 | .tup (.str n::ds),p,r,h=>by
  rw[plw]at h;obtain rfl|h:=cu.mp h
  ·exact ac _
  ·have:=zP ds p 0 r h;rw[depD,depDs];omega
 | .non,p,r,h | .bl _,p,r,h | .int _,p,r,h | .str _,p,r,h | .lst _,p,r,h | .tup [],p,r,h | .tup (.non::_),p,r,h | .tup (.bl _::_),p,r,h | .tup (.int _::_),p,r,h | .tup (.tup _::_),p,r,h | .tup (.lst _::_),p,r,h=>by unfold plw at h;rw[cs.mp h];exact ac _
theorem zP:∀(ds:List D) (p:List Nat) (k:Nat),∀r∈plws p k ds,r.1.length+depD r.2<=p.length+1+depDs ds
 | d::ds,p,k,r,h=>by
  rw[plws]at h;rw[depDs];rcases cx.mp h with m|m
  ·have:=DX d (p++[k]) r m;rw[aq,cm]at this;omega
  ·have:=zP ds p (k+1) r m;omega
end
noncomputable def ones (k:Nat):List Nat:=List.replicate k 1
noncomputable def cntB (m:D)(bs:List D):Nat:=(bs.filter λb=>lexK (key b) (key m)).length
noncomputable def inw1 (n:Str)(p:List Nat)(a i:Nat):List S3:=if i+1=a then [("turn",p++ones i,n)]else [("left",p++ones i,n),("turn",(p++ones i)++[0],n),("right",p++ones i,n)]
noncomputable def inw (n:Str)(p:List Nat)(m:D)(bs:List D):List S3:=(List.range (cntB m bs)).flatMap (inw1 n p bs.length)
noncomputable def sdn (n:Str)(p:List Nat)(fr:List D):Nat->List D->List S3
 | 0,_=>[]
 | k+1,bs=>match fr[k]? with
  | some m=>inw n (p++ones k) m bs++sdn n p fr k (bs++[m])
  | none=>[]
noncomputable def rgt (n:Str)(p:List Nat)(k:Nat):List S3:=(List.range k).map λi=>("right",p++ones i,n)
noncomputable def ssum (n z:Str)(p:List Nat)(x y:D):List S3 :=
 if eqD y (.str z)=true then [("drop",p,n)]
 else if eqD x (.str z)=true then [("turn",p,n),("drop",p,n)]
 else rgt n p ((opP n x).length - 1)++sdn n p (opP n x) (opP n x).length (opP n y)
noncomputable def nodeS (sm:bH)(r:List Nat×D):List S3:=match r.2 with
 | .tup [.str n,x,y]=>(match zr sm n with
  | some z=>ssum n z r.1 (flt sm x) (flt sm y)
  | none=>[])
 | _=>[]
noncomputable def ledS (sm:bH)(d:D):List S3:=(plw [] d).reverse.flatMap (nodeS sm)
theorem C1 (m:D)(bs:List D):cntB m bs<=bs.length:=List.length_filter_le _ _
theorem mN {α β:Type}(f:α->List β)(c:Nat):∀(l:List α),(∀a∈l,(f a).length<=c)->(l.flatMap f).length<=l.length * c
 | [],_=>au _
 | a::l,h=>by have g:=h a av;have e:=mN f c l λb d=>h b (ay _ d);rw[List.flatMap_cons,aq,ap,Nat.add_mul];omega
theorem EO (n:Str)(p:List Nat)(m:D)(bs:List D):(inw n p m bs).length<=bs.length * 3:=by
 have a:=mN (inw1 n p bs.length) 3 (List.range (cntB m bs)) λi _=>by unfold inw1;split <;> simp
 rw[List.length_range]at a;exact ao a (Nat.mul_le_mul_right 3 (C1 m bs))
theorem xJ {n:Str}{p:List Nat}{fr:List D}{c:Nat}:∀(k:Nat) (bs:List D),bs.length+k<=c->(sdn n p fr k bs).length<=k * (c * 3)
 | 0,_,_=>au _
 | k+1,bs,h=>by
  rw[sdn];split
  ·rename_i m _;have b:=EO n (p++ones k) m bs;have a:=xJ (fr:=fr) (n:=n) (p:=p) (c:=c) k (bs++[m]) (by rw[aq,cm];omega);rw[aq,Nat.add_mul];omega
  ·exact au _
theorem HZ {n z:Str}{p:List Nat}{x y:D}(h:(opP n x).length+(opP n y).length<=60):(ssum n z p x y).length<=12000:=by
 unfold ssum;split
 ·simp
 ·split
  ·simp
  ·have b:=xJ (n:=n) (p:=p) (fr:=opP n x) (c:=60) (opP n x).length (opP n y) (by omega);rw[aq,rgt,ae,List.length_range];have a:(opP n x).length * (60 * 3)<=60 * (60 * 3):=Nat.mul_le_mul_right _ (by omega);omega
section
variable {P:Program}{w:World}{K:PySem.W.Frag}{mg:jF}{base:Heap}
theorem GJ {c:Nat}(h:97<=c/\c<=122):inTx "abcdefghijklmnopqrstuvwxyz" c=true:=by
 have a:∀j:Fin 26,inTx "abcdefghijklmnopqrstuvwxyz" (97+j.1)=true:=by decide +kernel
 have:=a ⟨c - 97,by omega⟩;rw[show 97+(c - 97)=c by omega]at this;exact this
def IB:Sp:=λvs H Q _=>∃x:Str,vs=[.str x]/\jU x/\∀H',aD H H'->Q (.bl true) H'
theorem M9 {f:Addr}{r:FuncData}(F:gG K "is_name" "is_name" j6 f r)(T:Txt mg):bY P w K mg base bN 1 f r wZ IB:=by
 refine F.ok BZ (λvs H Q E h=>?_) (λB A outer s H vs Q E j h=>?_)
 ·obtain⟨x,rfl,_⟩:=h;rfl
 ·obtain⟨x,rfl,g,q⟩:=h;have t:=j.units
  refine⟨_,(aC (bL (PW.pt (lY (eK (aV K rfl (aL aK rfl T.n_isinstance rfl (aA (pv 0) (aA (bR (v:=V.ty "str") rfl T.n_str rfl rfl) aB))) (λ_=>rfl))) (iW (eK (j7 mF mF aF (aL bK rfl T.n_len rfl (aA (pv 0) aB)) (fH T.c_LONGEST_NAME rfl)))))) (aH (aN vV)) aR)
   (aH (aN (aL (qZ rfl) rfl T.n_all rfl (aA (e8 rfl (bJ.by (N:=rD) (names:=(aJ j6).names) (N':=["sign"]) (src:=[none]) (by decide +kernel) rfl rfl) (IW (pv 0)) (λ_ _ _ _=>(bA (i:=0) (show List.Nodup (["sign"]:aS)by decide +kernel) rfl (Or.inl rfl))) (λ_ _ _ _=>cV) (λ_ _ _ _=>(jN qO (pv 0) (fH T.c_LETTERS rfl) (by with_unfolding_all rfl)))) aB))))),?_⟩
  simp only[rD];clear j F T t;have keep:=aI q g;clear q g
  walk_at "rd"
  obtain⟨q,C,d,l⟩:=keep;have hz:x.length<=sizeLine:=ao (m:=6) (by rw[br]at d;exact d) (by decide);have G:x.cps.toList.length=x.length:=by rw[br];rfl
  refine⟨true,rfl,?_⟩;rw[ab (by decide)];refine⟨.int x.length,by rw[AG hz];rfl,_,rfl,?_⟩;rw[ai (by omega)];refine⟨_,rfl,?_⟩;rw[ab (by omega)];refine⟨_,rfl,x,rfl,?_,?_⟩
  ·rw[Array.all_eq_true_iff_forall_mem];intro c b;have:=l c (by simpa using b);simp only[decide_eq_true_eq];omega
  ·refine wO (λi a σ H'=>H'=H/\a=(List.replicate i true).map V.bl/\i<=6/\∃o:Option V,σ=[o]) ⟨rfl,rfl,by decide,none,rfl⟩ ?_ ?_
   ·rintro i c a σ H' b ⟨rfl,rfl,z,o,rfl⟩;have hm:c∈x.cps.toList:=by
     have:x.cps.toList[i]?=some c:=by rw[Array.getElem?_toList];exact b
     exact bi this
    have hi':i<x.cps.size:=(Array.getElem?_eq_some_iff.mp b).1;refine⟨_,rfl,_,rfl,_,rfl,?_⟩;have e:=GJ (l c hm);unfold inTx at e;dsimp only;refine⟨aj (m:=100) (by simp;omega) (by decide),rfl,?_,by rw[br]at d;omega,_,rfl⟩;rw[e,List.replicate_succ',ax];rfl
   ·rintro a σ H' ⟨rfl,rfl,z,o,rfl⟩ p u;refine⟨p,rfl,List.replicate _ true,upd_same,?_⟩;have:(List.replicate x.cps.size true).all id=true:=by simp
    rw[this];exact q _ (aD.upd u)
def DI:Sp:=λvs H Q _=>∃i:Int,vs=[.int i]/\Q (.bl true) H
theorem JP {f:Addr}{a:FuncData}(F:gG K "is_whole" "is_whole" kJ f a)(T:Txt mg):bY P w K mg base bN 1 f a uP DI:=by
 refine F.ok zF (λvs H Q E h=>?_) (λc A outer s H vs Q E b h=>?_)
 ·obtain⟨x,rfl,_⟩:=h;rfl
 ·obtain⟨i,rfl,q⟩:=h;refine⟨_,(aH (aN (JB (aL aK rfl T.n_isinstance rfl (aA (pv 0) (aA (bR (v:=V.ty "int") rfl T.n_int rfl rfl) aB))) (xU (PC (aL aK rfl T.n_isinstance rfl (aA (pv 0) (aA (bR (v:=V.ty "bool") rfl T.n_bool rfl rfl) aB)))))))),?_⟩;simp only[uU];clear b F T
  walk_at "rd"
def nL (H:Hp)(a:List V):Prop:=∀v∈a,∃t x y,v = .ref t/\H t=some (.tup [x,y])
theorem nL.same {H H':Hp}{a:List V}(h:nL H a)(s:aD H H'):nL H' a:=λv b=>by obtain⟨t,x,y,e,h⟩:=h v b;exact⟨t,x,y,e,s _ _ h⟩
def DL:Sp:=λvs H Q _=>∃(a:Addr) (lo hi:Int) (ws:List V),vs=[.ref a,.int lo,.int hi]/\H a=some (.lst ws)/\nL H ws/\lo<=ws.length/\(ws.length:Int)<=hi/\ws.length<=100/\∀l H',aD H H'->H l=none->H' l=some (.lst ws)->Q (.ref l) H'
def UL (a:Addr)(b c:Int)(H:Hp)(i:Nat)(σ:St)(d:Hp):Prop:=∃o:Option V,σ=[some (.ref a),some (.int b),some (.int c),o]/\aD H d
def UM (b:List V)(H:Hp)(i:Nat)(a:List V)(σ:St)(c:Hp):Prop:=∃o:Option V,σ=[o]/\aD H c/\a=b.take i
theorem JS {f:Addr}{fd:FuncData}(F:gG K "checked_pairs" "checked_pairs" eE f fd)(T:Txt mg):bY P w K mg base bN 1 f fd lJ DL:=by
 refine F.ok j4 (λvs H Q E h=>?_) (λcdv A outer s H vs Q E hr h=>?_)
 ·obtain⟨a,lo,hi,I,rfl,_⟩:=h;rfl
 ·obtain⟨a,lo,hi,I,rfl,B,pr,O,X,W,q⟩:=h;have hu:=hr.units
  refine⟨_,(aC (bL (PW.pt (lY (eK (aV K rfl (aL aK rfl T.n_isinstance rfl (aA (pv 0) (aA (bE (aA (bR (v:=V.ty "list") rfl T.n_list rfl rfl) (aA (bR (v:=V.ty "tuple") rfl T.n_tuple rfl rfl) aB))) aB))) (λ_=>rfl))) (iW (eK (j7 mF mF (pv 1) (aL bK rfl T.n_len rfl (aA (pv 0) aB)) (pv 2)))))) (aH gA) aR)
   (aC (fB di rfl (cQ K rfl (pv 0)) (bA (i:=3) j4.nd rfl (Or.inl rfl)) (aH (bL (PW.pt (lY (eK (aV K rfl (aL aK rfl T.n_isinstance rfl (aA (pv 3) (aA (bE (aA (bR (v:=V.ty "list") rfl T.n_list rfl rfl) (aA (bR (v:=V.ty "tuple") rfl T.n_tuple rfl rfl) aB))) aB))) (λ_=>rfl))) (iW (aQ (oE hu) (aL bK rfl T.n_len rfl (aA (pv 3) aB)) aF (nomark _))))) (aH gA) aR)))
   (aH (aN (e8 rfl (bJ.by (N:=fM) (names:=(aJ eE).names) (N':=["pair"]) (src:=[none]) (by decide +kernel) rfl rfl) (cQ K rfl (pv 0)) (λ_ _ _ _=>(bA (i:=0) (show List.Nodup (["pair"]:aS)by decide +kernel) rfl (Or.inl rfl))) (λ_ _ _ _=>cV) (λ_ _ _ _=>(cB dM rfl T.n_tuple rfl (aA (pv 0) aB)))))))),?_⟩
  simp only[fM];clear hr F T hu;have keep:=aI q (aI B (aI pr (aI O (aI X W))));clear q B pr O X W
  walk_at "rd"
  obtain⟨q,B,pr,O,X,W⟩:=keep;refine⟨by decide,λp hp=>?_⟩;have g:aD H (upd H p (.tup [.ty "list",.ty "tuple"])):=aD.upd hp;have r:upd H p (.tup [.ty "list",.ty "tuple"]) p=some (.tup [.ty "list",.ty "tuple"]):=upd_same;generalize upd H p (.tup [.ty "list",.ty "tuple"])=H1 at g r⊢;have b:=g _ _ B;refine⟨true,KA b r,?_⟩;rw[ab (by decide)];refine⟨.int I.length,by rw[lenV_l b];rfl,_,rfl,?_⟩;rw[ai O];refine⟨_,rfl,?_⟩;rw[ab (by omega)];refine⟨I,.inl b,λJ hJ=>?_⟩;refine gQ hJ (UL a lo hi H1) ⟨none,rfl,aD.refl _⟩ (by rintro i σ H' _ ⟨_,_,s2⟩;rw[b,s2 _ _ b]) ?_ ?_
  ·rintro i x σ G C ⟨o,rfl,s2⟩;obtain⟨t,y,z,rfl,U⟩:=pr x (bi C);have e:=s2 _ _ (g _ _ U);have keep:=aI q (aI B (aI pr (aI s2 (aI e g))));clear q B pr s2 e U b r O X W hJ C g hp
   walk_at "rd"
   obtain⟨q,B,pr,s2,e,g⟩:=keep;refine⟨by decide,λS Y=>?_⟩;have d:aD G (upd G S (.tup [.ty "list",.ty "tuple"])):=aD.upd Y;have j:upd G S (.tup [.ty "list",.ty "tuple"]) S=some (.tup [.ty "list",.ty "tuple"]):=upd_same;generalize upd G S (.tup [.ty "list",.ty "tuple"])=H3 at d j⊢;have c:=d _ _ e;refine⟨true,J9 c j,?_⟩;rw[ab (by decide)];refine⟨.int 2,by rw[lenV_t c];rfl,?_⟩;rw[rNeD_ii];refine⟨_,rfl,?_⟩;rw[ab (by decide)];exact⟨_,rfl,s2.trans d⟩
  ·rintro σ G ⟨o,rfl,s2⟩;have u:=s2 _ _ b;refine⟨_,rfl,a,I,rfl,.inl u,λJ2 Z=>?_⟩;refine cU Z (UM I G) ⟨none,rfl,aD.refl _,rfl⟩ (by rintro i R σ H' _ ⟨_,_,d,_⟩;rw[u,d _ _ u]) ?_ ?_
   ·rintro i x R σ H3 C ⟨o',rfl,d,rfl⟩;obtain⟨t,y,z,rfl,U⟩:=pr x (bi C);have c:=d _ _ (s2 _ _ (g _ _ U));have hi':=(cr.mp C).1;refine⟨_,rfl,t,[y,z],rfl,.inr c,λl H4 L=>?_⟩;rcases L with⟨L,rfl,rfl⟩|⟨L,_⟩
    ·exact⟨aj (m:=100) (by rw[bv];omega) (by decide),_,rfl,d,by rw[bD C]⟩
    ·rw[c]at L;cases L
   ·rintro R σ H3 ⟨o',rfl,d,rfl⟩ l hl;rw[bw];have s4:=(g.trans s2).trans d;exact q l _ (s4.trans (aD.upd hl)) (s4.free hl) upd_same
def jG (H:Hp):aS->List V->Prop
 | [],vs=>vs=[]
 | n::ns,vs=>∃t y us,vs = .ref t::us/\H t=some (.tup [.str n,y])/\jG H ns us
theorem jG.same {H H':Hp}(s:aD H H'):∀{ns:aS} {vs:List V},jG H ns vs->jG H' ns vs
 | [],_,h=>h
 | _::_,_,⟨t,y,us,e,h,q⟩=>⟨t,y,us,e,s _ _ h,jG.same s q⟩
theorem jG.len {H:Hp}:∀{ns:aS} {vs:List V},jG H ns vs->vs.length=ns.length
 | [],_,h=>by cases h;rfl
 | _::_,_,⟨t,y,us,e,h,q⟩=>by subst e;simp[jG.len q]
theorem jG.get {H:Hp}:∀{ns:aS} {vs:List V} {i:Nat} {v:V},jG H ns vs->vs[i]?=some v->∃n t y,ns[i]?=some n/\v = .ref t/\H t=some (.tup [.str n,y])
 | [],_,_,_,h,k=>by cases h;simp at k
 | _::_,_,0,_,⟨t,y,us,e,h,q⟩,k=>by subst e;simp at k;exact⟨_,t,y,rfl,k.symm,h⟩
 | _::_,_,i+1,_,⟨t,y,us,e,h,q⟩,k=>by subst e;simp at k;obtain⟨r,t,y,c,b,a⟩:=jG.get q k;exact⟨r,t,y,by simpa using c,b,a⟩
theorem jG.app {H:Hp}:∀{ns ms:aS} {vs us:List V},jG H ns vs->jG H ms us->jG H (ns++ms) (vs++us)
 | [],_,_,_,h,k=>by cases h;exact k
 | _::_,_,_,_,⟨t,y,us,e,h,q⟩,k=>by subst e;exact⟨t,y,_,rfl,h,jG.app q k⟩
theorem cX.n {H:Hp}:∀{l:cH} {vs:List V},cX H l vs->jG H (l.map (·.1)) vs
 | [],_,h=>h
 | _::_,_,⟨t,us,e,h,q⟩=>⟨t,_,us,e,h,cX.n q⟩
theorem fJ.n {H:Hp}:∀{l:bH} {vs:List V},fJ H l vs->jG H (l.map (·.1)) vs
 | [],_,h=>h
 | _::_,_,⟨t,us,e,h,q⟩=>⟨t,_,us,e,h,fJ.n q⟩
def zC:Sp:=λvs H Q _=>∃(a:Addr) (ns:aS) (ws:List V),vs=[.ref a]/\H a=some (.lst ws)/\jG H ns ws/\(∀x∈ns,jU x)/\ns.Nodup/\ns.length<=50/\∀H',aD H H'->Q .non H'
def UO (ns:aS)(H:Hp)(i:Nat)(a:List V)(σ:St)(c:Hp):Prop:=∃o b:Option V,σ=[o,b]/\aD H c/\a=(ns.take i).map V.str
def UN (H:Hp)(i:Nat)(a:List V)(σ:St)(b:Hp):Prop:=∃o:Option V,σ=[o]/\aD H b/\a=(List.replicate i true).map V.bl
theorem F6 {f:Addr}{X:FuncData}(F:gG K "check_names" "check_names" eG f X)(T:Txt mg)(b:dP P w K mg base bN 1 "is_name" IB):bY P w K mg base bN 2 f X nW zC:=by
 refine F.ok lW (λvs H Q E h=>?_) (λcdv A outer s H vs Q E C h=>?_)
 ·obtain⟨a,ns,O,rfl,_⟩:=h;rfl
 ·obtain⟨a,ns,O,rfl,r,v,ok,nd,e,q⟩:=h;have U:=C.units
  refine⟨_,(aC (gM (i:=1) lW.nd rfl rfl rfl rfl (bJ.by (N:=gW) (names:=(aJ eG).names) (N':=["name","told"]) (src:=[none,none]) (by decide +kernel) rfl rfl) (cQ K rfl (pv 0)) (λ_ _ _ _=>(dI K rfl (i:=0) (j:=1) rfl (show List.Nodup (["name","told"]:aS)by decide +kernel) rfl rfl rfl rfl)) (λ_ _ _ _=>cV) (λ_ _ _ _=>(pv 0)))
   (aC (bL (eK (aV K rfl (aL (qZ rfl) rfl T.n_all rfl (aA (e8 rfl (bJ.by (N:=gW) (names:=(aJ eG).names) (N':=["name"]) (src:=[none]) (by decide +kernel) rfl rfl) (cQ K rfl (pv 1)) (λ_ _ _ _=>(bA (i:=0) (show List.Nodup (["name"]:aS)by decide +kernel) rfl (Or.inl rfl))) (λ_ _ _ _=>cV) (λ_ _ _ _=>(aM b (C.mono (by decide)) pass0 rfl (aA (pv 0) aB)))) aB)) (λ_=>rfl))) (aH gA) aR)
   (aH (bL (aQ (kQ U) (aL wS rfl T.n_len rfl (aA (cB (wR rfl) rfl T.n_set rfl (aA (pv 1) aB)) aB)) (aL bK rfl T.n_len rfl (aA (pv 1) aB)) (nomark _)) (aH gA) aR)))),?_⟩
  simp only[gW];clear C F T U b;have keep:=aI q (aI r (aI v (aI ok (aI nd e))));clear q r v ok nd e
  walk_at "rd"
  obtain⟨q,r,v,ok,nd,e⟩:=keep;have lw:=v.len;refine⟨O,.inl r,λJ hJ=>?_⟩;refine cU hJ (UO ns H) ⟨none,none,rfl,aD.refl _,rfl⟩ (by rintro i d σ H' _ ⟨_,_,_,s2,_⟩;rw[r,s2 _ _ r]) ?_ ?_
  ·rintro i x d σ L B ⟨o,o',rfl,s2,rfl⟩;obtain⟨n,t,y,z,rfl,ht⟩:=v.get B;have hi:=(cr.mp z).1;refine⟨t,_,rfl,gF.of (s2 _ _ ht),rfl,_,_,rfl,_,_,rfl,rfl,_,rfl,aj (m:=100) (by simp;omega) (by decide),_,_,rfl,s2,?_⟩;rw[bD z,ax];rfl
  ·rintro d σ L ⟨o,o',rfl,s2,rfl⟩ l hl;rw[lw,bw];have c:upd L l (.lst (ns.map V.str)) l=some (.lst (ns.map V.str)):=upd_same;have R:=s2.trans (aD.upd (o:=.lst (ns.map V.str)) hl);generalize upd L l (.lst (ns.map V.str))=H3 at c R⊢;refine⟨l,rfl,_,.inl c,λJ2 I=>?_⟩;refine cU I (UN H3) ⟨none,rfl,aD.refl _,rfl⟩ (by rintro i d σ H' _ ⟨_,_,u,_⟩;rw[c,u _ _ c]) ?_ ?_
   ·rintro i x d σ Z B ⟨o,rfl,u,rfl⟩;rw[bI]at B;obtain⟨n,z,rfl⟩:=Option.map_eq_some_iff.mp B;have hi:=(cr.mp z).1;refine⟨_,rfl,n,rfl,ok n (bi z),λY g=>⟨aj (m:=100) (by simp;omega) (by decide),_,rfl,u.trans g,?_⟩⟩;rw[List.replicate_succ',ax];rfl
   ·rintro d σ Z ⟨o,rfl,u,rfl⟩ S G;refine⟨S,rfl,_,upd_same,?_⟩;rw[ab (by simp)];have g:=u.trans (aD.upd (o:=.lst ((List.replicate (ns.map V.str).length true).map V.bl)) G);generalize upd Z S (.lst ((List.replicate (ns.map V.str).length true).map V.bl))=Y at g⊢;refine⟨l,ns,rfl,g _ _ c,nd,by omega,λp W=>⟨p,ns.length,rfl,upd_same,.int ns.length,?_,.inl (.inl ⟨_,rfl,_,rfl,?_⟩)⟩⟩
    ·have:=(aD.upd (o:=BB P w p ns.length) W) _ _ (g _ _ c);show Option.map _ ((lenV (upd Y p (BB P w p ns.length)) (.ref l)).bind _)=_;rw[lenV_l this,ae];rfl
    ·rw[ab (by omega)];exact q _ ((R.trans g).trans (aD.upd W))
def DK:Sp:=λvs H Q _=>∃(a:Addr) (fx:cH) (fv:List V),vs=[.ref a]/\H a=some (.lst fv)/\cX H fx fv/\(∀r∈fx,0<=r.2/\r.2<=3)/\(∃r∈fx,r.2=0)/\fx.length<=50/\∀H',aD H H'->Q .non H'
def TQ (a:Addr)(H:Hp)(i:Nat)(σ:St)(c:Hp):Prop:=∃o b:Option V,σ=[some (.ref a),o,b]/\c=H
def TR (c:cH)(H:Hp)(i:Nat)(a:List V)(σ:St)(d:Hp):Prop:=∃o b:Option V,σ=[o,b]/\d=H/\a=((c.take i).map λr=>decide (r.2=0)).map V.bl
theorem JR {f:Addr}{Y:FuncData}(F:gG K "check_parts" "check_parts" fG f Y)(T:Txt mg)(b:dP P w K mg base bN 1 "is_whole" DI):bY P w K mg base bN 2 f Y nV DK:=by
 refine F.ok lV (λvs H Q E h=>?_) (λcdv A outer s H vs Q E p h=>?_)
 ·obtain⟨a,R,S,rfl,_⟩:=h;rfl
 ·obtain⟨a,R,S,rfl,g,d,ok,bare,c,q⟩:=h;have X:=p.units
  refine⟨_,(aC (fB di rfl (cQ K rfl (pv 0)) (dI K rfl (i:=1) (j:=2) rfl lV.nd rfl rfl rfl rfl) (aH (bL (PW.pt (lY (eK (aV K rfl (aM b (p.mono (by decide)) pass0 rfl (aA (pv 2) aB)) (λ_=>rfl))) (iW (eK (j7 mF mF aF (pv 2) (fH T.c_MOST_PARTS rfl)))))) (aH gA) aR)))
   (aH (bL (eK (aV K rfl (aL (G7 rfl) rfl T.n_any rfl (aA (e8 rfl (bJ.by (N:=jW) (names:=(aJ fG).names) (N':=["name","many"]) (src:=[none,none]) (by decide +kernel) rfl rfl) (cQ K rfl (pv 0)) (λ_ _ _ _=>(dI K rfl (i:=0) (j:=1) rfl (show List.Nodup (["name","many"]:aS)by decide +kernel) rfl rfl rfl rfl)) (λ_ _ _ _=>cV) (λ_ _ _ _=>(jN (dQ X) (pv 1) aF (nomark _)))) aB)) (λ_=>rfl))) (aH gA) aR))),?_⟩
  simp only[jW];clear p F T X b;have keep:=aI q (aI g (aI d (aI ok (aI bare c))));clear q g d ok bare c
  walk_at "rd"
  obtain⟨q,g,d,ok,bare,c⟩:=keep;have l:=d.len;refine⟨S,.inl g,λJ O=>?_⟩;refine gQ O (TQ a H) ⟨none,none,rfl,rfl⟩ (by rintro i σ H' _ ⟨_,_,_,rfl⟩;rfl) ?_ ?_
  ·rintro i x σ Z B ⟨o,G,rfl,rfl⟩;obtain⟨r,t,u,rfl,C⟩:=d.get B;obtain⟨W,U⟩:=ok r (bi u);refine⟨t,_,rfl,gF.of C,rfl,_,_,rfl,_,_,rfl,rfl,?_⟩;have keep:=aI q (aI W U);clear q g d ok bare c l O B u C
   walk_at "rd"
   obtain⟨q,W,U⟩:=keep;refine⟨r.2,rfl,true,rfl,?_⟩;rw[ab (by decide)];exact⟨_,_,rfl,rfl⟩
  ·rintro σ Z ⟨o,G,rfl,rfl⟩;have keep:=aI q (aI g (aI d (aI ok (aI bare (aI c l)))));clear q g d ok bare c l O
   walk_at "rd"
   obtain⟨q,g,d,ok,bare,c,l⟩:=keep;refine⟨S,.inl g,λJ2 L=>?_⟩;refine cU L (TR R Z) ⟨none,none,rfl,rfl,rfl⟩ (by rintro i z σ H' _ ⟨_,_,_,rfl,_⟩;rfl) ?_ ?_
   ·rintro i x z σ H3 B ⟨o,G,rfl,rfl,rfl⟩;obtain⟨r,t,u,rfl,C⟩:=d.get B;have hi:=(cr.mp u).1;refine⟨t,_,rfl,gF.of C,rfl,_,_,rfl,_,_,rfl,rfl,_,rfl,?_⟩;dsimp only[tC];rw[rEqD_ii];refine⟨aj (m:=100) (by simp;omega) (by decide),_,_,rfl,rfl,?_⟩;rw[bD u,ax,ax];rfl
   ·rintro z σ H3 ⟨o,G,rfl,rfl,rfl⟩ l2 I;rw[l,bw];refine⟨l2,rfl,_,upd_same,?_⟩;have v:((R.map λr=>decide (r.2=0)).any id)=true:=by obtain⟨r,p,e⟩:=bare;rw[List.any_eq_true];exact⟨true,cy.mpr ⟨r,p,bh e⟩,rfl⟩
    rw[v,ab (by decide)];exact q _ (aD.upd I)
noncomputable def nots (sm:bH):aS:=(sm.map (·.2)).filter λ(x:Str)=>decide (x≠("" : Str))
def tF:Sp:=λvs H Q _=>∃(a b:Addr) (sm:bH) (sv:List V) (zs:aS),vs=[.ref a,.ref b]/\H a=some (.lst sv)/\fJ H sm sv/\H b=some (.lst (zs.map V.str))/\(∀r∈sm,r.2≠("" : Str)->r.2∈zs)/\(nots sm).Nodup/\sm.length<=50/\∀H',aD H H'->Q .non H'
def TV (a b:Addr)(H:Hp)(i:Nat)(σ:St)(e:Hp):Prop:=∃o d c:Option V,σ=[some (.ref a),some (.ref b),o,d,c]/\e=H
def TW (sm:bH)(H:Hp)(i:Nat)(a:List V)(σ:St)(c:Hp):Prop:=∃o b:Option V,σ=[o,b]/\c=H/\a=(nots (sm.take i)).map V.str
theorem GB (sm:bH)(r:Str×Str):nots (sm++[r])=nots sm++(if r.2=("" : Str)then []else [r.2]):=by unfold nots;rw[ax,List.filter_append];congr 1;by_cases z:r.2=("" : Str) <;> simp[z]
theorem zU (sm:bH):(nots sm).length<=sm.length:=by unfold nots;exact ao (List.length_filter_le _ _) (by rw[ae];exact ac _)
theorem zT {f:Addr}{fd:FuncData}(F:gG K "check_noughts" "check_noughts" eF f fd)(T:Txt mg):bY P w K mg base bN 1 f fd lK tF:=by
 refine F.ok gH (λvs H Q E h=>?_) (λcdv A outer s H vs Q E hr h=>?_)
 ·obtain⟨a,b,sm,X,W,rfl,_⟩:=h;rfl
 ·obtain⟨a,b,sm,X,W,rfl,g,d,u,ok,nd,c,q⟩:=h;have G:=hr.units
  refine⟨_,(aC (fB di rfl (cQ K rfl (pv 0)) (dI K rfl (i:=2) (j:=3) rfl gH.nd rfl rfl rfl rfl) (aH (bL (PW.pt (lY (eK (aV K rfl (aL aK rfl T.n_isinstance rfl (aA (pv 3) (aA (bR (v:=V.ty "str") rfl T.n_str rfl rfl) aB))) (λ_=>rfl))) (iW (PW.pt (jR (aQ (oE G) (pv 3) cJ (nomark _)) (jL (aQ (F1 G) (pv 3) (pv 1) (by with_unfolding_all rfl)))))))) (aH gA) aR)))
   (aC (gM (i:=4) gH.nd rfl rfl rfl rfl (bJ.by (N:=fN) (names:=(aJ eF).names) (N':=["name","nought"]) (src:=[none,none]) (by decide +kernel) rfl rfl) (cQ K rfl (pv 0)) (λ_ _ _ _=>(dI K rfl (i:=0) (j:=1) rfl (show List.Nodup (["name","nought"]:aS)by decide +kernel) rfl rfl rfl rfl)) (λ_ _ _ _=>(sF (aQ (oE G) (pv 1) cJ (nomark _)))) (λ_ _ _ _=>(pv 1)))
   (aH (bL (aQ (kQ G) (aL wS rfl T.n_len rfl (aA (cB (wR rfl) rfl T.n_set rfl (aA (pv 4) aB)) aB)) (aL bK rfl T.n_len rfl (aA (pv 4) aB)) (nomark _)) (aH gA) aR)))),?_⟩
  simp only[fN];clear hr F T G;have keep:=aI q (aI g (aI d (aI u (aI ok (aI nd c)))));clear q g d u ok nd c
  walk_at "rd"
  obtain⟨q,g,d,u,ok,nd,c⟩:=keep;have C:=d.len;refine⟨X,.inl g,λJ hJ=>?_⟩;refine gQ hJ (TV a b H) ⟨none,none,none,rfl,rfl⟩ (by rintro i σ H' _ ⟨_,_,_,_,rfl⟩;rfl) ?_ ?_
  ·rintro i x σ H2 S ⟨o,Z,Y,rfl,rfl⟩;obtain⟨r,t,I,rfl,U⟩:=d.get S;have e:=ok r (bi I);refine⟨t,_,rfl,gF.of U,rfl,_,_,rfl,_,_,rfl,rfl,?_⟩;have keep:=aI q (aI e u);clear q g d u ok nd c C hJ S I U e
   walk_at "rd"
   obtain⟨q,e,u⟩:=keep;refine⟨true,rfl,?_⟩;rw[ab (by decide)];refine⟨!decide (r.2=("" : Str)),by simp,?_⟩;by_cases z:r.2=("" : Str)
   ·rw[ab (by simp[z])];exact⟨_,_,_,rfl,rfl⟩
   ·rw[ai (by simp[z])];refine⟨.str r.2,W.map D.str,rfl,.inl ⟨b,_,rfl,u,vU W⟩,by rw[AV];decide,_,rfl,?_⟩;rw[ab]
    ·exact⟨_,_,_,rfl,rfl⟩
    ·rw[AM,bh (e z)];decide
  ·rintro σ H2 ⟨o,Z,Y,rfl,rfl⟩;have keep:=aI q (aI g (aI d (aI nd (aI c C))));clear q g d ok u nd c C hJ
   walk_at "rd"
   obtain⟨q,g,d,nd,c,C⟩:=keep;refine⟨X,.inl g,λJ2 hJ2=>?_⟩;refine cU hJ2 (TW sm H2) ⟨none,none,rfl,rfl,rfl⟩ (by rintro i O σ H' _ ⟨_,_,_,rfl,_⟩;rfl) ?_ ?_
   ·rintro i x O σ R S ⟨o,Z,rfl,rfl,rfl⟩;obtain⟨r,t,I,rfl,U⟩:=d.get S;have hi:=(cr.mp I).1;have hk:=zU (sm.take i);rw[bv]at hk;have L:=GB (sm.take i) r;rw[←bD I]at L;refine⟨t,_,rfl,gF.of U,rfl,_,_,rfl,_,_,rfl,rfl,_,rfl,?_⟩;dsimp only[tC];rw[rNeD_ss];refine⟨_,rfl,?_⟩;by_cases z:r.2=("" : Str)
    ·rw[ab (by simp[z])];rw[ai z,bn]at L;exact⟨_,_,rfl,rfl,by rw[L]⟩
    ·rw[ai (by simp[z])];rw[ab z]at L;exact⟨_,rfl,aj (m:=100) (by rw[ae];omega) (by decide),_,_,rfl,rfl,by rw[L,ax];rfl⟩
   ·rintro O σ R ⟨o,Z,rfl,rfl,rfl⟩ l hl;rw[C,bw];have B:upd R l (.lst ((nots sm).map V.str)) l=some (.lst ((nots sm).map V.str)):=upd_same;have s3:aD R (upd R l (.lst ((nots sm).map V.str))):=aD.upd hl;generalize upd R l (.lst ((nots sm).map V.str))=H4 at B s3⊢;have hk:=zU sm;refine⟨l,nots sm,rfl,B,nd,by omega,λp hp=>⟨p,(nots sm).length,rfl,upd_same,.int (nots sm).length,?_,.inl (.inl ⟨_,rfl,_,rfl,?_⟩)⟩⟩
    ·have:=(aD.upd (o:=BB P w p (nots sm).length) hp) _ _ B;show Option.map _ ((lenV (upd H4 p (BB P w p (nots sm).length)) (.ref l)).bind _)=_;rw[lenV_l this,ae];rfl
    ·rw[ab (by omega)];exact q _ (s3.trans (aD.upd hp))
structure ON (K:PySem.W.Frag)(C:Addr):Prop where
 cls:HA K C
 n1:iA K C "fixed_rows"
 n2:iA K C "sum_rows"
 n3:iA K C "many_by_name"
 n4:iA K C "nought_by_name"
theorem cX.pairs {H:Hp}{f:cH}{a:List V}(h:cX H f a):nL H a:=λv b=>by obtain⟨i,d⟩:=List.getElem?_of_mem b;obtain⟨r,t,_,e,c⟩:=h.get d;exact⟨t,_,_,e,c⟩
theorem fJ.pairs {H:Hp}{sm:bH}{a:List V}(h:fJ H sm a):nL H a:=λv b=>by obtain⟨i,d⟩:=List.getElem?_of_mem b;obtain⟨r,t,_,e,c⟩:=h.get d;exact⟨t,_,_,e,c⟩
theorem cX.prs {H:Hp}:∀{b:cH} {fv:List V},cX H b fv->fv.map (prV H)=(b.map λr=>((.inr r.1,V.int r.2):fR×V)).map (λa=>some (kV a.1,a.2))
 | [],_,e=>by cases e;rfl
 | r::l,_,⟨t,us,e,h,q⟩=>by subst e;rw[bd,cX.prs q];unfold prV;simp only[h];rfl
theorem JY {a:cH}(nd:(a.map (·.1)).Nodup):jS [] (a.map λr=>((.inr r.1,V.int r.2):fR×V))=a.map λr=>(.inr r.1,V.int r.2):=by
 rw[oG]
 ·rfl
 ·rw[List.nil_append,List.map_map];exact List.pairwise_map.mpr ((List.pairwise_map.mp nd).imp λh e=>h (Sum.inr.inj e))
def BV (K:PySem.W.Frag)(C:Addr):Sp:=λvs H Q _=>∃(x c a b:Addr) (fx:cH) (sm:bH) (fv sv:List V),vs=[.ref x,.ref a,.ref b]/\H x=some (.ins C c [])/\H a=some (.lst fv)/\H b=some (.lst sv)/\cX H fx fv/\fJ H sm sv/\bF fx sm /\
 ∀H',cG x H H'->iK K C fx sm H' x->Q .non H'
def S1 (c:cH)(H:Hp)(i:Nat)(a:List V)(σ:St)(d:Hp):Prop:=∃o b:Option V,σ=[o,b]/\d=H/\a=(zeros (c.take i)).map V.str
theorem BL (a:cH):(zeros a).length<=a.length:=by unfold zeros;rw[ae];exact List.length_filter_le _ _
theorem ND {f C:Addr}{fd:FuncData}(F:gG K "__init__" "Signs.__init__" cD f fd)(T:Txt mg)(co:ON K C)(d:dP P w K mg base bN 1 "checked_pairs" DL)(p:dP P w K mg base bN 2 "check_names" zC)(l:dP P w K mg base bN 2 "check_parts" DK)(g:dP P w K mg base bN 1 "check_noughts" tF):bY P w K mg base bN 3 f fd gJ (BV K C):=by
 refine F.ok fX (λvs H Q E h=>?_) (λcdv A outer s H vs Q E hr h=>?_)
 ·obtain⟨x,u,a,b,v,sm,G,I,rfl,_⟩:=h;rfl
 ·obtain⟨x,u,a,b,v,sm,G,I,rfl,hx,ha,hb,U,rs,so,q⟩:=h;have hu:=hr.units
  refine⟨_,(aC (aU (i:=3) fX.nd rfl (Or.inl rfl) (aM d (hr.mono (by decide)) pass0 rfl (aA (pv 1) (aA aF (aA (fH T.c_MOST_FIXED rfl) aB)))))
   (aC (aU (i:=4) fX.nd rfl (Or.inl rfl) (aM d (hr.mono (by decide)) pass0 rfl (aA (pv 2) (aA aF (aA (fH T.c_MOST_SUMS rfl) aB)))))
   (aC (bZ (aM p (hr.mono (by decide)) pass0 rfl (aA (bG bT (pv 3) (pv 4)) aB)))
   (aC (bZ (aM l (hr.mono (by decide)) pass0 rfl (aA (pv 3) aB)))
   (aC (bZ (aM g (hr.mono (by decide)) pass0 rfl (aA (pv 4) (aA (e8 rfl (bJ.by (N:=fA) (names:=(aJ cD).names) (N':=["name","many"]) (src:=[none,none]) (by decide +kernel) rfl rfl) (cQ K rfl (pv 3)) (λ_ _ _ _=>(dI K rfl (i:=0) (j:=1) rfl (show List.Nodup (["name","many"]:aS)by decide +kernel) rfl rfl rfl rfl)) (λ_ _ _ _=>(sF (aQ (dQ hu) (pv 1) aF (nomark _)))) (λ_ _ _ _=>(pv 0))) aB))))
   (aC (xM (pv 0) (pv 3) rfl)
   (aC (xM (pv 0) (pv 4) rfl)
   (aC (xM (pv 0) (cB (oM rfl) rfl T.n_dict rfl (aA (pv 3) aB)) rfl)
   (aH (xM (pv 0) (cB (oM rfl) rfl T.n_dict rfl (aA (pv 4) aB)) rfl)))))))))),?_⟩
  simp only[fA];clear hr F T hu d p l g;have keep:=aI q (aI hx (aI ha (aI hb (aI U (aI rs (aI so co))))));clear q hx ha hb U rs so co
  walk_at "rd"
  obtain⟨q,hx,ha,hb,U,rs,so,co⟩:=keep;have lf:=U.len;have ls:=rs.len;have f1:=so.f1;have f2:=so.f2;have s2':=so.s2;have ndf:=(List.nodup_append.mp so.nd).1;have nds':=(List.nodup_append.mp so.nd).2.1;refine⟨a,1,12,G,rfl,ha,U.pairs,by omega,by omega,by omega,λL H1 s1 hl1 h1=>?_⟩;refine⟨b,0,3,I,rfl,s1 _ _ hb,rs.pairs.same s1,by omega,by omega,by omega,λW H2 s2 hl2 h2=>?_⟩;have nxl1:x≠L:=aG hx hl1;have nxl2:x≠W:=aG (s1 _ _ hx) hl2;refine .inr ⟨.lst (G++I),nI (s2 _ _ h1) h2 (ao (m:=100) (by omega) (by decide)),λl3 hl3=>?_⟩;have s3:=(s1.trans s2).trans (aD.upd (o:=.lst (G++I)) hl3);have h13:=(aD.upd (o:=.lst (G++I)) hl3) _ _ (s2 _ _ h1);have h23:=(aD.upd (o:=.lst (G++I)) hl3) _ _ h2;have h33:upd H2 l3 (.lst (G++I)) l3=some (.lst (G++I)):=upd_same;generalize upd H2 l3 (.lst (G++I))=H3 at s3 h13 h23 h33⊢;refine⟨l3,v.map (·.1)++sm.map (·.1),G++I,rfl,h33,jG.app (jG.same s3 U.n) (jG.same s3 rs.n),so.nm,so.nd,by simp;omega,λH4 s4=>?_⟩;refine⟨L,v,G,rfl,s4 _ _ h13,U.same (aX.of (s3.trans s4)),so.parts,so.bare,by omega,λH5 s5=>?_⟩;have h15:=s5 _ _ (s4 _ _ h13);have h25:=s5 _ _ (s4 _ _ h23);have sH5:=(s3.trans s4).trans s5;have rf5:=U.same (aX.of sH5);have rs5:=rs.same (aX.of sH5);refine⟨L,rfl,G,.inl h15,λJ hJ=>?_⟩;refine cU hJ (S1 v H5) ⟨none,none,rfl,rfl,rfl⟩ (by rintro i acc σ H' _ ⟨_,_,_,rfl,_⟩;rfl) ?_ ?_
  ·rintro i y acc σ H6 hy ⟨o,o',rfl,rfl,rfl⟩;obtain⟨r,t,hn,rfl,ht⟩:=rf5.get hy;have hi:=(cr.mp hn).1;have hk:=BL (v.take i);rw[bv]at hk;have e1:=BK (v.take i) r;rw[←bD hn]at e1;refine⟨t,_,rfl,gF.of ht,rfl,_,_,rfl,_,_,rfl,rfl,_,rfl,?_⟩;dsimp only[tC];rw[rEqD_ii];refine⟨_,rfl,?_⟩;by_cases z:r.2=0
   ·rw[ai (bh z)];rw[ai z]at e1;exact⟨_,rfl,aj (m:=100) (by rw[ae];omega) (by decide),_,_,rfl,rfl,by rw[e1,ax];rfl⟩
   ·rw[ab (by simpa using z)];rw[ab z,bn]at e1;exact⟨_,_,rfl,rfl,by rw[e1]⟩
  ·rintro acc σ H6 ⟨o,o',rfl,rfl,rfl⟩ l6 hl6;rw[lf,bw];have s6:aD H6 (upd H6 l6 (.lst ((zeros v).map V.str))):=aD.upd hl6;have h66:upd H6 l6 (.lst ((zeros v).map V.str)) l6=some (.lst ((zeros v).map V.str)):=upd_same;generalize upd H6 l6 (.lst ((zeros v).map V.str))=H7 at s6 h66⊢;refine⟨W,l6,sm,I,zeros v,rfl,s6 _ _ h25,rs5.same (aX.of s6),h66,so.nought,so.once,by omega,λZ s8=>?_⟩;have S:=(sH5.trans s6).trans s8;have h18:=s8 _ _ (s6 _ _ h15);have h28:=s8 _ _ (s6 _ _ h25);have hx8:=S _ _ hx;have rf8:=U.same (aX.of S);have rs8:=rs.same (aX.of S);refine⟨_,rfl,_,rfl,x,C,u,[],rfl,hx8,co.cls,co.n1,by decide,?_⟩;refine⟨_,rfl,_,rfl,x,C,u,_,rfl,upd_same,co.cls,co.n2,?_,?_⟩
   ·have:=fU ("fixed_rows" : Str) (.ref L) [];simp only[List.length_nil]at this;omega
   rw[upd_upd];have e9:∀(fs:List (Str×V)),aD (del Z x) (upd Z x (.ins C u fs)):=λfs b o e=>by obtain⟨z1,z2⟩:=gR e;rw[aE z2];exact z1
   have l2f:(putF ("sum_rows" : Str) (.ref W) (putF ("fixed_rows" : Str) (.ref L) [])).length<=2:=by have:=fU ("sum_rows" : Str) (.ref W) (putF ("fixed_rows" : Str) (.ref L) []);have:=fU ("fixed_rows" : Str) (.ref L) [];simp only[List.length_nil]at this;omega
   have k1:(putF ("sum_rows" : Str) (.ref W) (putF ("fixed_rows" : Str) (.ref L) [])).lookup ("many" : Str)=none:=by rw[cF,ab (by decide),cF,ab (by decide)];rfl
   have k2:(putF ("sum_rows" : Str) (.ref W) (putF ("fixed_rows" : Str) (.ref L) [])).lookup ("nought" : Str)=none:=by rw[cF,ab (by decide),cF,ab (by decide)];rfl
   generalize putF ("sum_rows" : Str) (.ref W) (putF ("fixed_rows" : Str) (.ref L) [])=fs2 at l2f k1 k2⊢;have t9:aX Z (upd Z x (.ins C u fs2)):=λc xs e=>by rw[aE (λz=>by rw[z,hx8]at e;cases e)];exact e
   have X:upd Z x (.ins C u fs2) x=some (.ins C u fs2):=upd_same;have b9:cG x H (upd Z x (.ins C u fs2)):=λc o nc e=>by rw[aE nc];exact S _ _ e
   have h19:upd Z x (.ins C u fs2) L=some (.lst G):=by rw[aE nxl1.symm];exact h18
   have h29:upd Z x (.ins C u fs2) W=some (.lst I):=by rw[aE nxl2.symm];exact h28
   have rf9:=rf8.same t9;have rs9:=rs8.same t9;generalize upd Z x (.ins C u fs2)=H9 at t9 X b9 h19 h29 rf9 rs9⊢;refine⟨_,rfl,L,G,_,rfl,h19,rf9.prs,λB hd3=>?_⟩;rw[JY ndf];have nx3:x≠B:=aG X hd3;refine⟨_,rfl,x,C,u,fs2,rfl,by rw[aE nx3];exact X,co.cls,co.n3,by omega,?_⟩;have l3f:=fU ("many_by_name" : Str) (.ref B) fs2;have k3:(putF ("many_by_name" : Str) (.ref B) fs2).lookup ("many" : Str)=none:=by rw[cF,ab (by decide)];exact k1
   have k4:(putF ("many_by_name" : Str) (.ref B) fs2).lookup ("nought" : Str)=none:=by rw[cF,ab (by decide)];exact k2
   have k5:(putF ("many_by_name" : Str) (.ref B) fs2).lookup ("many_by_name" : Str)=some (.ref B):=by rw[cF,ai rfl]
   generalize putF ("many_by_name" : Str) (.ref B) fs2=fs3 at l3f k3 k4 k5⊢;have s10:aD H9 (upd H9 B (.dK (v.map λr=>(.inr r.1,.int r.2)))):=aD.upd hd3;have O:upd (upd H9 B (.dK (v.map λr=>(.inr r.1,.int r.2)))) x (.ins C u fs3) x=some (.ins C u fs3):=upd_same;have R:upd (upd H9 B (.dK (v.map λr=>(.inr r.1,.int r.2)))) x (.ins C u fs3) B=some (.dK (v.map λr=>(.inr r.1,.int r.2))):=by rw[aE nx3.symm];exact upd_same
   have Y:cG x H9 (upd (upd H9 B (.dK (v.map λr=>(.inr r.1,.int r.2)))) x (.ins C u fs3)):=λc o nc e=>by rw[aE nc];exact s10 _ _ e
   generalize upd (upd H9 B (.dK (v.map λr=>(.inr r.1,.int r.2)))) x (.ins C u fs3)=H11 at O R Y⊢;have t11:aX H9 H11:=λc xs e=>Y c _ (λz=>by rw[z,X]at e;cases e) e;refine⟨_,rfl,W,I,_,rfl,Y _ _ nxl2.symm h29,(rs9.same t11).prs,λd4 hd4=>?_⟩;rw[AB nds'];have nx4:x≠d4:=aG O hd4;have n34:B≠d4:=aG R hd4;refine⟨_,rfl,x,C,u,fs3,rfl,by rw[aE nx4];exact O,co.cls,co.n4,by omega,?_⟩;refine q _ (λc o nc e=>?_) ⟨co.cls,co.n3,co.n4,u,_,B,d4,upd_same,by rw[cF,ab (by decide)];exact k3,by rw[cF,ab (by decide)];exact k4,by rw[cF,ab (by decide)];exact k5,by rw[cF,ai rfl],by rw[aE nx3.symm,aE n34];exact R,by rw[aE nx4.symm];exact upd_same⟩;rw[aE nc];exact(aD.upd hd4) _ _ (Y c o nc (b9 c o nc e))
def zB:Sp:=λvs H Q _=>∃(d:D) (v:V),vs=[v]/\aZ H d v/\Fl d/\nds d<=1000/\depD d<=1000/\∀(l:Addr) (ws:List V) (H':Hp),aD H H'->H l=none->H' l=some (.lst ws)->Reps H' ((plw [] d).map rwD) ws->Q (.ref l) H'
structure Pq (v:V)(fo t:Addr)(d:D)(H:Hp)(n:Nat)(fs ts:List (List Nat×D))(H2:Hp):Prop where
 sa:aD H H2
 ex:∃ws us,H2 fo=some (.lst ws)/\H2 t=some (.lst us)/\Reps H2 (fs.map rwD) ws/\Reps H2 (ts.map rwD) us
 flf:∀r∈fs,Fl r.2
 flt:∀r∈ts,Fl r.2/\r.1.length+depD r.2<=depD d
 eq:fs++ts.reverse.flatMap (λr=>plw r.1 r.2)=plw [] d
 ms:ndss (ts.map (·.2))=n
 le:fs.length+n<=nds d
def TM (v:V)(a t:Addr)(d:D)(H:Hp)(n:Nat)(σ:St)(c:Hp):Prop:=∃(fs b:List (List Nat×D)) (o3 o4 o5:Option V),σ=[some v,some (.ref a),some (.ref t),o3,o4,o5]/\Pq v a t d H n fs b c
def TN (pa:Addr)(p:List Nat)(q0:Addr)(a:List V)(ds:List D)(H:Hp)(i:Nat)(b:List V)(σ:St)(c:Hp):Prop:=∃(e d:Option V),σ=[e,d,some (.ref pa)]/\aD H c/\Reps c ((chR p 0 (ds.take i)).map rwD) b/\c q0=some (.tup a)
theorem F3 {f:Addr}{fd:FuncData}(F:gG K "placed" "placed" lX f fd)(T:Txt mg):bY P w K mg base bN 1 f fd BD zB:=by
 have hE:=T.n_enumerate;refine F.ok iN (λvs H Q E h=>?_) (λcdv A outer s H vs Q E hr h=>?_)
 ·obtain⟨d,v,rfl,_⟩:=h;rfl
 ·obtain⟨d,v,rfl,rep,fl,n1000,d1000,q⟩:=h;have hu:=hr.units
  refine⟨_,(aC (aU (i:=1) iN.nd rfl (Or.inl rfl) (bQ aB))
   (aC (aU (i:=2) iN.nd rfl (Or.inl rfl) (bQ (aA (bE (aA (bE aB) (aA (pv 0) aB))) aB)))
   (aC (iX di (aV K rfl (pv 2) (λ_=>rfl)) (aC (gB (qL df PySem.F.slot_list_pop PySem.F.type_list_pop oF (pv 2)) (tK rfl (eV (bA (i:=3) iN.nd rfl (Or.inr rfl)) (eV (bA (i:=4) iN.nd rfl (Or.inl rfl)) pH))))
   (aC (bZ (fI df dh dg eI (pv 1) (aA (bE (aA (pv 3) (aA (pv 4) aB))) aB)))
   (aH (bL (eK (aV K rfl (aL aK rfl T.n_isinstance rfl (aA (pv 4) (aA (bR (v:=V.ty "str") rfl T.n_str rfl rfl) aB))) (λ_=>rfl))) (aC (gM (i:=5) iN.nd rfl rfl rfl rfl (bJ.by (N:=BG) (names:=(aJ lX).names) (N':=["number","part","place"]) (src:=[none,none,some 3]) (by decide +kernel) rfl rfl) (vD rfl hE (aA (dX iT (pv 4) (cM aF) c5) aB)) (λ_ _ _ _=>(dI K rfl (i:=0) (j:=1) rfl (show List.Nodup (["number","part","place"]:aS)by decide +kernel) rfl rfl rfl rfl)) (λ_ _ _ _=>cV) (λ_ _ _ _=>(bE (aA (bG (bT.or nB) (pv 2) (bE (aA (pv 0) aB))) (aA (pv 1) aB)))))
   (aH (bZ (fI df PySem.F.slot_list_extend PySem.F.type_list_extend iH (pv 2) (aA (mZ L0 (pv 5) c5 c5 (cM (rF lO aF))) aB))))) aR)))))
   (aH (aN (pv 1)))))),?_⟩
  try dsimp only[cxOf,Cx.nox]
  clear hr F T hu hE;simp only[eM,dF];refine⟨show 0<=sizeLine by decide,λI hfo=>?_⟩;have s0:aD H (upd H I (.lst [])):=aD.upd hfo;have r0:upd H I (.lst []) I=some (.lst []):=upd_same;change tSeq _ _ _ _ (upd H I (.lst []));generalize upd H I (.lst [])=H0 at s0 r0⊢;refine⟨show 0<=sizeLine by decide,λp1 hp1=>⟨_,rfl,show 2<=sizeLine by decide,λT1 hT1=>⟨show 1<=sizeLine by decide,λt ht=>?_⟩⟩⟩;have s1:aD H0 (upd H0 p1 (.tup [])):=aD.upd hp1;have r1:upd H0 p1 (.tup []) p1=some (.tup (iV [])):=upd_same;generalize upd H0 p1 (.tup [])=H1 at s1 r1 hT1 ht⊢;have s2:aD H1 (upd H1 T1 (.tup [.ref p1,v])):=aD.upd hT1;have r2:upd H1 T1 (.tup [.ref p1,v]) T1=some (.tup [.ref p1,v]):=upd_same;generalize upd H1 T1 (.tup [.ref p1,v])=H2 at s2 r2 ht⊢;have s3:aD H2 (upd H2 t (.lst [.ref T1])):=aD.upd ht;have r3:upd H2 t (.lst [.ref T1]) t=some (.lst [.ref T1]):=upd_same;change tSeq _ _ _ _ (upd H2 t (.lst [.ref T1]));generalize upd H2 t (.lst [.ref T1])=H3 at s3 r3⊢;have X:=(s1.trans s2).trans s3;have sA:=s0.trans X;have htN:H t=none:=by cases e:H t with|none=>rfl|some o=>rw[s2 _ _ (s1 _ _ (s0 _ _ e))]at ht;cases ht
  have nft:I≠t:=λz=>by rw[←z,s2 _ _ (s1 _ _ r0)]at ht;cases ht
  refine n6 (TM v I t d H) (nds d) ⟨[],[([],d)],none,none,none,rfl,⟨sA,⟨[],[.ref T1],X _ _ r0,r3,rfl,⟨_,[],rfl,IJ (s3 _ _ r2) (s3 _ _ (s2 _ _ r1)) (aZ.same sA rep),rfl⟩⟩,(λ_ h=>nomatch h),(λr h=>by cases cs.mp h;exact⟨fl,by show 0+depD d<=depD d;omega⟩),by simp,by simp[ndss],by simp⟩⟩ ?_;rintro n σ H4 ⟨fs,ts,o3,o4,o5,rfl,Z⟩ R hT hF;obtain⟨ws,us,h1,h2,rf,rt⟩:=Z.ex;have le:=Z.le;have lf:=Reps.len rf;rw[ae]at lf;rcases List.eq_nil_or_concat ts with rfl|⟨B,r,rfl⟩
  ·cases (show us=[]from rt);refine⟨_,rfl,false,.inl ⟨[],dN.of h2,rfl⟩,hF H4 ⟨_,rfl,q I ws H4 Z.sa hfo h1 ?_⟩⟩;have e:=Z.eq;rw[List.reverse_nil,List.flatMap_nil,bn]at e;rw[←e];exact rf
  ·rw[List.concat_eq_append]at rt Z;have e4:=Z.eq;have m4:=Z.ms;rw[ax]at rt m4;obtain⟨g,u,rfl,rt',ru⟩:=dZ rt;obtain⟨T,pa,x,rfl,hTT,hpa,rx⟩:=II ru;obtain⟨fr,dr⟩:=Z.flt r (by simp);have ft':∀y∈B,Fl y.2/\y.1.length+depD y.2<=depD d:=λy G=>Z.flt y (by simp[G]);refine⟨_,rfl,true,.inl ⟨_,dN.of h2,by simp⟩,hT H4 ?_⟩;refine⟨_,rfl,tyL h2,t,_,.ref T,rfl,rfl,h2,by simp,?_⟩;rw[List.dropLast_concat];have t5:aX H4 (upd H4 t (.lst g)):=aX.lst h2;have r5:upd H4 t (.lst g) t=some (.lst g):=upd_same;have f5:upd H4 t (.lst g) I=some (.lst ws):=by rw[aE nft];exact h1
   have a5:aD H (upd H4 t (.lst g)):=λb o hb=>by rw[aE (aG hb htN)];exact Z.sa _ _ hb
   generalize upd H4 t (.lst g)=H5 at t5 r5 f5 a5⊢;refine⟨T,_,rfl,gF.of (t5 _ _ hTT),rfl,_,_,rfl,_,_,rfl,rfl,?_⟩;refine⟨_,rfl,.inl ⟨rfl,_,dN.of f5⟩,_,rfl,_,rfl,show 2<=sizeLine by decide,λS hT6=>?_⟩;have s6:aD H5 (upd H5 S (.tup [.ref pa,x])):=aD.upd hT6;have r6:upd H5 S (.tup [.ref pa,x]) S=some (.tup [.ref pa,x]):=upd_same;generalize upd H5 S (.tup [.ref pa,x])=H6 at s6 r6⊢;refine⟨I,ws,.ref S,rfl,rfl,s6 _ _ f5,aj (m:=1000) (by omega) (by decide),?_⟩;have t7:aX H5 (upd H6 I (.lst (ws++[.ref S]))):=(aX.of s6).trans (aX.lst (s6 _ _ f5));have r7:upd H6 I (.lst (ws++[.ref S])) I=some (.lst (ws++[.ref S])):=upd_same;have q7:upd H6 I (.lst (ws++[.ref S])) t=some (.lst g):=by rw[aE nft.symm];exact s6 _ _ r5
   have a7:aD H (upd H6 I (.lst (ws++[.ref S]))):=λb o hb=>by rw[aE (aG hb hfo)];exact s6 _ _ (a5 _ _ hb)
   have e7:upd H6 I (.lst (ws++[.ref S])) S=some (.tup [.ref pa,x]):=by rw[aE (λz=>by rw[z,s6 _ _ f5]at r6;cases r6)];exact r6
   generalize upd H6 I (.lst (ws++[.ref S]))=H7 at t7 r7 q7 a7 e7⊢;have W:=t5.trans t7;have ffs:Nls (fs.map rwD):=qQ λy G=>by obtain⟨z,hz,rfl⟩:=cy.mp G;exact D9 (Z.flf z hz)
   have fts:Nls (B.map rwD):=qQ λy G=>by obtain⟨z,hz,rfl⟩:=cy.mp G;exact D9 (ft' z hz).1
   have rf7:Reps H7 ((fs++[r]).map rwD) (ws++[.ref S]):=by rw[ax];exact Reps.snoc (IJ e7 (W _ _ hpa) (aZ.tups W fr rx)) (Reps.nl W ffs rf)
   have rt7:=Reps.nl W fts rt';have rx7:=aZ.tups W fr rx;have pa7:=W _ _ hpa;have flf7:∀y∈fs++[r],Fl y.2:=λy G=>by
    rcases cx.mp G with m|m
    ·exact Z.flf y m
    ·cases cs.mp m;exact fr
   have m5:ndss (B.map (·.2))+nds r.2=n:=by rw[←m4,dY];simp[ndss]
   rw[List.reverse_append,List.reverse_cons,List.reverse_nil,List.nil_append,List.singleton_append,List.flatMap_cons]at e4;have lfs:(fs++[r]).length=fs.length+1:=by simp
   obtain⟨p,e⟩:=r;dsimp only at fr dr m5 e4 rx7 pa7;rcases kX fr with⟨y,rfl,_⟩|⟨nm,ds,rfl,fds⟩
   ·cases (show x = .str y from rx7);have n1:nds (.str y)=1:=by unfold nds;rfl
    refine⟨_,rfl,.str y,.ty "str",true,rfl,rfl,true,rfl,?_⟩;refine⟨ndss (B.map (·.2)),by omega,fs++[(p,.str y)],B,_,_,_,rfl,a7,⟨_,g,r7,q7,rf7,rt7⟩,flf7,ft',?_,rfl,by omega⟩;rw[←e4,show plw p (.str y)=[(p,.str y)]by unfold plw;rfl,cp]
   ·obtain⟨va,vs,rfl,hva,_,U,rfl,e1,rds⟩:=rx7;cases e1;have lr:=Reps.len rds;have nd:nds (.tup (.str nm::ds))=1+ndss ds:=by rw[nds]
    have dd:depD (.tup (.str nm::ds))=depDs ds+1:=by rw[depD,depDs,show depD (.str nm)=0 from rfl];omega
    have lds:=hU ds;refine⟨_,rfl,.ref va,.ty "str",false,rfl,gC hva,false,rfl,?_⟩;refine⟨_,rfl,(1:Int),rfl,va,_,rfl,.inr hva,λ_ z=>by have:=z.1;simp[HT.sIx]at this,λq0 oq hq0 hoq=>?_⟩;obtain⟨rfl,_⟩:=hoq.resolve_left λz=>by rw[hva]at z;exact nomatch z.2
    rw[gT];have s8:aD H7 (upd H7 q0 (.tup U)):=aD.upd hq0;have r8:upd H7 q0 (.tup U) q0=some (.tup U):=upd_same;generalize upd H7 q0 (.tup U)=H8 at s8 r8⊢;refine⟨q0,U,rfl,r8,AX (TN pa p q0 U ds H8) ⟨_,_,rfl,aD.refl _,rfl,r8⟩ (λi c σ H' ⟨_,_,_,_,_,z⟩=>z) ?_ ?_⟩
    ·rintro i xv Tn c σ H9 hxv ⟨o0,o1,rfl,s9,l,hq9⟩ hTn;have li:=(cr.mp hxv).1;obtain⟨y,G,ry⟩:=Reps.get rds hxv;have la:=Reps.len l;rw[ae,yR,bv]at la;have J:aD H9 (upd H9 Tn (.tup [.int (i:Int),xv])):=aD.upd hTn;have Y:upd H9 Tn (.tup [.int (i:Int),xv]) Tn=some (.tup [.int (i:Int),xv]):=upd_same;generalize upd H9 Tn (.tup [.int (i:Int),xv])=H10 at J Y⊢;refine⟨Tn,_,rfl,gF.of Y,rfl,_,_,rfl,_,_,rfl,rfl,?_⟩;refine⟨_,rfl,_,rfl,show 1<=sizeLine by decide,λp2 hp2=>?_⟩;have C:aD H10 (upd H10 p2 (.tup [.int (i:Int)])):=aD.upd hp2;have r11:upd H10 p2 (.tup [.int (i:Int)]) p2=some (.tup [.int (i:Int)]):=upd_same;generalize upd H10 p2 (.tup [.int (i:Int)])=H11 at C r11⊢;have s811:=(s9.trans J).trans C;refine .inr ⟨pa,p2,_,_,rfl,rfl,s811 _ _ (s8 _ _ pa7),r11,ao (m:=3000) (by unfold iV;rw[ae];simp;omega) (by decide),λp3 H12 s12 r12=>?_⟩;refine⟨_,rfl,show 2<=sizeLine by decide,λT13 hT13=>⟨aj (m:=3000) (by omega) (by decide),?_⟩⟩;have X:aD H12 (upd H12 T13 (.tup [.ref p3,xv])):=aD.upd hT13;have r13:upd H12 T13 (.tup [.ref p3,xv]) T13=some (.tup [.ref p3,xv]):=upd_same;generalize upd H12 T13 (.tup [.ref p3,xv])=H13 at X r13⊢;have L:=((J.trans C).trans s12).trans X;refine⟨_,_,rfl,s9.trans L,?_,L _ _ hq9⟩;rw[bD G,AZ,ax];refine Reps.snoc (IJ r13 ?_ (aZ.same ((s8.trans s9).trans L) ry)) (Reps.same L l);rw[X _ _ r12,bv,Nat.min_eq_left (by omega),Nat.zero_add];unfold iV;rw[ax];rfl
    ·rintro c σ H9 ⟨o0,o1,rfl,s9,l,_⟩ w hw;rw[lr,bw]at l;have la:=Reps.len l;rw[ae,yR]at la;have J:aD H9 (upd H9 w (.lst c)):=aD.upd hw;have Y:upd H9 w (.lst c) w=some (.lst c):=upd_same;generalize upd H9 w (.lst c)=H10 at J Y⊢;have s710:=(s8.trans s9).trans J;have q10:=s710 _ _ q7;refine⟨_,rfl,.inl ⟨rfl,_,dN.of q10⟩,_,rfl,1,rfl,-1,rfl,rfl,rfl,rfl,w,c,rfl,.inl Y,λw2 o2 hw2 ho2=>?_⟩;obtain⟨rfl,_⟩:=ho2.resolve_right λz=>by rw[Y]at z;exact nomatch z.2
     have C:aD H10 (upd H10 w2 (.lst c.reverse)):=aD.upd hw2;have r11:upd H10 w2 (.lst c.reverse) w2=some (.lst c.reverse):=upd_same;generalize upd H10 w2 (.lst c.reverse)=H11 at C r11⊢;have q11:=C _ _ q10;have lt':=Reps.len rt7;rw[ae]at lt';have ltn:=hU (B.map (·.2));rw[ae]at ltn;have O:=s710.trans C;refine⟨t,w2,g,c.reverse,rfl,rfl,q11,.inl r11,ao (m:=3000) (by rw[List.length_reverse];omega) (by decide),?_⟩;have t12:aX H11 (upd H11 t (.lst (g++c.reverse))):=aX.lst q11;have chfl:∀y∈chR p 0 ds,Fl y.2/\y.1.length+depD y.2<=depD d:=λy G=>by obtain⟨c1,c2⟩:=E9 G;obtain⟨j,hj⟩:=List.getElem?_of_mem c1;have:=i5 hj;exact⟨bM fds _ c1,by omega⟩
     have nch:Nls ((chR p 0 ds).reverse.map rwD):=qQ λy G=>by obtain⟨z,hz,rfl⟩:=cy.mp G;exact D9 (chfl z (List.mem_reverse.mp hz)).1
     have rch:Reps H11 ((chR p 0 ds).reverse.map rwD) c.reverse:=by rw[List.map_reverse];exact Reps.rev (Reps.same (J.trans C) l)
     have ch2:(chR p 0 ds).map (·.2)=ds:=by
      have:∀(ds:List D) (k:Nat),(chR p k ds).map (·.2)=ds:=λds=>by
       induction ds with
       | nil=>intro _;rfl
       | cons a ds ih=>intro k;rw[chR,bd,ih]
      exact this ds 0
     refine⟨ndss ((B++(chR p 0 ds).reverse).map (·.2)),?_,fs++[(p,.tup (.str nm::ds))],B++(chR p 0 ds).reverse,_,_,_,rfl,⟨λb o hb=>by rw[aE (aG hb htN)];exact O _ _ (a7 _ _ hb),⟨_,_,by rw[aE nft];exact O _ _ r7,upd_same,Reps.nl t12 ?_ (Reps.same O rf7),?_⟩,flf7,?_,?_,rfl,?_⟩⟩
     ·rw[ax,dY,List.map_reverse,ch2,mI];omega
     ·exact qQ λy G=>by obtain⟨z,hz,rfl⟩:=cy.mp G;exact D9 (flf7 z hz)
     ·rw[ax];exact Reps.append (Reps.nl t12 fts (Reps.same O rt7)) (Reps.nl t12 nch rch)
     ·intro y G;rcases cx.mp G with m|m
      ·exact ft' y m
      ·exact chfl y (List.mem_reverse.mp m)
     ·rw[←e4,List.reverse_append,List.reverse_reverse,List.flatMap_append,show plw p (.tup (.str nm::ds))=(p,.tup (.str nm::ds))::plws p 0 ds by rw[plw],DV,cp];rfl
     ·rw[ax,dY,List.map_reverse,ch2,mI];omega
theorem yM (p q:List Nat):iV (p++q)=iV p++iV q:=ax
theorem mM (p:List Nat):(iV p).length=p.length:=ae _
theorem iU:∀k:Nat,(List.replicate k [V.int 1]).flatten=iV (ones k)
 | 0=>rfl
 | k+1=>by rw[List.replicate_succ,List.flatten_cons,iU k];rfl
theorem mG (k:Nat):(ones k).length=k:=List.length_replicate
theorem D7 (H H':Hp):aD (nw H H') H':=λ_ _ e=>(mH.mp e).2
def spInw:Sp:=λvs H Q _=>∃(n:Str) (p:List Nat) (pa b:Addr) (m:D) (mv:V) (bs:List D) (ws:List V),vs=[.str n,.ref pa,mv,.ref b]/\H pa=some (.tup (iV p))/\aZ H m mv/\Fl m/\nds m<=1000/\H b=some (.lst ws)/\Reps H bs ws/\(∀e∈bs,Fl e/\nds e<=1000)/\bs.length<=200/\p.length<=1000 /\
 ∀(l:Addr) (us:List V) (H':Hp),aD H H'->H l=none->H' l=some (.lst us)->Reps H' ((inw n p m bs).map stD) us->Q (.ref l) H'
def UG (k:Addr)(m:D)(bs:List D)(H:Hp)(i:Nat)(a:List V)(σ:St)(H':Hp):Prop:=∃o:Option V,σ=[o,some (.ref k)]/\aD H H'/\a.length=cntB m (bs.take i)
def UE (n:Str)(p:List Nat)(pa b l k:Addr)(a:V)(c d:Nat)(H:Hp)(i:Nat)(σ:St)(H':Hp):Prop:=∃(us:List V) (o7 o8:Option V),σ=[some (.str n),some (.ref pa),some a,some (.ref b),some (.ref l),some (.ref k),some (.int (c:Int)),o7,o8]/\aD H H'/\H' l=some (.lst us)/\Reps H' (((List.range i).flatMap (inw1 n p d)).map stD) us
theorem AY (m e:D)(bs:List D):cntB m (bs++[e])=cntB m bs+if lexK (key e) (key m)=true then 1 else 0:=by unfold cntB;rw[List.filter_append,aq,List.filter_cons,List.filter_nil];split <;> rfl
theorem P5 {f:Addr}{fd:FuncData}(F:gG K "steps_inward" "steps_inward" eT f fd)(T:Txt mg)(d:dP P w K mg base bN 2 "order_key" spKey):bY P w K mg base bN 3 f fd mR spInw:=by
 refine F.ok dA (λvs H Q E h=>?_) (λcdv A outer s H vs Q E hr h=>?_)
 ·obtain⟨n,p,pa,b,m,mv,bs,ws,rfl,_⟩:=h;rfl
 ·obtain⟨n,p,pa,b,m,mv,bs,ws,rfl,hpa,rm,fm,nm,hb,rbs,all,b200,p1000,q⟩:=h;have hu:=hr.units
  refine⟨_,(aC (aU (i:=4) dA.nd rfl (Or.inl rfl) (bQ aB))
   (aC (aU (i:=5) dA.nd rfl (Or.inr rfl) (aM d (hr.mono (by decide)) pass0 rfl (aA (pv 2) aB)))
   (aC (aU (i:=6) dA.nd rfl (Or.inl rfl) (aL bK rfl T.n_len rfl (aA (e8 rfl (bJ.by (N:=jD) (names:=(aJ eT).names) (N':=["part","key"]) (src:=[none,some 5]) (by decide +kernel) rfl rfl) (cQ K rfl (pv 3)) (λ_ _ _ _=>(bA (i:=0) (show List.Nodup (["part","key"]:aS)by decide +kernel) rfl (Or.inl rfl))) (λ_ _ _ _=>(sF (aQ (PU hu) (aM d (hr.mono (by decide)) pass0 rfl (aA (pv 0) aB)) (pv 1) (nomark _)))) (λ_ _ _ _=>(pv 0))) aB)))
   (aC (fB di rfl (iO rfl T.n_range (aA (pv 6) aB)) (bA (i:=7) dA.nd rfl (Or.inl rfl)) (aC (aU (i:=8) dA.nd rfl (Or.inl rfl) (bG (bT.or nB) (pv 1) (bG (mE.or xW) (bE (aA aF aB)) (pv 7))))
   (aH (bL (aQ (dQ hu) (pv 7) (bG fC (aL bK rfl T.n_len rfl (aA (pv 3) aB)) aF) (nomark _)) (aH (bZ (fI df dh dg eI (pv 4) (aA (bE (aA cJ (aA (pv 8) (aA (pv 0) aB)))) aB)))) (aH (bZ (fI df PySem.F.slot_list_extend PySem.F.type_list_extend iH (pv 4) (aA (bQ (aA (bE (aA cJ (aA (pv 8) (aA (pv 0) aB)))) (aA (bE (aA cJ (aA (bG (bT.or nB) (pv 8) (bE (aA aF aB))) (aA (pv 0) aB)))) (aA (bE (aA cJ (aA (pv 8) (aA (pv 0) aB)))) aB)))) aB))))))))
   (aH (aN (pv 4))))))),?_⟩
  try dsimp only[cxOf,Cx.nox]
  clear hr F T hu d;simp only[eM,dF];have lw:=Reps.len rbs;refine⟨show 0<=sizeLine by decide,λl hl=>?_⟩;have s1:aD H (upd H l (.lst [])):=aD.upd hl;have r1:upd H l (.lst []) l=some (.lst []):=upd_same;change tSeq _ _ _ _ (upd H l (.lst []));generalize upd H l (.lst [])=H1 at s1 r1⊢;refine⟨_,rfl,m,mv,rfl,aZ.same s1 rm,fm,nm,λk H2 s2 hk rk=>?_⟩;have rk:=aZ.same (D7 _ _) rk;have g:=s1.trans s2;refine⟨_,rfl,b,ws,rfl,.inl (g _ _ hb),λJ hJ=>?_⟩;refine cU hJ (UG k m bs H2) ⟨none,rfl,aD.refl _,rfl⟩ (λi u σ H' _ ⟨_,_,s,_⟩=>by rw[s _ _ (g _ _ hb),g _ _ hb]) ?_ ?_
  ·rintro i x u σ H3 hx ⟨o,rfl,s3,la⟩;obtain⟨e,he,re⟩:=Reps.get rbs hx;obtain⟨fe,ne⟩:=all e (bi he);have li:=C1 m (bs.take i);rw[bv]at li;refine⟨_,rfl,e,x,rfl,aZ.same (g.trans s3) re,fe,ne,λk2 H4 s4 hk2 rk2=>?_⟩;refine⟨_,rfl,key e,key m,aZ.same (D7 _ _) rk2,aZ.same (s3.trans s4) rk,_,rfl,bX (λc=>⟨_,rfl,aj (m:=200) (by omega) (by decide),?_⟩) (λc=>?_)⟩
   ·exact⟨_,rfl,s3.trans s4,by rw[bD he,AY,c,ai rfl,aq,la];rfl⟩
   ·exact⟨_,rfl,s3.trans s4,by rw[bD he,AY,c,ab (by decide),la];rfl⟩
  rintro u σ H3 ⟨o,rfl,s3,la⟩ a ha;rw[lw,bw]at la;have s4:aD H3 (upd H3 a (.lst u)):=aD.upd ha;have r4:upd H3 a (.lst u) a=some (.lst u):=upd_same;generalize upd H3 a (.lst u)=H4 at s4 r4⊢;have s24:=s3.trans s4;have sA:=g.trans s24;have cb:=C1 m bs;refine⟨_,_,rfl,(by dsimp only;rw[lenV_l r4,la];rfl),?_⟩;have hI:inw n p m bs=(List.range (cntB m bs)).flatMap (inw1 n p bs.length):=rfl;generalize cntB m bs=c at cb hI la⊢;refine⟨_,rfl,(c:Int),rfl,by omega,by omega,?_⟩;rw[cq];refine oJ (UE n p pa b l k mv c bs.length H) ⟨[],none,none,rfl,sA,s24 _ _ (s2 _ _ r1),rfl⟩ ?_ ?_
  ·rintro i σ H5 hi ⟨us,o7,o8,rfl,s5,l5,ru⟩;rw[Int.zero_add];have lu:=Reps.len ru;have lI:=mN (inw1 n p bs.length) 3 (List.range i) λj _=>by unfold inw1;split <;> simp
   rw[ae]at lu;rw[List.length_range]at lI;have snoc:((List.range (i+1)).flatMap (inw1 n p bs.length)).map stD=((List.range i).flatMap (inw1 n p bs.length)).map stD++(inw1 n p bs.length i).map stD:=by rw[List.range_succ,List.flatMap_append,ax];simp
   refine⟨_,rfl,show 1<=sizeLine by decide,λt1 ht1=>?_⟩;have s6:aD H5 (upd H5 t1 (.tup [.int 1])):=aD.upd ht1;have r6:upd H5 t1 (.tup [.int 1]) t1=some (.tup [.int 1]):=upd_same;generalize upd H5 t1 (.tup [.int 1])=H6 at s6 r6⊢;refine⟨_,rfl,.inr ⟨t1,i,[.int 1],rfl,rfl,r6,by simp,by omega,ao (m:=3000) (by simp;omega) (by decide),λt2 H7 s7 r7=>.inr ⟨pa,t2,iV p,_,rfl,rfl,s7 _ _ (s6 _ _ (s5 _ _ hpa)),r7,?_,λt3 U s8 r8=>?_⟩⟩⟩
   ·rw[iU,mM,mM,mG];exact ao (m:=3000) (by omega) (by decide)
   rw[iU,←yM]at r8;have G:=(s6.trans s7).trans s8;have l8:=G _ _ l5;have X:=s5.trans G;have nl8:l≠t3:=λz=>by rw[z,r8]at l8;cases l8
   have ru8:=Reps.same G ru;clear s6 r6 s7 r7 s8 G ht1;refine⟨_,rfl,_,rfl,_,_,rfl,(by dsimp only;rw[lenV_l (X _ _ hb),lw];rfl),_,_,rfl,rfl,.int i,.int ((bs.length:Int) - 1),rfl,rfl,au _,_,rfl,bX (λe=>?_) (λe=>?_)⟩
   ·have e2:i+1=bs.length:=by have e:((i:Int) == (bs.length:Int) - 1)=true:=e;have:=eq_of_beq e;omega
    refine⟨_,rfl,.inl ⟨rfl,_,dN.of l8⟩,_,rfl,_,rfl,show 3<=sizeLine by decide,λT9 hT9=>?_⟩;have C:aD U (upd U T9 (.tup [.str "turn",.ref t3,.str n])):=aD.upd hT9;have r9:upd U T9 (.tup [.str "turn",.ref t3,.str n]) T9=some (.tup [.str "turn",.ref t3,.str n]):=upd_same;generalize upd U T9 (.tup [.str "turn",.ref t3,.str n])=H9 at C r9⊢;have l9:=C _ _ l8;have W:aX H9 (upd H9 l (.lst (us++[.ref T9]))):=aX.lst l9;refine⟨l,us,.ref T9,rfl,rfl,l9,aj (m:=3000) (by omega) (by decide),?_⟩;refine⟨_,_,_,rfl,λz o ez=>by rw[aE (aG ez hl)];exact C _ _ (X _ _ ez),upd_same,?_⟩;rw[snoc,show inw1 n p bs.length i=[(("turn" : Str),p++ones i,n)]by unfold inw1;rw[ai e2]];exact Reps.append (Reps.nl W (i3 _) (Reps.same C ru8)) ⟨_,[],rfl,oV (W _ _ r9) (W _ _ (C _ _ r8)),rfl⟩
   ·have e2:¬i+1=bs.length:=λz=>by have e:((i:Int) == (bs.length:Int) - 1)=false:=e;have:=ne_of_beq_false e;omega
    refine⟨_,rfl,.inl ⟨rfl,_,dN.of l8⟩,_,rfl,_,rfl,show 3<=sizeLine by decide,λR hA1=>?_⟩;have C:aD U (upd U R (.tup [.str "left",.ref t3,.str n])):=aD.upd hA1;have rA:upd U R (.tup [.str "left",.ref t3,.str n]) R=some (.tup [.str "left",.ref t3,.str n]):=upd_same;generalize upd U R (.tup [.str "left",.ref t3,.str n])=H9 at C rA⊢;refine⟨_,rfl,show 1<=sizeLine by decide,λt4 ht4=>?_⟩;have Z:aD H9 (upd H9 t4 (.tup [.int 0])):=aD.upd ht4;have r10:upd H9 t4 (.tup [.int 0]) t4=some (.tup (iV [0])):=upd_same;generalize upd H9 t4 (.tup [.int 0])=H10 at Z r10⊢;refine .inr ⟨t3,t4,_,_,rfl,rfl,Z _ _ (C _ _ r8),r10,?_,λt5 I s11 r11=>?_⟩
    ·rw[mM,mM,aq,mG];exact ao (m:=3000) (by simp;omega) (by decide)
    rw[←yM]at r11;refine⟨_,rfl,show 3<=sizeLine by decide,λO hA2=>?_⟩;have g:aD I (upd I O (.tup [.str "turn",.ref t5,.str n])):=aD.upd hA2;have rB:upd I O (.tup [.str "turn",.ref t5,.str n]) O=some (.tup [.str "turn",.ref t5,.str n]):=upd_same;generalize upd I O (.tup [.str "turn",.ref t5,.str n])=H12 at g rB⊢;refine⟨_,rfl,_,rfl,show 3<=sizeLine by decide,λL hA3=>?_⟩;have s13:aD H12 (upd H12 L (.tup [.str "right",.ref t3,.str n])):=aD.upd hA3;have rC:upd H12 L (.tup [.str "right",.ref t3,.str n]) L=some (.tup [.str "right",.ref t3,.str n]):=upd_same;generalize upd H12 L (.tup [.str "right",.ref t3,.str n])=H13 at s13 rC⊢;refine⟨show 3<=sizeLine by decide,λb2 hb2=>?_⟩;have Y:aD H13 (upd H13 b2 (.lst [.ref R,.ref O,.ref L])):=aD.upd hb2;have r14:upd H13 b2 (.lst [.ref R,.ref O,.ref L]) b2=some (.lst [.ref R,.ref O,.ref L]):=upd_same;generalize upd H13 b2 (.lst [.ref R,.ref O,.ref L])=H14 at Y r14⊢;have v:=s13.trans Y;have B:=g.trans v;have S:=(Z.trans s11).trans B;have r:=C.trans S;have l14:=r _ _ l8;have t:aX H14 (upd H14 l (.lst (us++[.ref R,.ref O,.ref L]))):=aX.lst l14;refine⟨l,b2,us,_,rfl,rfl,l14,.inl r14,ao (m:=3000) (by simp;omega) (by decide),?_⟩;refine⟨_,_,_,rfl,λz o ez=>by rw[aE (aG ez hl)];exact r _ _ (X _ _ ez),upd_same,?_⟩;rw[snoc,show inw1 n p bs.length i=[(("left" : Str),p++ones i,n),(("turn" : Str),(p++ones i)++[0],n),(("right" : Str),p++ones i,n)]by unfold inw1;rw[ab e2]];have h3:=t _ _ (r _ _ r8);exact Reps.append (Reps.nl t (i3 _) (Reps.same r ru8)) ⟨_,_,rfl,oV (t _ _ (S _ _ rA)) h3,_,_,rfl,oV (t _ _ (v _ _ rB)) (t _ _ (B _ _ r11)),_,_,rfl,oV (t _ _ (Y _ _ rC)) h3,rfl⟩
  ·rintro σ H5 ⟨us,o7,o8,rfl,s5,l5,ru⟩;refine⟨_,rfl,q l us H5 s5 hl l5 ?_⟩;rw[hI];exact ru
def spSum:Sp:=λvs H Q _=>∃(n z:Str) (p:List Nat) (pa a:Addr) (x y:D) (ws:List V),vs=[.str n,.str z,.ref pa,.ref a]/\H pa=some (.tup (iV p))/\H a=some (.lst ws)/\Reps H [x,y] ws/\Fl x/\Fl y/\nds x<=1000/\nds y<=1000/\depD x<=60/\depD y<=60/\(opP n x).length+(opP n y).length<=60/\p.length<=500 /\
 ∀(l:Addr) (us:List V) (H':Hp),aD H H'->H l=none->H' l=some (.lst us)->Reps H' ((ssum n z p x y).map stD) us->Q (.ref l) H'
theorem D6 {n:Str}{d:D}:ndss (opP n d)<=nds d:=by
 unfold opP;split
 ·split
  ·rw[nds];omega
  ·rw[ndss,ndss];omega
 ·rw[ndss,ndss];omega
theorem JN {n:Str}{d:D}(h:Fl d):Fls (opP n d):=by
 unfold opP;split
 ·split
  ·unfold Fl at h;exact h
  ·exact⟨h,trivial⟩
 ·exact⟨h,trivial⟩
def TK (n:Str)(p:List Nat)(pa:Addr)(H:Hp)(i:Nat)(a:List V)(σ:St)(H':Hp):Prop:=∃o:Option V,σ=[o,some (.str n),some (.ref pa)]/\aD H H'/\Reps H' ((rgt n p i).map stD) a
structure TH (n:Str)(p:List Nat)(fa st ba:Addr)(fr bs:List D)(tot:List S3)(Hs:Hp)(i:Nat)(H':Hp):Prop where
 bt:cG st Hs H'
 ex:∃us bws dn,H' st=some (.lst us)/\H' ba=some (.lst bws)/\Reps H' bs bws/\Reps H' (dn.map stD) us/\dn++sdn n p fr (fr.length - i) bs=tot
 nb:ba≠st
 al:∀e∈bs,Fl e/\nds e<=1000
 ln:bs.length<=60
def TJ (n z:Str)(p:List Nat)(pa a:Addr)(g f:V)(c st:Addr)(fr e:List D)(b:List S3)(Hs:Hp)(i:Nat)(σ:St)(H':Hp):Prop:=∃(d:Addr) (bs:List D) (o9:Option V),σ=[some (.str n),some (.str z),some (.ref pa),some (.ref a),some g,some f,some (.ref c),some (.ref d),some (.ref st),o9]/\TH n p c st d fr bs b Hs i H'/\bs.length=e.length+i
theorem IM (n:Str)(p:List Nat)(i:Nat):rgt n p (i+1)=rgt n p i++[(("right" : Str),p++ones i,n)]:=by unfold rgt;rw[List.range_succ,ax];rfl
theorem M7 {f:Addr}{fd:FuncData}(F:gG K "steps_of_sum" "steps_of_sum" eQ f fd)(T:Txt mg)(g:dP P w K mg base bN 1 "opened" qJ)(d:dP P w K mg base bN 3 "steps_inward" spInw):bY P w K mg base bN 4 f fd mQ spSum:=by
 refine F.ok cR (λvs H Q E h=>?_) (λcdv A outer s H vs Q E hr h=>?_)
 ·obtain⟨n,z,p,pa,a,x,y,ws,rfl,_⟩:=h;rfl
 ·obtain⟨n,z,p,pa,a,x,y,ws,rfl,hpa,ha,⟨v1,r1,e1,rx,v2,r2,e2,ry,e3⟩,fx,fy,nx,ny,dx,dy,l60,p500,q⟩:=h;subst e1 e2;cases (show r2=[]from e3);have hu:=hr.units
  refine⟨_,(aC (gB (pv 3) (IX (i:=4) (j:=5) rfl cR.nd rfl rfl rfl rfl))
   (aC (bL (aQ (dQ hu) (pv 5) (pv 1) (nomark _)) (aH (aN (bQ (aA (bE (aA cJ (aA (pv 2) (aA (pv 0) aB)))) aB)))) aR)
   (aC (bL (aQ (dQ hu) (pv 4) (pv 1) (nomark _)) (aH (aN (bQ (aA (bE (aA cJ (aA (pv 2) (aA (pv 0) aB)))) (aA (bE (aA cJ (aA (pv 2) (aA (pv 0) aB)))) aB))))) aR)
   (aC (aU (i:=6) cR.nd rfl (Or.inl rfl) (aM g (hr.mono (by decide)) pass0 rfl (aA (pv 0) (aA (pv 4) aB))))
   (aC (aU (i:=7) cR.nd rfl (Or.inl rfl) (aM g (hr.mono (by decide)) pass0 rfl (aA (pv 0) (aA (pv 5) aB))))
   (aC (gM (i:=8) cR.nd rfl rfl rfl rfl (bJ.by (N:=jC) (names:=(aJ eQ).names) (N':=["number","name","place"]) (src:=[none,some 0,some 2]) (by decide +kernel) rfl rfl) (iO rfl T.n_range (aA (bG fC (aL bK rfl T.n_len rfl (aA (pv 6) aB)) aF) aB)) (λ_ _ _ _=>(bA (i:=0) (show List.Nodup (["number","name","place"]:aS)by decide +kernel) rfl (Or.inl rfl))) (λ_ _ _ _=>cV) (λ_ _ _ _=>(bE (aA cJ (aA (bG (bT.or nB) (pv 2) (bG (mE.or xW) (bE (aA aF aB)) (pv 0))) (aA (pv 1) aB))))))
   (aC (fB di rfl (MI rfl T.n_reversed rfl T.n_range (aA (aL bK rfl T.n_len rfl (aA (pv 6) aB)) aB)) (bA (i:=9) cR.nd rfl (Or.inl rfl)) (aC (bZ (fI df PySem.F.slot_list_extend PySem.F.type_list_extend iH (pv 8) (aA (aM d (hr.mono (by decide)) pass0 rfl (aA (pv 0) (aA (bG (bT.or nB) (pv 2) (bG (mE.or xW) (bE (aA aF aB)) (pv 9))) (aA (bC bW (pv 6) (pv 9) (λ_ _=>rfl)) (aA (pv 7) aB))))) aB)))
   (aH (aU (i:=7) cR.nd rfl (Or.inl rfl) (bG (bT.or nB) (pv 7) (bQ (aA (bC bW (pv 6) (pv 9) (λ_ _=>rfl)) aB)))))))
   (aH (aN (pv 8)))))))))),?_⟩
  try dsimp only[cxOf,Cx.nox]
  clear hr F T hu g d;simp only[eM,dF];refine⟨_,rfl,a,_,rfl,.inl ha,rfl,_,_,rfl,_,_,rfl,rfl,?_⟩;refine⟨_,rfl,_,rfl,y,.str z,ry,rfl,dy,_,rfl,bX (λc=>?_) (λc=>?_)⟩
  ·refine⟨_,rfl,_,rfl,show 3<=sizeLine by decide,λW hT1=>⟨show 1<=sizeLine by decide,λl hl=>?_⟩⟩;have U:aD H (upd H W (.tup [.str "drop",.ref pa,.str n])):=aD.upd hT1;have r1:upd H W (.tup [.str "drop",.ref pa,.str n]) W=some (.tup [.str "drop",.ref pa,.str n]):=upd_same;generalize upd H W (.tup [.str "drop",.ref pa,.str n])=H1 at U r1 hl⊢;have s2:aD H1 (upd H1 l (.lst [.ref W])):=aD.upd hl;refine q l _ _ (U.trans s2) (by cases e:H l with|none=>rfl|some o=>rw[U _ _ e]at hl;cases hl) upd_same ?_;rw[show ssum n z p x y=[(("drop" : Str),p,n)]by unfold ssum;rw[ai c]];exact⟨_,_,rfl,oV (s2 _ _ r1) (s2 _ _ (U _ _ hpa)),rfl⟩
  refine⟨_,rfl,_,rfl,x,.str z,rx,rfl,dx,_,rfl,bX (λc2=>?_) (λc2=>?_)⟩
  ·refine⟨_,rfl,_,rfl,show 3<=sizeLine by decide,λW hT1=>?_⟩;have U:aD H (upd H W (.tup [.str "turn",.ref pa,.str n])):=aD.upd hT1;have r1:upd H W (.tup [.str "turn",.ref pa,.str n]) W=some (.tup [.str "turn",.ref pa,.str n]):=upd_same;generalize upd H W (.tup [.str "turn",.ref pa,.str n])=H1 at U r1⊢;refine⟨_,rfl,_,rfl,show 3<=sizeLine by decide,λT2 hT2=>⟨show 2<=sizeLine by decide,λl hl=>?_⟩⟩;have s2:aD H1 (upd H1 T2 (.tup [.str "drop",.ref pa,.str n])):=aD.upd hT2;have r2:upd H1 T2 (.tup [.str "drop",.ref pa,.str n]) T2=some (.tup [.str "drop",.ref pa,.str n]):=upd_same;generalize upd H1 T2 (.tup [.str "drop",.ref pa,.str n])=H2 at s2 r2 hl⊢;have L:aD H2 (upd H2 l (.lst [.ref W,.ref T2])):=aD.upd hl;have S:=U.trans s2;refine q l _ _ (S.trans L) (by cases e:H l with|none=>rfl|some o=>rw[S _ _ e]at hl;cases hl) upd_same ?_;rw[show ssum n z p x y=[(("turn" : Str),p,n),(("drop" : Str),p,n)]by unfold ssum;rw[c,ab (by decide),ai c2]];have hp3:=L _ _ (S _ _ hpa);exact⟨_,_,rfl,oV (L _ _ (s2 _ _ r1)) hp3,_,_,rfl,oV (L _ _ r2) hp3,rfl⟩
  have eS:ssum n z p x y=rgt n p ((opP n x).length - 1)++sdn n p (opP n x) (opP n x).length (opP n y):=by unfold ssum;rw[c,ab (by decide),c2,ab (by decide)]
  rw[eS]at q;clear eS c c2;have ffr:Fls (opP n x):=JN fx;have fys:Fls (opP n y):=JN fy;have nfr:∀e∈opP n x,nds e<=1000:=λe X=>ao (sM X) (ao D6 nx);have nys:∀e∈opP n y,nds e<=1000:=λe X=>ao (sM X) (ao D6 ny);refine⟨_,rfl,_,rfl,n,x,v1,rfl,rx,fx,λfa fws H1 U hfa h1 rfr=>?_⟩;refine⟨_,rfl,_,rfl,n,y,v2,rfl,aZ.same U ry,fy,λba u H2 s2 hba h2 Z=>?_⟩;have h1':=s2 _ _ h1;have rfr:=Reps.same (U.trans s2) rfr;have Z:=Reps.same s2 Z;have lf:=Reps.len rfr;have lb:=Reps.len Z;have nfb:fa≠ba:=λe=>by rw[e,hba]at h1;cases h1
  have sA:=U.trans s2;generalize opP n x=fr at *;generalize opP n y=ys at *;refine⟨_,rfl,_,_,rfl,(by dsimp only;rw[lenV_l h1',lf];rfl),_,_,rfl,rfl,((fr.length:Int) - 1),rfl,by omega,by omega,?_⟩;rw[show((fr.length:Int) - 1).toNat=fr.length - 1 by omega];refine mP (TK n p pa H2) ⟨none,rfl,aD.refl _,rfl⟩ ?_ ?_
  ·rintro i I σ H3 hi ⟨o,rfl,L,t⟩;have la:=Reps.len t;rw[ae,rgt,ae,List.length_range]at la;rw[Int.zero_add];refine⟨_,rfl,show 1<=sizeLine by decide,λt1 ht1=>?_⟩;have s6:aD H3 (upd H3 t1 (.tup [.int 1])):=aD.upd ht1;have r6:upd H3 t1 (.tup [.int 1]) t1=some (.tup [.int 1]):=upd_same;generalize upd H3 t1 (.tup [.int 1])=H6 at s6 r6⊢;refine⟨_,rfl,.inr ⟨t1,i,[.int 1],rfl,rfl,r6,by simp,by omega,ao (m:=3000) (by simp;omega) (by decide),λt2 H7 s7 r7=>.inr ⟨pa,t2,iV p,_,rfl,rfl,s7 _ _ (s6 _ _ (L _ _ (sA _ _ hpa))),r7,?_,λt3 H8 s8 r8=>?_⟩⟩⟩
   ·rw[iU,mM,mM,mG];exact ao (m:=3000) (by omega) (by decide)
   rw[iU,←yM]at r8;refine⟨_,rfl,show 3<=sizeLine by decide,λT9 hT9=>⟨aj (m:=3000) (by omega) (by decide),?_⟩⟩;have s9:aD H8 (upd H8 T9 (.tup [.str "right",.ref t3,.str n])):=aD.upd hT9;have r9:upd H8 T9 (.tup [.str "right",.ref t3,.str n]) T9=some (.tup [.str "right",.ref t3,.str n]):=upd_same;generalize upd H8 T9 (.tup [.str "right",.ref t3,.str n])=H9 at s9 r9⊢;have s39:=((s6.trans s7).trans s8).trans s9;refine⟨_,rfl,L.trans s39,?_⟩;rw[IM,ax];exact Reps.append (Reps.same s39 t) ⟨_,[],rfl,oV r9 (s9 _ _ r8),rfl⟩
  rintro I σ H3 ⟨o,rfl,L,t⟩ st B;have la:=Reps.len t;rw[ae,rgt,ae,List.length_range]at la;have s4:aD H3 (upd H3 st (.lst I)):=aD.upd B;have r4:upd H3 st (.lst I) st=some (.lst I):=upd_same;generalize upd H3 st (.lst I)=H4 at s4 r4⊢;have G:=L.trans s4;have hfr4:=G _ _ h1';have hstH:H st=none:=by cases e:H st with|none=>rfl|some o=>rw[L _ _ (sA _ _ e)]at B;cases B
  have nfs:fa≠st:=λe=>by rw[←e,L _ _ h1']at B;cases B
  have nbs:ba≠st:=λe=>by rw[←e,L _ _ h2]at B;cases B
  have rfr4:=Reps.same G rfr;refine⟨_,rfl,_,_,rfl,(by dsimp only;rw[lenV_l hfr4,lf];rfl),fr.length,rfl,by omega,?_⟩;refine GU (TJ n z p pa a v1 v2 fa st fr ys (rgt n p (fr.length - 1)++sdn n p fr fr.length ys) H4) ⟨ba,ys,none,rfl,⟨cG.refl _ _,⟨I,u,_,r4,G _ _ h2,Reps.same G Z,Reps.same s4 t,rfl⟩,nbs,λe X=>⟨bM fys e X,nys e X⟩,by omega⟩,rfl⟩ ?_ ?_
  ·rintro i σ H5 hi ⟨ba,bs,o9,rfl,J,lbs⟩;obtain⟨us,u,dn,C,hb5,rbs,rdn,eq⟩:=J.ex;have lu:=Reps.len rdn;rw[ae]at lu;have hfr5:=J.bt _ _ nfs hfr4;have t45:aX H4 H5:=λb xs e=>J.bt b _ (λw=>by rw[w,r4]at e;cases e) e;have rfr5:=Reps.tups t45 ffr rfr4;have hk:fr.length - 1 - i<fr.length:=by omega
   obtain⟨mv,hmv⟩:∃v,fws[fr.length - 1 - i]?=some v:=⟨_,aw (by omega)⟩
   obtain⟨m,hm,rm⟩:=Reps.get rfr5 hmv;have fm:=bM ffr m (bi hm);have nm:=nfr m (bi hm);rw[show fr.length - i=(fr.length - 1 - i)+1 by omega,sdn,hm]at eq;dsimp only at eq;have e1:fr.length - (i+1)=fr.length - 1 - i:=by omega
   generalize fr.length - 1 - i=k at hk hmv hm eq e1⊢;have p5:=t45 _ _ ((sA.trans G) _ _ hpa);refine⟨_,rfl,.inl ⟨rfl,_,dN.of C⟩,_,rfl,_,rfl,show 1<=sizeLine by decide,λt1 ht1=>?_⟩;have s6:aD H5 (upd H5 t1 (.tup [.int 1])):=aD.upd ht1;have r6:upd H5 t1 (.tup [.int 1]) t1=some (.tup [.int 1]):=upd_same;generalize upd H5 t1 (.tup [.int 1])=H6 at s6 r6⊢;refine⟨_,rfl,.inr ⟨t1,k,[.int 1],rfl,rfl,r6,by simp,by omega,ao (m:=3000) (by simp;omega) (by decide),λt2 H7 s7 r7=>.inr ⟨pa,t2,iV p,_,rfl,rfl,s7 _ _ (s6 _ _ p5),r7,?_,λt3 H8 s8 r8=>?_⟩⟩⟩
   ·rw[iU,mM,mM,mG];exact ao (m:=3000) (by omega) (by decide)
   rw[iU,←yM]at r8;have R:=(s6.trans s7).trans s8;clear s6 r6 s7 r7 s8 ht1;have hfr8:=R _ _ hfr5;refine⟨_,rfl,_,rfl,mv,by rw[ixV_l hfr8];exact iJ hmv,_,rfl,n,p++ones k,t3,ba,m,mv,bs,u,rfl,r8,aZ.same R rm,fm,nm,R _ _ hb5,Reps.same R rbs,J.al,by have:=J.ln;omega,by rw[aq,mG];omega,λl zs H9 s9 hl r9 rz=>?_⟩;have s59:=R.trans s9;have lz:=Reps.len rz;have li:=EO n (p++ones k) m bs;rw[ae]at lz;have q5:=J.ln;have st9:=s59 _ _ C;have lus:us.length<=11000:=by
    have h1:dn.length<=(rgt n p (fr.length - 1)++sdn n p fr fr.length ys).length:=by rw[←eq,aq];omega
    have h2:=xJ (n:=n) (p:=p) (fr:=fr) (c:=60) fr.length ys (by omega);have h3:fr.length * (60 * 3)<=60 * (60 * 3):=Nat.mul_le_mul_right _ (by omega);rw[aq,rgt,ae,List.length_range]at h1;omega
   refine⟨st,l,us,zs,rfl,rfl,st9,.inl r9,ao (m:=20000) (by omega) (by decide),?_⟩;have t10:aX H9 (upd H9 st (.lst (us++zs))):=aX.lst st9;have b10:cG st H5 (upd H9 st (.lst (us++zs))):=λb o nb e=>by rw[aE nb];exact s59 _ _ e
   have r10:upd H9 st (.lst (us++zs)) st=some (.lst (us++zs)):=upd_same;generalize upd H9 st (.lst (us++zs))=H10 at t10 b10 r10⊢;have O:aX H5 H10:=λb xs e=>t10 _ _ (s59 _ _ e);have hb10:=b10 _ _ J.nb hb5;have rbs10:=Reps.tups O (eD λe X=>(J.al e X).1) rbs;have rst10:Reps H10 ((dn++inw n (p++ones k) m bs).map stD) (us++zs):=by rw[ax];exact Reps.append (Reps.nl O (i3 _) rdn) (Reps.nl t10 (i3 _) rz)
   have rm10:=aZ.tups O fm rm;refine⟨_,rfl,_,rfl,_,rfl,mv,by rw[ixV_l (b10 _ _ nfs hfr5)];exact iJ hmv,show 1<=sizeLine by decide,λl2 hl2=>?_⟩;have Y:aD H10 (upd H10 l2 (.lst [mv])):=aD.upd hl2;have r11:upd H10 l2 (.lst [mv]) l2=some (.lst [mv]):=upd_same;generalize upd H10 l2 (.lst [mv])=H11 at Y r11⊢;have lbw:=Reps.len rbs;refine .inl (.inr ⟨_,nI (Y _ _ hb10) r11 (ao (m:=3000) (by simp;omega) (by decide)),λb2 hb2=>?_⟩);have S:aD H11 (upd H11 b2 (.lst (u++[mv]))):=aD.upd hb2;have r12:upd H11 b2 (.lst (u++[mv])) b2=some (.lst (u++[mv])):=upd_same;have r:=Y.trans S;refine⟨b2,bs++[m],_,rfl,⟨J.bt.trans (b10.trans r.but),⟨us++zs,u++[mv],_,r _ _ r10,r12,Reps.snoc (aZ.same r rm10) (Reps.same r rbs10),Reps.same r rst10,?_⟩,(λe=>by rw[e,Y _ _ r10]at hb2;cases hb2),λe X=>?_,by rw[aq,cm];omega⟩,by rw[aq,lbs];rfl⟩
   ·rw[e1,cp];exact eq
   ·rcases cx.mp X with w|w
    ·exact J.al e w
    ·cases cs.mp w;exact⟨fm,nm⟩
  ·rintro σ H5 ⟨ba,bs,o9,rfl,J,_⟩;obtain⟨us,u,dn,C,hb5,rbs,rdn,eq⟩:=J.ex;rw[Nat.sub_self,sdn,bn]at eq;refine⟨_,rfl,q st us H5 (λb o e=>J.bt _ _ (aG e hstH) ((sA.trans G) _ _ e)) hstH C ?_⟩;rw[←eq];exact rdn
mutual
theorem JC {sm:bH}:∀{d:D},Pd sm d->∀x∈wlk d,Pd sm x
 | .str y,h,x,a=>by unfold wlk at a;rw[cs.mp a];exact h
 | .tup (.str n::ds),h,x,a=>by
  rw[wlk]at a;obtain rfl|a:=cu.mp a
  ·exact h
  ·unfold Pd at h;exact D0 h.2 x a
 | .non,h,_,_ | .bl _,h,_,_ | .int _,h,_,_ | .lst _,h,_,_ | .tup [],h,_,_ | .tup (.non::_),h,_,_ | .tup (.bl _::_),h,_,_ | .tup (.int _::_),h,_,_ | .tup (.tup _::_),h,_,_ | .tup (.lst _::_),h,_,_=>by unfold Pd at h;exact h.elim
theorem D0 {sm:bH}:∀{ds:List D},Pds sm ds->∀x∈wlks ds,Pd sm x
 | d::ds,⟨a,b⟩,x,c=>by
  rw[wlks]at c;rcases cx.mp c with m|m
  ·exact JC a x m
  ·exact D0 b x m
end
theorem JM {n:Str}{d:D}:(opP n d).length<=sz d:=by
 unfold opP;split
 ·rename_i m es;split
  ·have:=sE es;rw[sz];omega
  ·exact BT _
 ·exact BT _
theorem GC {sm:bH}{n:Str}(h:zr sm n=none)(p:List Nat)(ds:List D):nodeS sm (p,.tup (.str n::ds))=[]:=by
 unfold nodeS;split
 ·rename_i m x y e;cases e;rw[h]
 ·rfl
def K2 (a b:Addr)(H H':Hp):Prop:=∀c o,c≠a->c≠b->H c=some o->H' c=some o
theorem K2.trans {a b:Addr}{H f d:Hp}(h:K2 a b H f)(k:K2 a b f d):K2 a b H d:=λc o n1 n2 e=>k c o n1 n2 (h c o n1 n2 e)
theorem K2.tups {a b:Addr}{H H':Hp}(h:K2 a b H H'){xs d:List V}(g:H a=some (.lst xs))(f:H b=some (.lst d)):aX H H':=λc i e=>h c _ (λz=>by rw[z,g]at e;cases e) (λz=>by rw[z,f]at e;cases e) e
theorem K2.lt {a b Pp:Addr}{H H':Hp}(h:K2 a b H H'){xs i:List V}(p:H a=some (.lst xs))(m:H b=some (.lst i))(l:qB Pp H):qB Pp H':=by
 have k:∀c o,(∀g,o≠.lst g)->H c=some o->H' c=some o:=λc o n e=>h c o (λz=>by rw[z,p]at e;cases e;exact n _ rfl) (λz=>by rw[z,m]at e;cases e;exact n _ rfl) e;rcases l with l|⟨t,f,d,j,s,r,q⟩
 ·exact .inl (k _ _ (λ_ z=>nomatch z) l)
 ·exact .inr ⟨t,f,d,j,k _ _ (λ_ z=>nomatch z) s,k _ _ (λ_ z=>nomatch z) r,q⟩
def spLed (K:PySem.W.Frag)(C Pp:Addr):Sp:=λvs H Q _=>∃(g:Addr) (fx:cH) (sm:bH) (os:aS) (d:D) (v:V),vs=[.ref g,v]/\iK K C fx sm H g/\aZ H d v/\RB fx sm os d/\lvs d+depD d<=51/\nds d+lvs d<=600/\qB Pp H /\
 ∀(T l:Addr) (us:List V) (u:V) (H':Hp),cG Pp H H'->qB Pp H'->H l=none->H' T=some (.tup [.ref l,u])->H' l=some (.lst us)->us.length<=7200000->Reps H' ((ledS sm (prD sm d)).map stD) us->aZ H' (flt sm d) u->Q (.ref T) H'
structure T0 (sm:bH)(st md l Pp:Addr)(W:List (List Nat×D))(ws:List V)(H Hs:Hp)(i:Nat)(H3:Hp):Prop where
 k2:K2 st md Hs H3
 bp:cG Pp H H3
 hl:H3 l=some (.lst ws)
 ex:∃us mus,H3 st=some (.lst us)/\H3 md=some (.lst mus)/\us.length<=i * 12000/\Reps H3 (((W.drop (W.length - i)).reverse.flatMap (nodeS sm)).map stD) us/\Reps H3 (flts sm (stk ((W.drop (W.length - i)).map (·.2)))).reverse mus
def T4 (g:Addr)(v:V)(sm:bH)(st a l Pp:Addr)(W:List (List Nat×D))(b:List V)(H Hs:Hp)(i:Nat)(σ:St)(h:Hp):Prop:=∃(f e d c:Option V),σ=[some (.ref g),some v,some (.ref st),some (.ref a),f,e,d,c]/\T0 sm st a l Pp W b H Hs i h
def T7 (c p st l:Addr)(o:HO)(us e:List V)(fs:List D)(Hs:Hp)(j:Nat)(d:List V)(σ:St)(b:Hp):Prop:=∃(a:List V) (o0:Option V),σ=[o0,some (.ref c)]/\b c=some (.lst a)/\K2 c c Hs b/\b p=some o/\Reps b (fs.drop j).reverse a/\Reps b (fs.take j) d
theorem P2 {f C Pp:Addr}{fd:FuncData}(F:gG K "led_to_flat" "led_to_flat" fE f fd)(T:Txt mg)(O:BF P w K mg base bN 1 C "nought" (jY K C))(Y:dP P w K mg base bN 9 "paired" (tE K C Pp))(X:dP P w K mg base bN 1 "placed" zB)(t:dP P w K mg base bN 6 "flat_of_parts" (vR K C))(B:dP P w K mg base bN 4 "steps_of_sum" spSum):bY P w K mg base bN 10 f fd nS (spLed K C Pp):=by
 refine F.ok dU (λvs H Q E h=>?_) (λcdv A outer s H vs Q E hr h=>?_)
 ·obtain⟨g,fx,sm,os,d,v,rfl,_⟩:=h;rfl
 ·obtain⟨g,fx,sm,os,d,v,rfl,sg,rep,tr,b51,n600,lt,q⟩:=h;have hu:=hr.units
  refine⟨_,(aC (aU (i:=2) dU.nd rfl (Or.inl rfl) (bQ aB))
   (aC (aU (i:=3) dU.nd rfl (Or.inr rfl) (bQ aB))
   (aC (fB di rfl (kO K rfl rfl T.n_reversed (aA (aM X (hr.mono (by decide)) pass0 rfl (aA (aM Y (hr.mono (by decide)) pass0 rfl (aA (pv 0) (aA (pv 1) aB))) aB)) aB)) (dI K rfl (i:=4) (j:=5) rfl dU.nd rfl rfl rfl rfl) (aH (bL (aV K rfl (aL aK rfl T.n_isinstance rfl (aA (pv 5) (aA (bR (v:=V.ty "str") rfl T.n_str rfl rfl) aB))) (λ_=>rfl)) (aH (bZ (fI df dh dg eI (pv 3) (aA (pv 5) aB)))) (aC (aU (i:=6) dU.nd rfl (Or.inl rfl) (bC bW (pv 5) aF (λ_ _=>rfl)))
   (aC (gM (i:=7) dU.nd rfl rfl rfl rfl (bJ.by (N:=jV) (names:=(aJ fE).names) (N':=["part","made"]) (src:=[none,some 3]) (by decide +kernel) rfl rfl) (cQ K rfl (dX iT (pv 5) (cM aF) c5)) (λ_ _ _ _=>(bA (i:=0) (show List.Nodup (["part","made"]:aS)by decide +kernel) rfl (Or.inl rfl))) (λ_ _ _ _=>cV) (λ_ _ _ _=>(DZ K rfl df PySem.F.slot_list_pop PySem.F.type_list_pop oF (pv 1))))
   (aC (bZ (fI df dh dg eI (pv 3) (aA (aM t (hr.mono (by decide)) pass0 rfl (aA (pv 0) (aA (pv 6) (aA (pv 7) aB)))) aB)))
   (aH (bL (aQ sJ (oB O (hr.mono (by decide)) pass0 (pv 0) (aA (pv 6) aB)) iZ (nomark _)) (aH (bZ (fI df PySem.F.slot_list_extend PySem.F.type_list_extend iH (pv 2) (aA (aM B (hr.mono (by decide)) pass0 rfl (aA (pv 6) (aA (oB O (hr.mono (by decide)) pass0 (pv 0) (aA (pv 6) aB)) (aA (pv 4) (aA (pv 7) aB))))) aB)))) aR))))))))
   (aH (aN (bE (aA (pv 2) (aA (bC bW (pv 3) aF (λ_ _=>rfl)) aB)))))))),?_⟩
  try dsimp only[cxOf,Cx.nox]
  clear hr F T hu O Y X t B;simp only[eM,dF];have pq:=O7 tr.so tr.ho tr.tm;have pd:=RM tr.so tr.tm;obtain⟨tm0,esz⟩:=nN tr.so tr.ho pq.tm;have hz:=eW tr.so;have fl0:Fl (prD sm d):=xR (nN tr.so tr.ho tr.tm).1;have q1:=pq.lv;have q2:=pq.nd;have q3:=pq.dp;have q4:=pq.fl;have lv50:=tr.lv;refine⟨show 0<=sizeLine by decide,λst hst=>?_⟩;have hst0:=hst;have s1:aD H (upd H st (.lst [])):=aD.upd hst;have r1:upd H st (.lst []) st=some (.lst []):=upd_same;change tSeq _ _ _ _ (upd H st (.lst []));generalize upd H st (.lst [])=H1 at s1 r1⊢;refine⟨show 0<=sizeLine by decide,λG hmd=>?_⟩;have s2:aD H1 (upd H1 G (.lst [])):=aD.upd hmd;have r2:upd H1 G (.lst []) G=some (.lst []):=upd_same;change tSeq _ _ _ _ (upd H1 G (.lst []));generalize upd H1 G (.lst [])=H2 at s2 r2⊢;have s12:=s1.trans s2;have mdH:H G=none:=by cases e:H G with|none=>rfl|some o=>rw[s1 _ _ e]at hmd;cases hmd
  have nsm:st≠G:=λz=>by rw[←z,r1]at hmd;cases hmd
  have lt2:=lt.same s12;refine⟨_,rfl,_,rfl,g,fx,sm,os,d,v,rfl,sg.same s12,aZ.same s12 rep,tr,lt2,λpv H3 b3 lt3 rp=>?_⟩;have r3:=b3 _ _ (lt2.ne (s2 _ _ r1) λ_=>by simp) (s2 _ _ r1);have r3':=b3 _ _ (lt2.ne r2 λ_=>by simp) r2;have bH3:cG Pp H H3:=s12.but.trans b3;generalize prD sm d=e0 at *;refine⟨e0,pv,rfl,rp,fl0,by omega,by omega,λl ws H4 s4 hl r4 rws=>⟨l,ws,rfl,r4,?_⟩⟩;have bH4:cG Pp H H4:=bH3.trans s4.but;have lt4:=lt3.same s4;have st4:=s4 _ _ r3;have md4:=s4 _ _ r3';have hW:(plw [] e0).map (·.2)=wlk e0:=DW fl0 [];have wdep:∀r∈plw [] e0,r.1.length+depD r.2<=depD e0:=λr hr=>by have:=DX e0 [] r hr;rw[List.length_nil]at this;omega
  have hL:ledS sm e0=(plw [] e0).reverse.flatMap (nodeS sm):=rfl;rw[hL]at q;clear hL;generalize plw [] e0=W at hW wdep rws q;have lw:=Reps.len rws;rw[ae]at lw;have lk:=oR e0;rw[←hW,ae]at lk;have nlst:l≠st:=λz=>by rw[z,r3]at hl;cases hl
  have nlmd:l≠G:=λz=>by rw[z,r3']at hl;cases hl
  refine AO ws (T4 g v sm st G l Pp W ws H H4) ⟨_,_,_,_,rfl,⟨λ_ _ _ _ e=>e,bH4,r4,⟨[],[],st4,md4,au _,by rw[Nat.sub_zero,List.drop_length];rfl,by rw[Nat.sub_zero,List.drop_length];rfl⟩⟩⟩ (λi σ H' _ ⟨_,_,_,_,_,Q3⟩=>Q3.hl) ?_ ?_
  ·rintro i x σ H5 hi hx ⟨o4,o5,o6,o7,rfl,Q5⟩;obtain⟨us,mus,hst5,U,lus,rus,L⟩:=Q5.ex;have t45:=Q5.k2.tups st4 md4;obtain⟨rd,hrd,rx⟩:=Reps.get rws hx;rw[bI]at hrd;obtain⟨r,hr,rfl⟩:=Option.map_eq_some_iff.mp hrd;rw[lw]at hi hr;have hrW:=bi hr;have hin:r.2∈wlk e0:=by rw[←hW];exact cy.mpr ⟨r,hrW,rfl⟩
   have sub:=oU tm0 r.2 hin;have pdr:=JC pd r.2 hin;have dpr:=wdep r hrW;have hdrop:W.drop (W.length - (i+1))=r::W.drop (W.length - i):=by have e1:W[W.length - 1 - i]'(by omega)=r:=(cr.mp hr).2;rw[show W.length - (i+1)=W.length - 1 - i by omega,List.drop_eq_getElem_cons (by omega),e1,show W.length - 1 - i+1=W.length - i by omega]
   have hsplit:wlk e0=(W.take (W.length - (i+1))).map (·.2)++r.2::(W.drop (W.length - i)).map (·.2):=by rw[←hW,←bd,←hdrop,←ax,List.take_append_drop]
   obtain⟨rest,Z⟩:=qD (qG tm0) hsplit;have inS:∀y∈(W.drop (W.length - i)).map (·.2),y∈wlk e0:=λy hy=>by obtain⟨z,hz1,rfl⟩:=cy.mp hy;rw[←hW];exact cy.mpr ⟨z,List.mem_of_mem_drop hz1,rfl⟩
   have lS:((W.drop (W.length - i)).map (·.2)).length<=1000:=by rw[ae,bx];omega
   have hS:((W.drop (W.length - (i+1))).map (·.2))=r.2::(W.drop (W.length - i)).map (·.2):=by rw[hdrop,bd]
   have hN:(W.drop (W.length - (i+1))).reverse.flatMap (nodeS sm)=(W.drop (W.length - i)).reverse.flatMap (nodeS sm)++nodeS sm r:=by rw[hdrop,List.reverse_cons,List.flatMap_append];simp
   generalize (W.drop (W.length - i)).reverse.flatMap (nodeS sm)=don at rus hN;generalize (W.drop (W.length - i)).map (·.2)=S at Z inS lS hS L;clear hdrop hsplit hrd;have flS:Fls (flts sm (stk S)):=eD λy hy=>by rw[cT]at hy;obtain⟨z,hz1,rfl⟩:=cy.mp hy;exact(qW hz (oU tm0 z (inS z (xG hz1))).tm).1
   have lu:=Reps.len L;rw[List.length_reverse,cT,ae]at lu;have ls:(stk S).length<=1000:=ao (xH S) lS;obtain⟨T1,pa,u,rfl,hT1,hpa,ru⟩:=II rx;have fr:=CP fl0 r.2 hin;refine⟨T1,_,rfl,gF.of (t45 _ _ hT1),rfl,_,_,rfl,_,_,rfl,rfl,?_⟩;have ru5:=aZ.tups t45 fr ru;have pa5:=t45 _ _ hpa;obtain⟨p,e⟩:=r;dsimp only at sub pdr dpr fr ru5 pa5 hS Z;rcases kX fr with⟨y,rfl,_⟩|⟨n,ds,rfl,fds⟩
   ·cases (show u = .str y from ru5);refine⟨_,rfl,.str y,.ty "str",true,rfl,rfl,true,rfl,?_⟩;refine⟨_,rfl,.inl ⟨rfl,_,dN.of U⟩,_,rfl,G,mus,.str y,rfl,rfl,U,aj (m:=1000) (by omega) (by decide),?_⟩;have tt:aX H5 (upd H5 G (.lst (mus++[.str y]))):=aX.lst U;refine⟨_,_,_,_,rfl,⟨λb o n1 n2 I=>by rw[aE n2];exact Q5.k2 b o n1 n2 I,λb o nb I=>by rw[aE (aG I mdH)];exact Q5.bp b o nb I,by rw[aE nlmd];exact Q5.hl,us,_,by rw[aE nsm];exact hst5,upd_same,by omega,?_,?_⟩⟩
    ·rw[hN,show nodeS sm (p,.str y)=[]from rfl,bn];exact Reps.nl tt (i3 _) rus
    ·rw[hS,stk,show(pts (.str y)).length=0 from rfl,List.drop_zero,flts,List.reverse_cons];exact Reps.snoc (by unfold flt;rfl) (Reps.tups tt (kW flS) L)
   ·obtain⟨va,vs,rfl,hva,_,vs',rfl,e1,rds⟩:=ru5;cases e1;have lv:=Reps.len rds;have hfe:flt sm (.tup (.str n::ds))=knot sm n (flts sm ds):=by rw[flt]
    have hsz:sz (.tup (.str n::ds))=max 1 (szs ds):=by rw[sz]
    have hnd:nds (.tup (.str n::ds))=1+ndss ds:=by rw[nds]
    have hdp:depD (.tup (.str n::ds))=depDs ds+1:=by rw[depD,depDs,show depD (.str n)=0 from rfl];omega
    have c1:=sub.sz;have c2:=sub.nd;have c3:=sub.dp;have tms:Tms ds:=by have:=sub.tm;unfold Tm at this;exact this.2
    have b1:=sS sm ds;have b2:=pN sm ds;have b3:=pO sm ds;have fld:Fls (flts sm ds):=yN hz tms;rw[show pts (.tup (.str n::ds))=ds from rfl]at Z;have hst:stk S=ds++stk rest:=by rw[Z,lR (lP tms)]
    have hfs:flts sm (stk S)=flts sm ds++flts sm (stk rest):=by rw[hst,cT,ax,←cT,←cT]
    have lds:(flts sm ds).length=ds.length:=by rw[cT,ae]
    have lfs:(flts sm (stk S)).length<=1000:=by rw[cT,ae];exact ls
    refine⟨_,rfl,.ref va,.ty "str",false,rfl,gC hva,false,rfl,?_⟩;refine⟨_,rfl,.str n,by rw[ixV_t hva,atI_zero],?_⟩;refine⟨_,rfl,(1:Int),rfl,va,_,rfl,.inr hva,λ_ z=>by have:=z.1;simp[HT.sIx]at this,λp5 o hp5 ho=>?_⟩;obtain⟨rfl,_⟩:=ho.resolve_left λz=>by rw[hva]at z;exact nomatch z.2
    rw[gT];refine⟨p5,vs',rfl,.inr upd_same,λJ hJ=>?_⟩;have s6:aD H5 (upd H5 p5 (.tup vs')):=aD.upd hp5;have r6:upd H5 p5 (.tup vs') p5=some (.tup vs'):=upd_same;generalize upd H5 p5 (.tup vs')=H6 at s6 r6 hJ⊢;have md6:=s6 _ _ U;have nmp:G≠p5:=λz=>by rw[←z,md6]at r6;cases r6
    refine cU hJ (T7 G p5 st l (.tup vs') us ws (flts sm (stk S)) H6) ⟨mus,none,rfl,md6,λ_ _ _ _ e=>e,r6,by rw[List.drop_zero];exact Reps.same s6 L,rfl⟩ (λj acc σ H' _ ⟨_,_,_,_,_,h,_⟩=>by rw[h,r6]) ?_ ?_
    ·rintro j y acc σ H7 hy ⟨mu,o0,rfl,h7,k7,hp7,r7,R⟩;have hj:j<ds.length:=by have:=(cr.mp hy).1;omega
     have hj2:j<(flts sm (stk S)).length:=by rw[hfs,aq];omega
     rw[List.drop_eq_getElem_cons hj2,List.reverse_cons]at r7;obtain⟨mu6,um,rfl,r6',ru6⟩:=dZ r7;have la':=Reps.len R;rw[bv]at la';have fu:Fl (flts sm (stk S))[j]:=bM flS _ (List.getElem_mem hj2);refine⟨_,rfl,tyL h7,G,_,um,rfl,rfl,h7,by simp,aj (m:=1000) (by omega) (by decide),?_⟩;rw[List.dropLast_concat];have tt:aX H7 (upd H7 G (.lst mu6)):=aX.lst h7;refine⟨mu6,_,rfl,upd_same,λb o n1 n2 I=>by rw[aE n1];exact k7 b o n1 n2 I,by rw[aE nmp.symm];exact hp7,Reps.tups tt (kW (pQ flS (j+1))) r6',?_⟩;rw[bD (aw hj2)];exact Reps.snoc (aZ.tups tt fu ru6) (Reps.tups tt (AS flS j) R)
    rintro acc σ H7 ⟨mu,o0,rfl,h7,k7,hp7,r7,R⟩ p6 hp6;have e1:(flts sm (stk S)).take vs'.length=flts sm ds:=by rw[hfs,lv,←lds,List.take_left]
    rw[e1]at R;rw[lv]at r7;have s8:aD H7 (upd H7 p6 (.lst acc)):=aD.upd hp6;have r8:upd H7 p6 (.lst acc) p6=some (.lst acc):=upd_same;generalize upd H7 p6 (.lst acc)=H8 at s8 r8⊢;have k58:K2 st G H5 H8:=λb o n1 n2 I=>s8 _ _ (k7 _ _ n2 n2 (s6 _ _ I));have t68:aX H6 H8:=λb xs I=>s8 _ _ (k7 b _ (λz=>by rw[z,md6]at I;cases I) (λz=>by rw[z,md6]at I;cases I) I);have st8:H8 st=some (.lst us):=s8 _ _ (k7 _ _ nsm nsm (s6 _ _ hst5));have l8:H8 l=some (.lst ws):=s8 _ _ (k7 _ _ nlmd nlmd (s6 _ _ Q5.hl));have md8:=s8 _ _ h7;have b8:cG Pp H H8:=λb o nb I=>s8 _ _ (k7 _ _ (aG I mdH) (aG I mdH) (s6 _ _ (Q5.bp b o nb I)));have sg8:=lt.sg b8 sg;have racc8:=Reps.same s8 R;have r78:=Reps.same s8 r7;have pa8:=t68 _ _ (s6 _ _ pa5);have rus8:Reps H8 (don.map stD) us:=Reps.nl t68 (i3 _) (Reps.same s6 rus);have np6:p6≠G:=λz=>by rw[z,h7]at hp6;cases hp6
    clear k7 s8 r7 R s6 r6 hp5 hp7 h7 md6 t68 hJ;obtain⟨dx,fs,_,_,g1,_,g3,_⟩:=sg8.ex;have l5:=Reps.len r78;rw[List.length_reverse,bx]at l5;refine⟨_,rfl,.inl ⟨rfl,_,dN.of md8⟩,_,rfl,_,rfl,_,rfl,g,fx,sm,n,p6,flts sm ds,acc,rfl,sg8,r8,racc8,fld,by omega,by omega,by omega,λv' H9 s9 r9=>?_⟩;have md9:=s9 _ _ md8;refine⟨G,mu,v',rfl,rfl,md9,aj (m:=1000) (by omega) (by decide),?_⟩;have t10:aX H9 (upd H9 G (.lst (mu++[v']))):=aX.lst md9;have k810:K2 st G H8 (upd H9 G (.lst (mu++[v']))):=λb o n1 n2 I=>by rw[aE n2];exact s9 _ _ I
    have st10:upd H9 G (.lst (mu++[v'])) st=some (.lst us):=by rw[aE nsm];exact s9 _ _ st8
    have l10:upd H9 G (.lst (mu++[v'])) l=some (.lst ws):=by rw[aE nlmd];exact s9 _ _ l8
    have p10:upd H9 G (.lst (mu++[v'])) p6=some (.lst acc):=by rw[aE np6];exact s9 _ _ r8
    have md10:upd H9 G (.lst (mu++[v'])) G=some (.lst (mu++[v'])):=upd_same;have b10:cG Pp H (upd H9 G (.lst (mu++[v']))):=λb o nb I=>by rw[aE (aG I mdH)];exact s9 _ _ (b8 b o nb I)
    have fe:=(qW hz sub.tm).1;rw[hfe]at fe;have rmu10:Reps (upd H9 G (.lst (mu++[v']))) (flts sm (stk ((W.drop (W.length - (i+1))).map (·.2)))).reverse (mu++[v']):=by rw[hS,stk,flts,List.reverse_cons,show pts (.tup (.str n::ds))=ds from rfl,wH,hfe];exact Reps.snoc (aZ.tups t10 fe r9) (Reps.tups t10 (kW (pQ flS ds.length)) (Reps.same s9 r78))
    have rus10:=Reps.nl t10 (i3 _) (Reps.same s9 rus8);have racc10:=Reps.tups t10 fld (Reps.same s9 racc8);have pa10:=t10 _ _ (s9 _ _ pa8);have k10:=Q5.k2.trans (k58.trans k810);generalize upd H9 G (.lst (mu++[v']))=H10 at st10 l10 p10 md10 b10 rmu10 rus10 racc10 pa10 k10⊢;clear t10 k810 md9 s9 r9 st8 l8 md8 b8 sg8 r8 racc8 r78 pa8 rus8 k58 hp6 np6;have sg10:=lt.sg b10 sg;obtain⟨dx,fs,_,_,g1,_,g3,_⟩:=sg10.ex;refine⟨_,rfl,g,dx,fs,rfl,g1,g3,_,rfl,g,n,fx,sm,rfl,sg10,rfl,_,rfl,bX (λc=>?_) (λc=>?_)⟩
    ·obtain⟨z,hzn⟩:∃z,zr sm n=some z:=by
      cases ez:zr sm n with
      | some z=>exact⟨z,rfl⟩
      | none =>
       have:nulV sm n = .non:=by unfold nulV;rw[ez];rfl
       rw[this]at c;cases c
     have hnul:nulV sm n = .str z:=by unfold nulV;rw[hzn];rfl
     have two:ds.length=2:=by unfold Pd at pdr;exact pdr.1 (by rw[hzn];simp)
     obtain⟨a,b,rfl⟩:∃a b,ds=[a,b]:=by
      match ds,two with
      | [a,b],_=>exact⟨a,b,rfl⟩
     have hno:nodeS sm (p,.tup (.str n::[a,b]))=ssum n z p (flt sm a) (flt sm b):=by unfold nodeS;dsimp only;rw[hzn]
     simp only[flts,szs,ndss,depDs]at b1 b2 b3 hsz hnd hdp;have o1:=JM (n:=n) (d:=flt sm a);have o2:=JM (n:=n) (d:=flt sm b);have l60:(opP n (flt sm a)).length+(opP n (flt sm b)).length<=60:=by omega
     have len:=HZ (n:=n) (z:=z) (p:=p) l60;refine⟨_,rfl,.inl ⟨rfl,_,dN.of st10⟩,_,rfl,_,rfl,g,dx,fs,rfl,g1,g3,_,rfl,g,n,fx,sm,rfl,sg10,?_⟩;rw[hnul];refine⟨_,rfl,_,rfl,n,z,p,pa,p6,flt sm a,flt sm b,acc,rfl,pa10,p10,racc10,fld.1,fld.2.1,by omega,by omega,by omega,by omega,l60,by omega,λlz zs H11 s11 hlz r11 rz=>?_⟩;have lz2:=Reps.len rz;rw[ae]at lz2;have st11:=s11 _ _ st10;refine⟨st,lz,us,zs,rfl,rfl,st11,.inl r11,ao (m:=16000000) (by omega) (by decide),?_⟩;have t12:aX H11 (upd H11 st (.lst (us++zs))):=aX.lst st11;refine⟨_,_,_,_,rfl,⟨λb o n1 n2 I=>by rw[aE n1];exact s11 _ _ (k10 b o n1 n2 I),λb o nb I=>by rw[aE (aG I hst0)];exact s11 _ _ (b10 b o nb I),by rw[aE nlst];exact s11 _ _ l10,_,_,upd_same,by rw[aE nsm.symm];exact s11 _ _ md10,?_,?_,?_⟩⟩
     ·rw[aq];omega
     ·rw[hN,ax,hno];exact Reps.append (Reps.nl t12 (i3 _) (Reps.same s11 rus10)) (Reps.nl t12 (i3 _) rz)
     ·refine Reps.tups t12 (kW (eD λy hy=>?_)) (Reps.same s11 rmu10);rw[hS,stk,flts]at hy;obtain rfl|hy:=cu.mp hy
      ·rw[hfe];exact fe
      ·rw[wH]at hy;exact bM flS y (List.mem_of_mem_drop hy)
    ·have hzn:zr sm n=none:=by
      cases ez:zr sm n with
      | none=>rfl
      | some z =>
       have:nulV sm n = .str z:=by unfold nulV;rw[ez];rfl
       rw[this]at c;cases c
     refine⟨_,_,_,_,rfl,⟨k10,b10,l10,us,_,st10,md10,by omega,?_,rmu10⟩⟩;rw[hN,GC hzn,bn];exact rus10
  ·rintro σ H5 ⟨o4,o5,o6,o7,rfl,Q5⟩;obtain⟨us,mus,hst5,U,lus,rus,L⟩:=Q5.ex;rw[lw,Nat.sub_self,List.drop_zero]at rus L;rw[hW]at L;have e1:=xF (qG tm0) [];rw[bn]at e1;rw[e1]at L;obtain⟨u,r,rfl,ru,e2⟩:=L;cases (show r=[]from e2);refine⟨_,rfl,_,rfl,u,by rw[ixV_l U,atI_zero],show 2<=sizeLine by decide,λT hT=>?_⟩;have s6:aD H5 (upd H5 T (.tup [.ref st,u])):=aD.upd hT;refine q T st us u _ (λb o nb I=>s6 _ _ (Q5.bp b o nb I)) ((Q5.k2.lt st4 md4 lt4).same s6) hst0 upd_same (s6 _ _ hst5) (by omega) (Reps.same s6 rus) ?_;rw[←q4];exact aZ.same s6 ru
noncomputable def bkS (s:S3):S3:=(backK s.1,s.2.1,s.2.2)
theorem kd0:("turn" : Str)∈kinds:=by decide
theorem kd1:("left" : Str)∈kinds:=by decide
theorem kd2:("right" : Str)∈kinds:=by decide
theorem kd3:("drop" : Str)∈kinds:=by decide
theorem KC {n:Str}{p:List Nat}{m:D}{bs:List D}:∀s∈inw n p m bs,s.1∈kinds:=λs b=>by
 obtain⟨i,_,a⟩:=List.mem_flatMap.mp b;unfold inw1 at a;split at a
 ·cases cs.mp a;exact kd0
 ·simp only[cu,List.not_mem_nil,or_false]at a;rcases a with rfl|rfl|rfl
  ·exact kd1
  ·exact kd0
  ·exact kd2
theorem zE {n:Str}{p:List Nat}{fr:List D}:∀{k:Nat} {bs:List D},∀s∈sdn n p fr k bs,s.1∈kinds
 | k+1,bs,s,a=>by
  rw[sdn]at a;split at a
  ·rcases cx.mp a with w|w
   ·exact KC s w
   ·exact zE s w
  ·cases a
theorem FL {n z:Str}{p:List Nat}{x y:D}:∀s∈ssum n z p x y,s.1∈kinds:=λs a=>by
 unfold ssum at a;split at a
 ·cases cs.mp a;exact kd3
 ·split at a
  ·simp only[cu,List.not_mem_nil,or_false]at a;rcases a with rfl|rfl
   ·exact kd0
   ·exact kd3
  ·rcases cx.mp a with w|w
   ·obtain⟨i,_,rfl⟩:=cy.mp w;exact kd2
   ·exact zE s w
theorem J1 {sm:bH}{d:D}:∀s∈ledS sm d,s.1∈kinds:=λs b=>by
 obtain⟨r,_,a⟩:=List.mem_flatMap.mp b;unfold nodeS at a;split at a
 ·split at a
  ·exact FL s a
  ·cases a
 ·cases a
theorem EW:∀{p q:List Nat},eqDs (p.map λ(i:Nat)=>D.int (i:Int)) (q.map λ(i:Nat)=>D.int (i:Int))=true->p=q
 | [],[],_=>rfl
 | [],_::_,h=>by cases (show false=true from h)
 | _::_,[],h=>by cases (show false=true from h)
 | i::p,j::q,h=>by have h:((i:Int) == (j:Int) && eqDs (p.map λ(i:Nat)=>D.int (i:Int)) (q.map λ(i:Nat)=>D.int (i:Int)))=true:=h;rw[Bool.and_eq_true]at h;have:=eq_of_beq h.1;rw[EW h.2,show i=j by omega]
theorem RL {s t:S3}(h:eqD (stD s) (stD t)=true):s=t:=by obtain⟨k,p,n⟩:=s;obtain⟨k2,a,n2⟩:=t;have h:((k == k2) && (eqDs (p.map λ(i:Nat)=>D.int (i:Int)) (a.map λ(i:Nat)=>D.int (i:Int)) && ((n == n2) && true)))=true:=h;simp only[Bool.and_eq_true,Bool.and_true]at h;rw[eq_of_beq h.1,EW h.2.1,eq_of_beq h.2.2]
theorem O0 (s:S3):depD (stD s)<=60:=by
 have:∀p:List Nat,depDs (p.map λ(i:Nat)=>D.int (i:Int))=0:=λp=>by
  induction p with
  | nil=>rfl
  | cons i p a=>rw[bd,depDs,a];rfl
 unfold stD iD;rw[depD,depDs,depDs,depDs,depDs,depD,this,show depD (.str s.1)=0 from rfl,show depD (.str s.2.2)=0 from rfl];decide
noncomputable def bkV:List (fR×V):=[(.inr "turn",.str "turn"),(.inr "left",.str "right"),(.inr "right",.str "left"),(.inr "drop",.str "add"),(.inr "add",.str "drop")]
theorem QU {k:Str}(h:k∈kinds):valV bkV (.inr k)=some (.str (backK k)):=by simp only[kinds,cu,List.not_mem_nil,or_false]at h;rcases h with rfl|rfl|rfl|rfl|rfl <;> rfl
def DJ (K:PySem.W.Frag)(C Pp:Addr):Sp:=λvs H Q _=>∃(g:Addr) (fx:cH) (sm:bH) (os:aS) (d e:D) (v u:V),vs=[.ref g,v,u]/\iK K C fx sm H g/\aZ H d v/\aZ H e u/\RB fx sm os d/\RB fx sm os e/\(lvs d+depD d<=51/\nds d+lvs d<=600)/\(lvs e+depD e<=51/\nds e+lvs e<=600)/\qB Pp H /\
 (flt sm d≠flt sm e->∀H',cG Pp H H'->qB Pp H'->Q .non H') /\
 (flt sm d=flt sm e->∀(l:Addr) (us:List V) (A B X:List S3) (H':Hp),cG Pp H H'->qB Pp H'->H l=none->H' l=some (.lst us)->ledS sm (prD sm d)=A++X->ledS sm (prD sm e)=B++X->Reps H' ((A++B.reverse.map bkS).map stD) us->Q (.ref l) H')
structure S5 (Pp l1 l2:Addr)(sa sb:List S3)(H Hs:Hp)(n:Nat)(H3:Hp):Prop where
 k2:K2 l1 l2 Hs H3
 ex:∃us zs A B X,H3 l1=some (.lst us)/\H3 l2=some (.lst zs)/\Reps H3 (A.map stD) us/\Reps H3 (B.map stD) zs/\sa=A++X/\sb=B++X/\A.length=n
def SD (g:Addr)(v u f1 f2:V)(Pp b a:Addr)(sa c:List S3)(H Hs:Hp)(n:Nat)(σ:St)(d:Hp):Prop:=σ=[some (.ref g),some v,some u,some (.ref b),some f1,some (.ref a),some f2]/\S5 Pp b a sa c H Hs n d
def TB (B:List S3)(H:Hp)(i:Nat)(a:List V)(σ:St)(H':Hp):Prop:=∃d c b:Option V,σ=[d,c,b]/\aD H H'/\Reps H' (((B.drop (B.length - i)).reverse.map bkS).map stD) a
theorem M4 {f C Pp dB:Addr}{fd:FuncData}(F:gG K "walk" "walk" tH f fd)(T:Txt mg)(G_BACK:∃u,mg "BACK" = some u/\aY (.ref dB) u)(KD_BACK:R9 P w K dB bkV)(l:dP P w K mg base bN 10 "led_to_flat" (spLed K C Pp)):bY P w K mg base bN 11 f fd LG (DJ K C Pp):=by
 refine F.ok xK (λvs H Q E h=>?_) (λcdv A outer s H vs Q E hr h=>?_)
 ·obtain⟨g,fx,sm,os,d,e,v,u,rfl,_⟩:=h;rfl
 ·obtain⟨g,fx,sm,os,d,e,v,u,rfl,sg,rd,re,td,te,⟨d1,d2⟩,⟨e1,e2⟩,lt,q0,q1⟩:=h;have hu:=hr.units
  refine⟨_,(aC (gB (aM l (hr.mono (by decide)) pass0 rfl (aA (pv 0) (aA (pv 1) aB))) (dI K rfl (i:=3) (j:=4) rfl xK.nd rfl rfl rfl rfl))
   (aC (gB (aM l (hr.mono (by decide)) pass0 rfl (aA (pv 0) (aA (pv 2) aB))) (dI K rfl (i:=5) (j:=6) rfl xK.nd rfl rfl rfl rfl))
   (aC (bL (aQ (oE hu) (pv 4) (pv 6) (nomark _)) (aH (aN iZ)) aR)
   (aC (iX di (PW.pt (jR (aV K rfl (pv 3) (λ_=>rfl)) (jR (aV K rfl (pv 5) (λ_=>rfl)) (jL (aQ (dQ hu) (bC bW (pv 3) (rF lO aF) (λ_ _=>rfl)) (bC bW (pv 5) (rF lO aF) (λ_ _=>rfl)) (nomark _)))))) (aC (bZ (qL df PySem.F.slot_list_pop PySem.F.type_list_pop oF (pv 3)))
   (aH (bZ (qL df PySem.F.slot_list_pop PySem.F.type_list_pop oF (pv 5))))))
   (aH (aN (bG bT (pv 3) (e8 rfl (bJ.by (N:=C8) (names:=(aJ tH).names) (N':=["kind","place","name"]) (src:=[none,none,none]) (by decide +kernel) rfl rfl) (kO K rfl rfl T.n_reversed (aA (pv 5) aB)) (λ_ _ _ _=>(MJ K rfl (n:=3) rfl (eV (bA (i:=0) (show List.Nodup (["kind","place","name"]:aS)by decide +kernel) rfl (Or.inl rfl)) (eV (bA (i:=1) (show List.Nodup (["kind","place","name"]:aS)by decide +kernel) rfl (Or.inl rfl)) (eV (bA (i:=2) (show List.Nodup (["kind","place","name"]:aS)by decide +kernel) rfl (Or.inl rfl)) pH))))) (λ_ _ _ _=>cV) (λ_ _ _ _=>(bE (aA (FZ P w rfl rfl K rfl KD_BACK (fH G_BACK rfl) (pv 0) (λ_ _=>rfl)) (aA (pv 1) (aA (pv 2) aB))))))))))))),?_⟩
  try dsimp only[cxOf,Cx.nox]
  clear hr F T hu l G_BACK KD_BACK;simp only[eM,dF];have fld:=HS td;have fle:=HS te;have dpd:=ER sm d;refine⟨_,rfl,_,rfl,g,fx,sm,os,d,v,rfl,sg,rd,td,d1,d2,lt,λT1 J us f1 H1 b1 W hl1 hT1 r1 len1 ru rf1=>?_⟩;refine⟨T1,_,rfl,gF.of hT1,rfl,_,_,rfl,_,_,rfl,rfl,?_⟩;refine⟨_,rfl,_,rfl,g,fx,sm,os,e,u,rfl,lt.sg b1 sg,lt.rep b1 re,te,e1,e2,W,λT2 I zs f2 H2 b2 U hl2 hT2 r2 len2 rz rf2=>?_⟩;refine⟨T2,_,rfl,gF.of hT2,rfl,_,_,rfl,_,_,rfl,rfl,?_⟩;have b12:=b1.trans b2;have r1':=b2 _ _ (W.ne r1 λ_=>by simp) r1;obtain⟨ps,hps⟩:=W.tbl;have ru2:=Reps.but b2 (λxs z=>by rw[hps]at z;cases z) (λxs z=>by rw[hps]at z;cases z) ru;have n12:J≠I:=λz=>by rw[z,hl2]at r1;cases r1
  refine⟨_,rfl,_,rfl,flt sm d,flt sm e,W.rep b2 rf1,rf2,by omega,_,rfl,bX (λc=>?_) (λc=>?_)⟩
  ·exact q0 (λz=>by rw[z,j8]at c;cases c) H2 b12 U
  have hfe:flt sm d=flt sm e:=EV fld fle (by cases h:eqD (flt sm d) (flt sm e)with|true=>rfl|false=>rw[h]at c;cases c);have q1:=q1 hfe;clear q0 c;have ks1:∀s∈ledS sm (prD sm e),s.1∈kinds:=J1;have hl2H:H I=none:=by cases h:H I with|none=>rfl|some o=>exact absurd hl2 (by rw[b1 _ _ (λz=>by obtain⟨ps,e3⟩:=U.tbl;rw[←z,r2]at e3;cases e3) h];simp)
  generalize ledS sm (prD sm d)=sa at *;generalize ledS sm (prD sm e)=sb at *;have lsa:=Reps.len ru2;have lsb:=Reps.len rz;rw[ae]at lsa lsb;refine n6 (SD g v u f1 f2 Pp J I sa sb H H2) sa.length ⟨rfl,λ_ _ _ _ e=>e,us,zs,sa,sb,[],r1',r2,ru2,rz,by simp,by simp,rfl⟩ ?_;rintro n σ L ⟨rfl,k3,us,zs,A,B,X,h1,h2,ra,rb,ea,eb,rfl⟩ R hT hF;have fin:R false L:=by
   refine hF _ ?_;have lA:=Reps.len ra;have lB:=Reps.len rb;rw[ae]at lA lB;have lA2:A.length<=7200000:=by have:=congrArg List.length ea;rw[aq]at this;omega
   have lB2:B.length<=7200000:=by have:=congrArg List.length eb;rw[aq]at this;omega
   refine⟨_,rfl,_,rfl,I,zs,rfl,h2,CY zs (TB B L) ⟨none,none,none,rfl,aD.refl _,by rw[Nat.sub_zero,List.drop_length];rfl⟩ (λi r σ H' _ ⟨_,_,_,_,s,_⟩=>s _ _ h2) ?_ ?_⟩
   ·rintro i x r σ G hi hx ⟨o0,o1,o2,rfl,s4,q⟩;obtain⟨sd,hsd,rx⟩:=Reps.get rb hx;rw[bI]at hsd;obtain⟨s,hs,rfl⟩:=Option.map_eq_some_iff.mp hsd;rw[lB]at hi hs;have la:=Reps.len q;rw[ae,ae,List.length_reverse,bx]at la;have ks:s.1∈kinds:=ks1 s (by rw[eb];exact cj _ (bi hs));obtain⟨T,pa,rfl,hT,hpa⟩:=OZ (aZ.same s4 rx);refine⟨T,_,rfl,gF.of hT,rfl,_,_,rfl,_,_,rfl,_,_,rfl,rfl,?_⟩;refine⟨_,rfl,.inr s.1,.str (backK s.1),rfl,rfl,QU ks,_,rfl,_,rfl,show 3<=sizeLine by decide,λT5 hT5=>⟨aj (m:=7200000) (by omega) (by decide),?_⟩⟩;have s5:aD G (upd G T5 (.tup [.str (backK s.1),.ref pa,.str s.2.2])):=aD.upd hT5;have r5:upd G T5 (.tup [.str (backK s.1),.ref pa,.str s.2.2]) T5=some (.tup [.str (backK s.1),.ref pa,.str s.2.2]):=upd_same;generalize upd G T5 (.tup [.str (backK s.1),.ref pa,.str s.2.2])=H5 at s5 r5⊢;refine⟨_,_,_,rfl,s4.trans s5,?_⟩;have e1:B[B.length - 1 - i]'(by omega)=s:=(cr.mp hs).2;rw[show B.length - (i+1)=B.length - 1 - i by omega,List.drop_eq_getElem_cons (by omega),e1,show B.length - 1 - i+1=B.length - i by omega,List.reverse_cons,ax,ax];exact Reps.append (Reps.same s5 q) ⟨_,[],rfl,oV r5 (s5 _ _ hpa),rfl⟩
   ·rintro r σ G ⟨o0,o1,o2,rfl,s4,q⟩ p hp;rw[lB,Nat.sub_self,List.drop_zero]at q;have la:=Reps.len q;rw[ae,ae,List.length_reverse]at la;have s5:aD G (upd G p (.lst r)):=aD.upd hp;have r5:upd G p (.lst r) p=some (.lst r):=upd_same;generalize upd G p (.lst r)=H5 at s5 r5⊢;have S:=s4.trans s5;refine .inr ⟨_,nI (S _ _ h1) r5 (ao (m:=15000000) (by omega) (by decide)),λp6 Y=>?_⟩;have s6:aD H5 (upd H5 p6 (.lst (us++r))):=aD.upd Y;have s36:=S.trans s6;have bp:cG Pp H (upd H5 p6 (.lst (us++r))):=λb o nb e=>s36 _ _ (k3 _ _ (aG e hl1) (aG e hl2H) (b12 b o nb e));have p6N:H p6=none:=by
     cases h:H p6 with
     | none=>rfl
     | some o=>exact absurd Y (by rw[S _ _ (k3 _ _ (aG h hl1) (aG h hl2H) (b12 _ _ (λz=>by obtain⟨ps,e3⟩:=(k3.lt r1' r2 U).tbl;rw[←z]at e3;rw[S _ _ e3]at Y;cases Y) h))];simp)
    refine q1 p6 _ A B X _ bp (((k3.lt r1' r2 U).same s36)) p6N upd_same ea eb ?_;rw[ax];exact Reps.append (Reps.same s36 ra) (Reps.same (s5.trans s6) q)
  rcases List.eq_nil_or_concat A with rfl|⟨A',a,rfl⟩
  ·cases (show us=[]from ra);exact⟨_,rfl,false,.inl ⟨[],dN.of h1,rfl⟩,fin⟩
  rcases List.eq_nil_or_concat B with rfl|⟨B',b,rfl⟩
  ·cases (show zs=[]from rb);refine⟨_,rfl,true,.inl ⟨us,dN.of h1,?_⟩,_,rfl,false,.inl ⟨[],dN.of h2,rfl⟩,fin⟩;have:=Reps.len ra;rw[ae,List.concat_eq_append,aq]at this;cases us with
   | nil=>simp at this
   | cons _ _=>simp
  rw[List.concat_eq_append]at ra rb ea eb;rw[ax]at ra rb;obtain⟨t,u1,rfl,ra',ru1⟩:=dZ ra;obtain⟨O,z1,rfl,rb',rz1⟩:=dZ rb;refine⟨_,rfl,true,.inl ⟨_,dN.of h1,by simp⟩,_,rfl,true,.inl ⟨_,dN.of h2,by simp⟩,?_⟩;refine⟨_,rfl,1,rfl,u1,by rw[ixV_l h1];exact A7,_,rfl,1,rfl,z1,by rw[ixV_l h2];exact A7,stD a,stD b,ru1,rz1,O0 a,_,rfl,?_⟩;cases hab:eqD (stD a) (stD b)with
  | false=>exact fin
  | true =>
   cases RL hab;refine hT L ?_;refine⟨_,rfl,tyL h1,J,_,u1,rfl,rfl,h1,by simp,?_⟩;rw[List.dropLast_concat];have t4:aX L (upd L J (.lst t)):=aX.lst h1;have r4:upd L J (.lst t) J=some (.lst t):=upd_same;have Z:upd L J (.lst t) I=some (.lst (O++[z1])):=by rw[aE n12.symm];exact h2
   have k4:K2 J I L (upd L J (.lst t)):=λb o m1 _ e=>by rw[aE m1];exact e
   generalize upd L J (.lst t)=G at t4 r4 Z k4⊢;refine⟨_,rfl,tyL Z,I,_,z1,rfl,rfl,Z,by simp,?_⟩;rw[List.dropLast_concat];have t5:aX G (upd G I (.lst O)):=aX.lst Z;have t35:=t4.trans t5;have k5:K2 J I G (upd G I (.lst O)):=λb o _ m2 e=>by rw[aE m2];exact e
   refine⟨A'.length,by simp,rfl,k3.trans (k4.trans k5),t,O,A',B',a::X,by rw[aE n12];exact r4,upd_same,Reps.nl t35 (i3 _) ra',Reps.nl t35 (i3 _) rb',by rw[ea,cp];rfl,by rw[eb,cp];rfl,rfl⟩
end
mutual
noncomputable def prt (n:Str):D->List D
 | .tup (.str m::ds)=>if m=n then prts n ds else [.tup (.str m::ds)]
 | d=>[d]
noncomputable def prts (n:Str):List D->List D
 | []=>[]
 | d::ds=>prt n d++prts n ds
end
theorem zM (n:Str):∀ds es:List D,prts n (ds++es)=prts n ds++prts n es
 | [],_=>rfl
 | d::ds,es=>by rw[List.cons_append,prts,zM n ds es,prts,cp]
theorem iY {n:Str}{e:D}:∀{ds:List D},e∈prts n ds ↔ ∃d∈ds,e∈prt n d
 | []=>by simp[prts]
 | d::ds=>by
  rw[prts,cx,iY];constructor
  ·rintro(h|⟨x,a,b⟩)
   ·exact⟨d,av,h⟩
   ·exact⟨x,ay _ a,b⟩
  ·rintro⟨x,a,b⟩;obtain rfl|a:=cu.mp a
   ·exact .inl b
   ·exact .inr ⟨x,a,b⟩
theorem lZ {n m:Str}(h:m≠n)(ds:List D):prt n (.tup (.str m::ds))=[.tup (.str m::ds)]:=by rw[prt,ab h]
theorem mB (n:Str)(ds:List D):prt n (.tup (.str n::ds))=prts n ds:=by rw[prt,ai rfl]
theorem jM (n x:Str):prt n (.str x)=[.str x]:=by unfold prt;rfl
section
variable {fx:cH}{sm:bH}{os:aS}{n z:Str}
theorem kY {P:D->Prop}(s:∀x,Fl (.str x)->P (.str x))(t:∀m ds,Fls ds->(∀e∈ds,P e)->P (.tup (.str m::ds))):∀{d:D},Fl d->P d:=by
 have go:∀(k:Nat) (d:D),sizeOf d<=k->Fl d->P d:=by
  intro k
  induction k with
  | zero=>intro d h;cases d <;> simp at h
  | succ k c =>
   intro d h f;rcases kX f with⟨x,rfl,_⟩|⟨m,ds,rfl,b⟩
   ·exact s x f
   ·refine t m ds b λe a=>c e ?_ (bM b e a);have:=List.sizeOf_lt_of_mem a;simp at h;omega
 exact λ{d} f=>go _ d (ac _) f
theorem xN {d:D}(f:Fl d):(∀e∈prt n d,Fl e/\prt n e=[e]/\depD e<=depD d):=by
 refine kY (P:=λd=>∀e∈prt n d,Fl e/\prt n e=[e]/\depD e<=depD d) (λx j e g=>?_) (λm ds q o e g=>?_) f
 ·rw[jM]at g;cases cs.mp g;exact⟨j,jM _ _,ac _⟩
 ·by_cases h:m=n
  ·subst h;rw[mB]at g;obtain⟨x,j,l⟩:=iY.mp g;obtain⟨a,b,c⟩:=o x j e l;obtain⟨i,p⟩:=List.getElem?_of_mem j;have:=i5 p;exact⟨a,b,by rw[depD,depDs];omega⟩
  ·rw[lZ h]at g;cases cs.mp g;exact⟨by unfold Fl;exact q,lZ h ds,ac _⟩
theorem DS {ds:List D}(f:Fls ds):Fls (prts n ds):=eD λe a=>by obtain⟨d,hd,h⟩:=iY.mp a;exact(xN (bM f d hd) e h).1
theorem tQ {d:D}(f:Fl d):lvss (prt n d)=lvs d:=by
 have go:∀{ds:List D},(∀e∈ds,lvss (prt n e)=lvs e)->lvss (prts n ds)=lvss ds:=by
  intro ds h
  induction ds with
  | nil=>rfl
  | cons d ds a=>rw[prts,mJ,lvss,h d av,a λe b=>h e (ay _ b)]
 refine kY (P:=λd=>lvss (prt n d)=lvs d) (λx _=>by rw[jM,lvss,lvss];rfl) (λm ds c a=>?_) f;by_cases h:m=n
 ·subst h;rw[mB,go a,lvs]
 ·rw[lZ h,lvss,lvss];rfl
theorem vZ {ds:List D}(f:Fls ds):lvss (prts n ds)=lvss ds:=by
 induction ds with
 | nil=>rfl
 | cons d ds a=>rw[prts,mJ,lvss,tQ f.1,a f.2]
theorem IT {d:D}(f:Fl d):bB fx sm os d->IsTms fx sm os (prt n d):=by
 refine kY (P:=λd=>bB fx sm os d->IsTms fx sm os (prt n d)) (λx _ h=>by rw[jM];exact⟨h,trivial⟩) (λm ds i c h=>?_) f;by_cases e:m=n
 ·subst e;rw[mB];unfold bB at h;refine mL λx g=>?_;obtain⟨y,b,a⟩:=iY.mp g;exact dE (c y b (dE h.2 y b)) x a
 ·rw[lZ e];exact⟨h,trivial⟩
theorem DR {ds:List D}(f:Fls ds)(h:IsTms fx sm os ds):IsTms fx sm os (prts n ds):=mL λx c=>by obtain⟨y,b,a⟩:=iY.mp c;exact dE (IT (bM f y b) (dE h y b)) x a
theorem D3 (ds es:List D):opn n z (ds++es)=opn n z ds++opn n z es:=by unfold opn;rw[List.flatMap_append]
theorem AR (ds es:List D):flts sm (ds++es)=flts sm ds++flts sm es:=by rw[cT,cT,cT,ax]
theorem MG (so:bF fx sm)(ho:∀x∈os,c4 x)(hz:zr sm n=some z){d:D}(f:Fl d):bB fx sm os d->(opn n z (flts sm (prt n d))).Perm (opn1 n z (flt sm d)):=by
 have go:∀{ds:List D},(∀e∈ds,(opn n z (flts sm (prt n e))).Perm (opn1 n z (flt sm e)))->(opn n z (flts sm (prts n ds))).Perm (opn n z (flts sm ds)):=by
  intro ds h
  induction ds with
  | nil=>exact .refl _
  | cons d ds b=>rw[prts,AR,D3,flts,cE];exact(h d av).append (b λe a=>h e (ay _ a))
 refine kY (P:=λd=>bB fx sm os d->(opn n z (flts sm (prt n d))).Perm (opn1 n z (flt sm d))) (λx _ _=>?_) (λm ds c b h=>?_) f
 ·rw[jM,flts,flts,cE,show opn n z []=[]from rfl,bn]
 ·by_cases e:m=n
  ·subst e;unfold bB at h;rw[mB,flt];exact(go λe a=>b e a (dE h.2 e a)).trans (qN hz (pM (eW so) (n9 so ho h.2).1)).symm
  ·rw[lZ e,flts,flts,cE,show opn n z []=[]from rfl,bn]
theorem IS (so:bF fx sm)(ho:∀x∈os,c4 x)(hz:zr sm n=some z){ds:List D}(f:Fls ds)(h:IsTms fx sm os ds):(opn n z (flts sm (prts n ds))).Perm (opn n z (flts sm ds)):=by
 induction ds with
 | nil=>exact .refl _
 | cons d ds a=>rw[prts,AR,D3,flts,cE];exact(MG so ho hz f.1 h.1).append (a f.2 h.2)
structure Bq (fx:cH)(sm:bH)(os:aS)(n z:Str)(m L:Nat)(X us:List D):Prop where
 tm:IsTms fx sm os us
 fl:Fls us
 lv:lvss us=L
 op:(opn n z (flts sm us)).Perm X
 dp:∀x∈us,depD x+1<=m+lvs x/\∀e∈prt n x,depD e+1<=m+lvs e
theorem vF {us vs:List D}(p:us.Perm vs):(opn n z (flts sm us)).Perm (opn n z (flts sm vs)):=by rw[cT,cT];exact JI (p.map _)
theorem Bq.perm {m L:Nat}{X us vs:List D}(h:Bq fx sm os n z m L X us)(p:vs.Perm us):Bq fx sm os n z m L X vs :=
 ⟨mL λd hd=>dE h.tm d (p.mem_iff.mp hd),eD λd hd=>bM h.fl d (p.mem_iff.mp hd),by rw[GH p];exact h.lv,(vF p).trans h.op,λx a=>h.dp x (p.mem_iff.mp a)⟩
theorem eC (x:Str):lvs (.str x)=1:=by unfold lvs;rfl
theorem Bq.nought {m L:Nat}{X us:List D}(h:Bq fx sm os n z m L X us)(so:bF fx sm)(ho:∀x∈os,c4 x)(b:bB fx sm os (.str z)):Bq fx sm os n z m (L+1) X (.str z::us):=by
 refine⟨⟨b,h.tm⟩,⟨?_,h.fl⟩,by rw[lvss,h.lv,eC];omega,?_,λx a=>?_⟩
 ·have:=(nN so ho b).1;unfold Tm at this;unfold Fl;exact this
 ·rw[flts,cE,show opn1 n z (flt sm (.str z))=[]by unfold flt opn1;simp[eqD]];exact h.op
 ·obtain rfl|a:=cu.mp a
  ·refine⟨by rw[eC];show 0+1<=_;omega,λe c=>?_⟩;rw[jM]at c;cases cs.mp c;rw[eC];show 0+1<=_;omega
  ·exact h.dp x a
theorem Bq.brk {m L:Nat}{X l r:List D}{a b:D}(h:Bq fx sm os n z m L X (l++a::b::r))(so:bF fx sm)(ho:∀x∈os,c4 x)(hz:zr sm n=some z)(p:n∈sm.map (·.1)):Bq fx sm os n z m L X (l ++ .tup [.str n,a,b]::r):=by
 have o:(l++a::b::r).Perm (a::b::(l++r)):=(List.perm_middle).trans ((List.perm_middle).cons a);have h:=h.perm o.symm;have d:=h.tm.1;have c:=h.tm.2.1;have s:=h.fl.1;have q:=h.fl.2.1;have u:=lQ d;have t:=lQ c;refine Bq.perm (us:=.tup [.str n,a,b]::(l++r)) ?_ List.perm_middle;refine⟨⟨BR.mpr ⟨.inr ⟨ac _,p⟩,d,c⟩,h.tm.2.2⟩,⟨by unfold Fl;exact⟨s,q,trivial⟩,h.fl.2.2⟩,?_,?_,λx f=>?_⟩
 ·have:=h.lv;rw[lvss,lvss]at this;rw[lvss,(eL (sm:=sm) n a b).1];omega
 ·refine List.Perm.trans ?_ h.op;rw[flts,cE,(eL (sm:=sm) n a b).2.2.2,flts,flts,cE,cE,←cp];refine List.Perm.append_right _ ((qN (gs:=[flt sm a,flt sm b]) hz ⟨CO (eW so) (nN so ho d).1,CO (eW so) (nN so ho c).1,trivial⟩).trans ?_);rw[cE,cE,show opn n z []=[]from rfl,bn]
 ·have j:=h.dp a av;have i:=h.dp b (ay _ av);obtain rfl|f:=cu.mp f
  ·refine⟨by rw[(eL (sm:=sm) n a b).1,(eL (sm:=sm) n a b).2.2.1];have:=j.1;have:=i.1;omega,λe g=>?_⟩;rw[mB,prts,prts,prts,bn]at g;rcases cx.mp g with w|w
   ·exact j.2 e w
   ·exact i.2 e w
  ·exact h.dp x (ay _ (ay _ f))
structure HC (fx:cH)(sm:bH)(os:aS)(d e:D):Prop where
 tm:bB fx sm os e
 fl:Fl e
 ft:flt sm e=flt sm d
 dp:depD e+1<=depD d+lvs e
 pp:∀n∈sm.map (·.1),∀x∈prt n e,depD x+1<=depD d+lvs x
theorem sO:∀{ds:List D} {d:D},d∈ds->lvs d<=lvss ds:=λh=>by obtain⟨i,a⟩:=List.getElem?_of_mem h;exact sP a
theorem pR {ds:List D}{d:D}(h:d∈ds):depD d<=depDs ds:=by obtain⟨i,a⟩:=List.getElem?_of_mem h;exact i5 a
theorem j9 {k:Nat}:∀{ds:List D},(∀d∈ds,depD d<=k)->depDs ds<=k
 | [],_=>au _
 | d::ds,h=>by have:=h d av;have:=j9 λe a=>h e (ay _ a);rw[depDs];omega
theorem LW:∀{us:List D},IsTms fx sm os us->2<=us.length->∀x∈us,lvs x+1<=lvss us
 | a::b::us,⟨e,d,f⟩,_,x,c=>by
  have i:=lQ e;have g:=lQ d;rw[lvss,lvss];obtain rfl|c:=cu.mp c
  ·omega
  ·obtain rfl|c:=cu.mp c
   ·omega
   ·have:=sO c;omega
 | [_],_,h,_,_=>by simp at h
 | [],_,h,_,_=>by simp at h
theorem HC.leaf {x:Str}(t:bB fx sm os (.str x))(f:Fl (.str x)):HC fx sm os (.str x) (.str x):=by refine⟨t,f,rfl,by rw[eC];exact ac _,λn _ e a=>?_⟩;rw[jM]at a;cases cs.mp a;rw[eC];exact ac _
inductive sC (fx:cH)(sm:bH)(os:aS):List D->List D->Prop where
 | nil:sC fx sm os [] []
 | cons {d e:D} {ds es:List D}:HC fx sm os d e->sC fx sm os ds es->sC fx sm os (d::ds) (e::es)
theorem sC.snoc {d e:D}(h:HC fx sm os d e):∀{ds es:List D},sC fx sm os ds es->sC fx sm os (ds++[d]) (es++[e])
 | _,_,.nil=>.cons h .nil
 | _,_,.cons a b=>.cons a (sC.snoc h b)
theorem sC.facts:∀{ds es:List D},sC fx sm os ds es->IsTms fx sm os es/\Fls es/\flts sm es=flts sm ds/\es.length=ds.length/\∀x∈es,∃d∈ds,HC fx sm os d x
 | _,_,.nil=>⟨trivial,trivial,rfl,rfl,λ_ h=>nomatch h⟩
 | _,_,.cons a b=>by
  obtain⟨j,i,g,f,e⟩:=b.facts;refine⟨⟨a.tm,j⟩,⟨a.fl,i⟩,by rw[flts,flts,a.ft,g],by rw[ap,ap,f],λx c=>?_⟩;obtain rfl|c:=cu.mp c
  ·exact⟨_,av,a⟩
  ·obtain⟨d,hd,h⟩:=e x c;exact⟨d,ay _ hd,h⟩
theorem HC.fixed {f:Str}{ds es:List D}(so:bF fx sm)(o:zr sm f=none)(e:nM fx sm f ds.length)(a:sC fx sm os ds es):HC fx sm os (.tup (.str f::ds)) (.tup (.str f::es)):=by
 obtain⟨g,s,r,q,p⟩:=a.facts;have j:depD (.tup (.str f::ds))=depDs ds+1:=(eB (sm:=sm) (.inl rfl)).2.2.1;have i:depD (.tup (.str f::es))=depDs es+1:=(eB (sm:=sm) (.inl rfl)).2.2.1;have le:lvs (.tup (.str f::es))=lvss es:=(eB (sm:=sm) (.inl rfl)).1;have t:=d5 g;have u:=kU e;have key:depDs es+1<=depDs ds+lvss es:=by
  have:depDs es<=depDs ds+lvss es - 1:=j9 λx b=>by obtain⟨d,hd,h⟩:=p x b;have:=h.dp;have:=pR hd;have:=sO b;omega
  omega
 refine⟨by unfold bB;rw[q];exact⟨e,g⟩,by unfold Fl;exact s,by rw[flt,flt,r],by rw[j,i,le];omega,λn m x b=>?_⟩;have l:f≠n:=λz=>by obtain⟨y,c⟩:=HD m;rw[←z,o]at c;cases c
 rw[lZ l]at b;cases cs.mp b;rw[j,i,le];omega
theorem Bq.of {ds es:List D}(so:bF fx sm)(ho:∀x∈os,c4 x)(hz:zr sm n=some z)(l:n∈sm.map (·.1))(a:sC fx sm os ds es):Bq fx sm os n z (depDs ds) (lvss es) (opn n z (flts sm ds)) (prts n es):=by obtain⟨g,c,o,r,m⟩:=a.facts;refine⟨DR c g,DS c,vZ c,by rw[←o];exact IS so ho hz c g,λx j=>?_⟩;obtain⟨y,i,b⟩:=iY.mp j;obtain⟨d,hd,h⟩:=m y i;have q:=h.pp n l x b;have p:=pR hd;refine⟨by omega,λe f=>?_⟩;rw[(xN h.fl x b).2.1]at f;cases cs.mp f;omega
theorem HC.sum {ds us:List D}{L:Nat}(so:bF fx sm)(ho:∀x∈os,c4 x)(hz:zr sm n=some z)(i:n∈sm.map (·.1))(j:IsTms fx sm os ds)(b:Bq fx sm os n z (depDs ds) L (opn n z (flts sm ds)) us)(f:2<=us.length):HC fx sm os (.tup (.str n::ds)) (.tup (.str n::us))/\lvs (.tup (.str n::us))=L:=by
 have d:depD (.tup (.str n::ds))=depDs ds+1:=(eB (sm:=sm) (.inl rfl)).2.2.1;have g:depD (.tup (.str n::us))=depDs us+1:=(eB (sm:=sm) (.inl rfl)).2.2.1;have le:lvs (.tup (.str n::us))=lvss us:=(eB (sm:=sm) (.inl rfl)).1;have key:depDs us+2<=depDs ds+lvss us:=by
  have l:=d5 b.tm;have:depDs us<=depDs ds+lvss us - 2:=j9 λx a=>by have:=(b.dp x a).1;have:=LW b.tm f x a;omega
  omega
 refine⟨⟨by unfold bB;exact⟨.inr ⟨f,i⟩,b.tm⟩,by unfold Fl;exact b.fl,?_,by rw[d,g,le];omega,λm hm x a=>?_⟩,by rw[le];exact b.lv⟩
 ·rw[flt,flt];exact wA hz (yN (eW so) (n9 so ho b.tm).1) b.op
 ·by_cases e:n=m
  ·subst e;rw[mB]at a;obtain⟨y,h,c⟩:=iY.mp a;have:=(b.dp y h).2 x c;rw[d];omega
  ·rw[lZ e]at a;cases cs.mp a;rw[d,g,le];omega
end
noncomputable def cw (x:Str)(d:D):Nat:=(lfs d).count x
noncomputable def cws (x:Str)(ds:List D):Nat:=(lfss ds).count x
theorem E4 (x:Str):∀ds es:List D,cws x (ds++es)=cws x ds+cws x es
 | [],es=>by rw[List.nil_append];unfold cws lfss;simp
 | d::ds,es=>by have:=E4 x ds es;unfold cws at this⊢;rw[List.cons_append,lfss,List.count_append,this,lfss,List.count_append,Nat.add_assoc]
theorem dL (x:Str)(d:D)(ds:List D):cws x (d::ds)=cw x d+cws x ds:=by unfold cws cw;rw[lfss,List.count_append]
theorem nH (x:Str):cws x []=0:=rfl
theorem cw_tup (x n:Str)(ds:List D):cw x (.tup (.str n::ds))=cws x ds:=by unfold cw cws;rw[lfs]
theorem cw_str (x y:Str):cw x (.str y)=if y=x then 1 else 0:=by
 unfold cw lfs;rw[List.count_cons,List.count_nil];by_cases h:y=x
 ·rw[ai h,ai (by simpa using h)]
 ·rw[ab h,ab (by simpa using h)]
theorem K5 {x:Str}{l m:List D}(p:l.Perm m):cws x l=cws x m:=by
 induction p with
 | nil=>rfl
 | cons d _ c=>rw[dL,dL,c]
 | swap a b l=>rw[dL,dL,dL,dL];omega
 | trans _ _ f e=>exact f.trans e
theorem E3 {x n z:Str}(a:z≠x):∀{ds:List D},Fls ds->cws x (opn n z ds)=cws x ds
 | [],_=>rfl
 | d::ds,⟨f,g⟩=>by
  rw[cE,E4,dL,E3 a g];congr 1;rcases kX f with⟨y,rfl,_⟩|⟨m,es,rfl,_⟩
  ·unfold opn1;dsimp only;split
   ·rename_i h;cases KM h;rw[nH,cw_str,ab a]
   ·rw[dL,nH];rfl
  ·unfold opn1;dsimp only;split
   ·rw[cw_tup]
   ·rw[dL,nH];rfl
theorem cw_one {x n z:Str}(a:z≠x)(l:List D):cw x (one n z l)=cws x l:=by
 unfold one;split
 ·rw[cw_str,ab a,nH]
 ·rw[dL,nH];rfl
 ·rw[cw_tup]
theorem cw_flt {c:cH}{sm:bH}{os:aS}{x:Str}(so:bF c sm)(ho:∀x∈os,c4 x)(nx:∀r∈sm,r.2≠x){d:D}(f:Fl d):bB c sm os d->cw x (flt sm d)=cw x d:=by
 refine kY (P:=λd=>bB c sm os d->cw x (flt sm d)=cw x d) (λy _ _=>by unfold flt;rfl) (λm ds l i h=>?_) f;unfold bB at h;have all:cws x (flts sm ds)=cws x ds:=by
  have:∀es:List D,(∀e∈es,e∈ds)->cws x (flts sm es)=cws x es:=by
   intro es b
   induction es with
   | nil=>rfl
   | cons e es a=>rw[flts,dL,dL,i e (b e av) (dE h.2 e (b e av)),a λy j=>b y (ay _ j)]
  exact this ds λ_ z=>z
 rw[flt,cw_tup,←all];unfold knot;cases hz:zr sm m with
 | none=>dsimp only;rw[cw_tup]
 | some z =>
  obtain⟨r,g,_,rfl⟩:=DB hz;dsimp only;rw[cw_one (nx r g),K5 (bU _),E3 (nx r g) (yN (eW so) (n9 so ho h.2).1)]
mutual
noncomputable def wlf (x:Str):D->Int->D
 | .tup (.str n::ds),i=>.tup (.str n::wls x ds i)
 | .str y,i=>if i=0 then .str x else .str y
 | d,_=>d
noncomputable def wls (x:Str):List D->Int->List D
 | [],_=>[]
 | d::ds,i=>(if 0<=i/\i<lvs d then wlf x d i else d)::wls x ds (i - lvs d)
end
theorem DD (x:Str):∀(ds:List D) (i:Int),i<0->wls x ds i=ds
 | [],_,_=>rfl
 | d::ds,i,h=>by rw[wls,ab (by omega),DD x ds _ (by omega)]
structure R4 (fx:cH)(sm:bH)(os:aS)(d e:D):Prop where
 tm:bB fx sm os e
 fl:Fl e
 lv:lvs e=lvs d
 dp:depD e=depD d
structure S2 (fx:cH)(sm:bH)(os:aS)(ds es:List D):Prop where
 tm:IsTms fx sm os es
 fl:Fls es
 lv:lvss es=lvss ds
 dp:depDs es=depDs ds
 ln:es.length=ds.length
section
variable {fx:cH}{sm:bH}{os:aS}{x:Str}
theorem OP (ds:List D)(f:Fls ds)(h:IsTms fx sm os ds)(c:∀e∈ds,∀i:Int,R4 fx sm os e (wlf x e i)):∀i:Int,S2 fx sm os ds (wls x ds i):=by
 induction ds with
 | nil=>intro i;exact⟨trivial,trivial,rfl,rfl,rfl⟩
 | cons d ds b =>
  intro i;have r:=b f.2 h.2 (λe g=>c e (ay _ g)) (i - lvs d);have a:R4 fx sm os d (if 0<=i/\i<lvs d then wlf x d i else d):=by
   split
   ·exact c d av i
   ·exact⟨h.1,f.1,rfl,rfl⟩
  rw[wls];exact⟨⟨a.tm,r.tm⟩,⟨a.fl,r.fl⟩,by rw[lvss,lvss,a.lv,r.lv],by rw[depDs,depDs,a.dp,r.dp],by rw[ap,ap,r.ln]⟩
theorem HI (j:bB fx sm os (.str x))(a:Fl (.str x)){d:D}(f:Fl d):bB fx sm os d->∀i:Int,R4 fx sm os d (wlf x d i):=by
 refine kY (P:=λd=>bB fx sm os d->∀i:Int,R4 fx sm os d (wlf x d i)) (λy l g i=>?_) (λm ds o c h i=>?_) f
 ·unfold wlf;split
  ·exact⟨j,a,by rw[eC,eC],rfl⟩
  ·exact⟨g,l,rfl,rfl⟩
 ·unfold bB at h;have r:=OP ds o h.2 (λe b=>c e b (dE h.2 e b)) i;rw[wlf];exact⟨by unfold bB;rw[r.ln];exact⟨h.1,r.tm⟩,by unfold Fl;exact r.fl,by rw[lvs,lvs,r.lv],by rw[depD,depD,depDs,depDs,r.dp]⟩
theorem NK {d:D}(f:Fl d):∀i:Nat,i<lvs d->lfs (wlf x d (i:Int))=(lfs d).set i x:=by
 refine kY (P:=λd=>∀i:Nat,i<lvs d->lfs (wlf x d (i:Int))=(lfs d).set i x) (λy _ i g=>?_) (λm ds b a i _=>?_) f
 ·rw[eC]at g;obtain rfl:i=0:=by omega
  rw[show wlf x (.str y) ((0:Nat):Int) = .str x by unfold wlf;exact ai rfl];unfold lfs;rfl
 ·have go:∀(ds:List D),Fls ds->(∀e∈ds,∀i:Nat,i<lvs e->lfs (wlf x e (i:Int))=(lfs e).set i x)->∀i:Nat,lfss (wls x ds (i:Int))=(lfss ds).set i x:=by
   intro ds b a
   induction ds with
   | nil=>intro i;rw[wls,lfss];rfl
   | cons d ds c =>
    intro i;have len:=sQ (AT b.1);by_cases lt:i<lvs d
    ·rw[wls,ai ⟨by omega,by omega⟩,DD x ds _ (by omega),lfss,lfss,a d av i lt,List.set_append_left _ _ (by omega)]
    ·rw[wls,ab (by omega),show(i:Int) - (lvs d:Int)=((i - lvs d:Nat):Int)by omega,lfss,lfss,c b.2 (λe h=>a e (ay _ h)) (i - lvs d),List.set_append_right _ _ (by omega),len]
  rw[wlf,lfs,lfs];exact go ds b a i
theorem cw_wlf {d:D}(f:Fl d){i:Nat}(b:i<lvs d){y:Str}(a:(lfs d)[i]?=some y)(ne:y≠x):cw x (wlf x d (i:Int))=cw x d+1:=by
 unfold cw;rw[NK f i b];have hl:i<(lfs d).length:=by rw[sQ (AT f)];exact b
 have c:(lfs d)[i]=y:=by rw[aw hl]at a;exact Option.some.inj a
 rw[List.count_set hl,c];simp[ne]
end
section
variable {P:Program}{w:World}{K:PySem.W.Frag}{mg:jF}{base:Heap}
theorem mX {f:Addr}{a:FuncData}{x:Str}{ps:aS}{b:Nat->Sp}{c:Nat}(hm:mg x=some (.ref f))(i:PySem.W.keepIn K (.ref f)=true)(d:eN K a ps [])(ok:∀n,dP P w K mg base bN (n+c) x (λvs H Q E=>∃m,m<n/\b m vs H Q E)->bY P w K mg base bN (n+c+1) f a ps (b n))(n:Nat):dP P w K mg base bN (n+c+1) x (b n):=by
 have all:∀n,bY P w K mg base bN (n+c+1) f a ps (b n):=by
  intro n
  induction n using Nat.strongRecOn with
  | ind n g =>
   exact ok n ⟨f,a,_,⟨λvs H Q E ⟨m,e,h⟩=>(g m e).len vs H Q E h,λA outer s H args us vs Q E l o d j ⟨m,e,h⟩=>((g m e).mono (by omega)).run A outer s H args us vs Q E l o d j h⟩,hm,i,d⟩
 exact⟨f,a,ps,all n,hm,i,d⟩
theorem qX {H:Hp}{d:D}{v:V}(f:Fl d)(r:aZ H d v):(∃x,d = .str x/\v = .str x)∨∃nm ds b a,d = .tup (.str nm::ds)/\v = .ref b/\H b=some (.tup (.str nm::a))/\Reps H ds a/\Fls ds:=by
 rcases kX f with⟨x,rfl,_⟩|⟨nm,ds,rfl,g⟩
 ·exact .inl ⟨x,rfl,r⟩
 ·obtain⟨b,vs,rfl,h,_,a,rfl,e,c⟩:=r;cases e;exact .inr ⟨nm,ds,b,a,rfl,rfl,h,c,g⟩
theorem qF {a:cH}{sm:bH}{os:aS}{n:Str}{ds:List D}(h:bB a sm os (.tup (.str n::ds))):nM a sm n ds.length/\IsTms a sm os ds/\ds.length<=lvss ds/\1<=ds.length/\lvs (.tup (.str n::ds))=lvss ds/\depD (.tup (.str n::ds))=depDs ds+1:=by have h':=h;unfold bB at h';exact⟨h'.1,h'.2,d5 h'.2,kU h'.1,(eB (sm:=sm) (.inl rfl)).1,(eB (sm:=sm) (.inl rfl)).2.2.1⟩
theorem nA {b:cH}{sm:bH}{os:aS}{ds:List D}{i:Nat}{e:D}(f:Fls ds)(h:IsTms b sm os ds)(a:ds[i]?=some e):Fl e/\bB b sm os e/\lvs e<=lvss ds/\depD e<=depDs ds:=⟨bM f e (bi a),dE h e (bi a),sP a,i5 a⟩
structure Tq (fx:cH)(sm:bH)(os:aS)(n:Nat)(d:D)(v:V)(H:Hp):Prop where
 re:aZ H d v
 fl:Fl d
 tm:bB fx sm os d
 lv:lvs d<=100
 dp:depD d<=n
def spLvs (n:Nat):Sp:=λvs H Q _=>∃(a:cH) (sm:bH) (os:aS) (d:D) (v:V),vs=[v]/\Tq a sm os n d v H/\∀H',aD H H'->Q (.int (lvs d:Int)) H'
def S0 (f:D->Nat)(ds:List D)(H:Hp)(i:Nat)(a:List V)(σ:St)(c:Hp):Prop:=∃b:Option V,σ=[b]/\aD H c/\a=((ds.take i).map λd=>((f d:Nat):Int)).map V.int
theorem DG:∀ds:List D,(ds.map λd=>((lvs d:Nat):Int)).sum=(lvss ds:Int)
 | []=>rfl
 | d::ds=>by rw[bd,List.sum_cons,DG ds,lvss];omega
theorem P1 {f:Addr}{U:FuncData}(n:Nat)(F:gG K "_law_leaves" "_law_leaves" eH f U)(T:Txt mg)(a:dP P w K mg base bN (n+1) "_law_leaves" (λvs H Q E=>∃m,m<n/\spLvs m vs H Q E)):bY P w K mg base bN (n+1+1) f U jT (spLvs n):=by
 refine F.ok tG (λvs H Q E h=>?_) (λcdv A outer s H vs Q E G h=>?_)
 ·obtain⟨S,sm,os,d,v,rfl,_⟩:=h;rfl
 ·obtain⟨S,sm,os,d,v,rfl,t,q⟩:=h;have Z:=G.units
  refine⟨_,(aC (bL (aV K rfl (aL aK rfl T.n_isinstance rfl (aA (pv 0) (aA (bR (v:=V.ty "str") rfl T.n_str rfl rfl) aB))) (λ_=>rfl)) (aH (aN aF)) aR)
   (aH (aN (aL (G1 rfl) rfl T.n_sum rfl (aA (e8 rfl (bJ.by (N:=nZ) (names:=(aJ eH).names) (N':=["_law_part"]) (src:=[none]) (by decide +kernel) rfl rfl) (cQ K rfl (dX iT (pv 0) (cM aF) c5)) (λ_ _ _ _=>(bA (i:=0) (show List.Nodup (["_law_part"]:aS)by decide +kernel) rfl (Or.inl rfl))) (λ_ _ _ _=>cV) (λ_ _ _ _=>(aM a (G.mono (by omega)) pass0 rfl (aA (pv 0) aB)))) aB))))),?_⟩
  try dsimp only[cxOf,Cx.nox]
  clear G F T Z a;simp only[dF,eM];obtain⟨rep,fl,tm,lv,dp⟩:=t;rcases qX fl rep with⟨x,rfl,rfl⟩|⟨nm,ds,L,b,rfl,rfl,c,g,I⟩
  ·have q:=q H (aD.refl _);rw[eC]at q;exact⟨_,rfl,.str x,.ty "str",true,rfl,rfl,_,rfl,q⟩
  obtain⟨hh,u,l1,l2,el,ed⟩:=qF tm;have X:=Reps.len g;refine⟨_,rfl,.ref L,.ty "str",false,rfl,gC c,_,rfl,?_⟩;refine⟨_,rfl,(1:Int),rfl,L,_,rfl,.inr c,λ_ z=>by have:=z.1;simp[HT.sIx]at this,λp o hp ho=>?_⟩;obtain⟨rfl,_⟩:=ho.resolve_left λz=>by rw[c]at z;exact nomatch z.2
  rw[gT];refine⟨p,b,rfl,.inr upd_same,λJ R=>?_⟩;have B:aD H (upd H p (.tup b)):=aD.upd hp;have C:upd H p (.tup b) p=some (.tup b):=upd_same;generalize upd H p (.tup b)=H0 at B C R⊢;refine cU R (S0 lvs ds H0) ⟨none,rfl,aD.refl _,rfl⟩ (λi j σ H' _ ⟨_,_,s,_⟩=>by rw[s _ _ C,C]) ?_ ?_
  ·rintro i x j σ H1 Y ⟨W,rfl,r,rfl⟩;obtain⟨e,O,re⟩:=Reps.get g Y;obtain⟨f1,f2,f3,f4⟩:=nA I u O;refine⟨_,rfl,depD e,by omega,S,sm,os,e,x,rfl,⟨aZ.same (B.trans r) re,f1,f2,by omega,ac _⟩,λH2 s2=>⟨aj (m:=100) (by rw[ae,ae,bv];omega) (by decide),_,rfl,r.trans s2,?_⟩⟩;rw[bD O,ax,ax];rfl
  ·rintro j σ H1 ⟨W,rfl,r,rfl⟩ l hl;rw[X,bw];refine⟨l,_,rfl,upd_same,?_⟩;rw[DG,←el];exact q _ ((B.trans r).trans (aD.upd hl))
theorem MR {f:Addr}{a:FuncData}(F:gG K "_law_leaves" "_law_leaves" eH f a)(T:Txt mg)(hm:mg "_law_leaves" = some (.ref f))(b:PySem.W.keepIn K (.ref f)=true)(c:eN K a jT [])(n:Nat):dP P w K mg base bN (n+2) "_law_leaves" (spLvs n):=mX hm b c (λn O=>P1 n F T O) n
def spDep (n:Nat):Sp:=λvs H Q _=>∃(a:cH) (sm:bH) (os:aS) (d:D) (v:V),vs=[v]/\Tq a sm os n d v H/\∀H',aD H H'->Q (.int (depD d:Int)) H'
theorem EZ:∀{ds:List D},ds≠[]->∃d∈ds,depD d=depDs ds
 | [d],_=>⟨d,av,by rw[depDs,depDs];omega⟩
 | d::e::ds,_=>by
  obtain⟨x,a,h⟩:=EZ (ds:=e::ds) (by simp);rw[depDs];by_cases c:depDs (e::ds)<=depD d
  ·exact⟨d,av,by omega⟩
  ·exact⟨x,ay _ a,by omega⟩
theorem P7 {f:Addr}{Y:FuncData}(n:Nat)(F:gG K "_law_depth" "_law_depth" eY f Y)(T:Txt mg)(a:dP P w K mg base bN (n+1) "_law_depth" (λvs H Q E=>∃m,m<n/\spDep m vs H Q E)):bY P w K mg base bN (n+1+1) f Y lC (spDep n):=by
 refine F.ok vB (λvs H Q E h=>?_) (λcdv A outer s H vs Q E G h=>?_)
 ·obtain⟨X,sm,os,d,v,rfl,_⟩:=h;rfl
 ·obtain⟨X,sm,os,d,v,rfl,t,q⟩:=h;have hu:=G.units
  refine⟨_,(aC (bL (aV K rfl (aL aK rfl T.n_isinstance rfl (aA (pv 0) (aA (bR (v:=V.ty "str") rfl T.n_str rfl rfl) aB))) (λ_=>rfl)) (aH (aN aF)) aR)
   (aH (aN (bG bT aF (aL (G3 rfl) rfl T.n_max rfl (aA (e8 rfl (bJ.by (N:=qA) (names:=(aJ eY).names) (N':=["_law_part"]) (src:=[none]) (by decide +kernel) rfl rfl) (cQ K rfl (dX iT (pv 0) (cM aF) c5)) (λ_ _ _ _=>(bA (i:=0) (show List.Nodup (["_law_part"]:aS)by decide +kernel) rfl (Or.inl rfl))) (λ_ _ _ _=>cV) (λ_ _ _ _=>(aM a (G.mono (by omega)) pass0 rfl (aA (pv 0) aB)))) aB)))))),?_⟩
  try dsimp only[cxOf,Cx.nox]
  clear G F T hu a;simp only[dF,eM];obtain⟨rep,fl,tm,lv,dp⟩:=t;rcases qX fl rep with⟨x,rfl,rfl⟩|⟨nm,ds,R,b,rfl,rfl,c,g,O⟩
  ·exact⟨_,rfl,.str x,.ty "str",true,rfl,rfl,_,rfl,q H (aD.refl _)⟩
  obtain⟨hh,u,l1,S,el,ed⟩:=qF tm;have lr:=Reps.len g;refine⟨_,rfl,.ref R,.ty "str",false,rfl,gC c,_,rfl,?_⟩;refine⟨_,rfl,(1:Int),rfl,R,_,rfl,.inr c,λ_ z=>by have:=z.1;simp[HT.sIx]at this,λp o hp ho=>?_⟩;obtain⟨rfl,_⟩:=ho.resolve_left λz=>by rw[c]at z;exact nomatch z.2
  rw[gT];refine⟨p,b,rfl,.inr upd_same,λJ W=>?_⟩;have B:aD H (upd H p (.tup b)):=aD.upd hp;have C:upd H p (.tup b) p=some (.tup b):=upd_same;generalize upd H p (.tup b)=H0 at B C W⊢;refine cU W (S0 depD ds H0) ⟨none,rfl,aD.refl _,rfl⟩ (λi j σ H' _ ⟨_,_,s,_⟩=>by rw[s _ _ C,C]) ?_ ?_
  ·rintro i x j σ H1 hx ⟨Z,rfl,r,rfl⟩;obtain⟨e,U,re⟩:=Reps.get g hx;obtain⟨f1,f2,f3,f4⟩:=nA O u U;refine⟨_,rfl,depD e,by omega,X,sm,os,e,x,rfl,⟨aZ.same (B.trans r) re,f1,f2,by omega,ac _⟩,λH2 s2=>⟨aj (m:=100) (by rw[ae,ae,bv];omega) (by decide),_,rfl,r.trans s2,?_⟩⟩;rw[bD U,ax,ax];rfl
  ·rintro j σ H1 ⟨Z,rfl,r,rfl⟩ l hl;rw[lr,bw];have ne:ds≠[]:=λz=>by rw[z]at S;simp at S
   refine⟨l,_,rfl,upd_same,by simpa using ne,λM hM all=>.inl ⟨_,rfl,?_⟩⟩;obtain⟨d0,L,e0⟩:=EZ ne;obtain⟨d1,I,rfl⟩:=cy.mp hM;have h1:=all _ (cy.mpr ⟨d0,L,rfl⟩);have h2:=pR I;have q:=q _ ((B.trans r).trans (aD.upd (o:=.lst ((ds.map λd=>((depD d:Nat):Int)).map V.int)) hl));rw[ed]at q;rw[show(1:Int)+((depD d1:Nat):Int)=((depDs ds+1:Nat):Int)by omega];exact q
theorem MS {f:Addr}{a:FuncData}(F:gG K "_law_depth" "_law_depth" eY f a)(T:Txt mg)(hm:mg "_law_depth" = some (.ref f))(b:PySem.W.keepIn K (.ref f)=true)(c:eN K a lC [])(n:Nat):dP P w K mg base bN (n+2) "_law_depth" (spDep n):=mX hm b c (λn O=>P7 n F T O) n
def oW (n:Nat):Sp:=λvs H Q _=>∃(a:cH) (sm:bH) (os:aS) (d:D) (v:V) (i:Nat),vs=[v,.int (i:Int)]/\Tq a sm os n d v H/\i<lvs d/\depD d<=11/\∀(y:Str) (H':Hp),(lfs d)[i]?=some y->aD H H'->Q (.str y) H'
def T8 (v:V)(ds:List D)(L:aS)(i:Nat)(H:Hp)(j:Nat)(σ:St)(b:Hp):Prop:=∃(a:Nat) (o2 o3:Option V),σ=[some v,some (.int (a:Int)),o2,o3]/\aD H b/\a<lvss (ds.drop j)/\(lfss (ds.drop j))[a]?=L[i]?
theorem F9 {f:Addr}{fd:FuncData}(n:Nat)(F:gG K "_law_leaf_at" "_law_leaf_at" eU f fd)(T:Txt mg)(g:dP P w K mg base bN 13 "_law_leaves" (spLvs 11))(b:dP P w K mg base bN (n+13) "_law_leaf_at" (λvs H Q E=>∃m,m<n/\oW m vs H Q E)):bY P w K mg base bN (n+13+1) f fd jA (oW n):=by
 refine F.ok fK (λvs H Q E h=>?_) (λcdv A outer s H vs Q E I h=>?_)
 ·obtain⟨W,sm,os,d,v,i,rfl,_⟩:=h;rfl
 ·obtain⟨W,sm,os,d,v,i,rfl,t,R,Y,q⟩:=h;have Z:=I.units
  refine⟨_,(aC (bL (aV K rfl (aL aK rfl T.n_isinstance rfl (aA (pv 0) (aA (bR (v:=V.ty "str") rfl T.n_str rfl rfl) aB))) (λ_=>rfl)) (aH (aN (pv 0))) aR)
   (aC (fB di rfl (cQ K rfl (dX iT (pv 0) (cM aF) c5)) (bA (i:=2) fK.nd rfl (Or.inl rfl)) (aC (aU (i:=3) fK.nd rfl (Or.inl rfl) (aM g (I.mono (by omega)) pass0 rfl (aA (pv 2) aB)))
   (aC (bL (aQ (kQ Z) (pv 1) (pv 3) (nomark _)) (aH (aN (aM b (I.mono (by omega)) pass0 rfl (aA (pv 2) (aA (pv 1) aB))))) aR)
   (aH (aU (i:=1) fK.nd rfl (Or.inl rfl) (bG fC (pv 1) (pv 3)))))))
   (aH (aN cJ)))),?_⟩
  try dsimp only[cxOf,Cx.nox]
  clear I F T Z b g;simp only[dF,eM];obtain⟨rep,fl,tm,lv,dp⟩:=t;rcases qX fl rep with⟨x,rfl,rfl⟩|⟨nm,ds,L,l,rfl,rfl,r,C,X⟩
  ·rw[eC]at R;obtain rfl:i=0:=by omega
   exact⟨_,rfl,.str x,.ty "str",true,rfl,rfl,_,rfl,_,rfl,q x H (by unfold lfs;rfl) (aD.refl _)⟩
  obtain⟨hh,N,l1,l2,el,ed⟩:=qF tm;have lr:=Reps.len C;rw[show lfs (.tup (.str nm::ds))=lfss ds by rw[lfs]]at q;rw[el]at R;rw[ed]at Y;refine⟨_,rfl,.ref L,.ty "str",false,rfl,gC r,_,rfl,?_⟩;refine⟨_,rfl,(1:Int),rfl,L,_,rfl,.inr r,λ_ z=>by have:=z.1;simp[HT.sIx]at this,λp o hp ho=>?_⟩;obtain⟨rfl,_⟩:=ho.resolve_left λz=>by rw[r]at z;exact nomatch z.2
  rw[gT];refine⟨p,l,rfl,.inr upd_same,λJ hJ=>?_⟩;have G:aD H (upd H p (.tup l)):=aD.upd hp;have O:upd H p (.tup l) p=some (.tup l):=upd_same;generalize upd H p (.tup l)=H0 at G O hJ⊢;refine gQ hJ (T8 (.ref L) ds (lfss ds) i H0) ⟨i,none,none,rfl,aD.refl _,by rw[List.drop_zero];exact R,by rw[List.drop_zero]⟩ (λj σ H' _ ⟨_,_,_,_,s,_⟩=>by rw[s _ _ O,O]) ?_ ?_
  ·rintro j x σ H1 hx ⟨a,o2,o3,rfl,B,U,u⟩;obtain⟨e,S,re⟩:=Reps.get C hx;obtain⟨f1,f2,f3,f4⟩:=nA X N S;rw[uF S,lvss]at U;rw[uF S,lfss]at u;have len:=sQ (AT f1);refine⟨_,rfl,W,sm,os,e,x,rfl,⟨aZ.same (G.trans B) re,f1,f2,by omega,by omega⟩,λH2 s2=>?_⟩;refine⟨_,rfl,_,rfl,.inl (.inl ⟨_,_,rfl,rfl,_,rfl,bX (λc=>?_) (λc=>?_)⟩)⟩
   ·have lt:a<lvs e:=by have:=bu c;omega
    refine⟨_,rfl,_,rfl,depD e,by omega,W,sm,os,e,x,a,rfl,⟨aZ.same ((G.trans B).trans s2) re,f1,f2,by omega,ac _⟩,lt,by omega,λy H3 hy s3=>?_⟩;rw[List.getElem?_append_left (by omega),hy]at u;exact q y H3 u.symm (((G.trans B).trans s2).trans s3)
   ·have ge:lvs e<=a:=by have:=of_decide_eq_false c;omega
    refine⟨_,rfl,_,rfl,_,_,rfl,rfl,?_⟩;rw[List.getElem?_append_right (by omega),len]at u;exact⟨a - lvs e,_,_,by rw[show((a - lvs e:Nat):Int)=(a:Int) - (lvs e:Int)by omega];rfl,B.trans s2,by omega,u⟩
  ·rintro σ H1 ⟨a,o2,o3,rfl,B,U,u⟩;rw[lr,List.drop_length,lvss]at U;omega
theorem B2 {f:Addr}{b:FuncData}(F:gG K "_law_leaf_at" "_law_leaf_at" eU f b)(T:Txt mg)(a:dP P w K mg base bN 13 "_law_leaves" (spLvs 11))(hm:mg "_law_leaf_at" = some (.ref f))(c:PySem.W.keepIn K (.ref f)=true)(d:eN K b jA [])(n:Nat):dP P w K mg base bN (n+14) "_law_leaf_at" (oW n):=mX hm c d (λn O=>F9 n F T a O) n
def spWl (n:Nat):Sp:=λvs H Q _=>∃(b:cH) (sm:bH) (os:aS) (d:D) (v:V) (i:Int) (x:Str),vs=[v,.int i,.str x]/\Tq b sm os n d v H/\depD d<=11/\Fl (.str x)/\∀(a:V) (H':Hp),aD H H'->aZ H' (wlf x d i) a->Q a H'
theorem OQ {x:Str}(j:Fl (.str x)){d:D}(f:Fl d):∀i:Int,Fl (wlf x d i):=by
 refine kY (P:=λd=>∀i:Int,Fl (wlf x d i)) (λy h i=>?_) (λm ds l c i=>?_) f
 ·unfold wlf;split
  ·exact j
  ·exact h
 ·have:∀(es:List D),(∀e∈es,e∈ds)->∀i:Int,Fls (wls x es i):=by
   intro es b
   induction es with
   | nil=>intro i;exact trivial
   | cons e es a =>
    intro i;refine⟨?_,a (λy g=>b y (ay _ g)) _⟩;split
    ·exact c e (b e av) i
    ·exact bM l e (b e av)
  rw[wlf];unfold Fl;exact this ds (λ_ z=>z) i
def SV (v:V)(x nm:Str)(l:Addr)(ds:List D)(i:Int)(H:Hp)(j:Nat)(σ:St)(b:Hp):Prop:=∃(a:Int) (es:List D) (us:List V) (o4 o5:Option V),σ=[some v,some (.int a),some (.str x),some (.ref l),o4,o5]/\aD H b/\b l=some (.lst (.str nm::us))/\Reps b es us/\es.length=j/\es++wls x (ds.drop j) a=wls x ds i/\Fls es
theorem RS {f:Addr}{fd:FuncData}(n:Nat)(F:gG K "_law_with_leaf" "_law_with_leaf" dW f fd)(T:Txt mg)(r:dP P w K mg base bN 13 "_law_leaves" (spLvs 11))(g:dP P w K mg base bN (n+13) "_law_with_leaf" (λvs H Q E=>∃m,m<n/\spWl m vs H Q E)):bY P w K mg base bN (n+13+1) f fd gI (spWl n):=by
 refine F.ok dG (λvs H Q E h=>?_) (λcdv A outer s H vs Q E hr h=>?_)
 ·obtain⟨fx,sm,os,d,v,i,x,rfl,_⟩:=h;rfl
 ·obtain⟨fx,sm,os,d,v,i,x,rfl,t,d11,fx',q⟩:=h;have hu:=hr.units
  refine⟨_,(aC (bL (aV K rfl (aL aK rfl T.n_isinstance rfl (aA (pv 0) (aA (bR (v:=V.ty "str") rfl T.n_str rfl rfl) aB))) (λ_=>rfl)) (aH (aN (mC (aQ (dQ hu) (pv 1) aF (nomark _)) (pv 2) (pv 0)))) aR)
   (aC (aU (i:=3) dG.nd rfl (Or.inl rfl) (bQ (aA (bC bW (pv 0) aF (λ_ _=>rfl)) aB)))
   (aC (fB di rfl (cQ K rfl (dX iT (pv 0) (cM aF) c5)) (bA (i:=4) dG.nd rfl (Or.inl rfl)) (aC (aU (i:=5) dG.nd rfl (Or.inl rfl) (aM r (hr.mono (by omega)) pass0 rfl (aA (pv 4) aB)))
   (aC (bZ (fI df dh dg eI (pv 3) (aA (mC (j7 mF (kQ hu) aF (pv 1) (pv 5)) (aM g (hr.mono (by omega)) pass0 rfl (aA (pv 4) (aA (pv 1) (aA (pv 2) aB)))) (pv 4)) aB)))
   (aH (aU (i:=1) dG.nd rfl (Or.inl rfl) (bG fC (pv 1) (pv 5)))))))
   (aH (aN (cB dM rfl T.n_tuple rfl (aA (pv 3) aB))))))),?_⟩
  try dsimp only[cxOf,Cx.nox]
  clear hr F T hu g r;simp only[dF,eM];obtain⟨rep,fl,tm,lv,dp⟩:=t;rcases qX fl rep with⟨y,rfl,rfl⟩|⟨nm,ds,Y,B,rfl,rfl,U,Z,fds⟩
  ·refine⟨_,rfl,.str y,.ty "str",true,rfl,rfl,_,rfl,?_⟩;refine⟨_,rfl,.int i,.int 0,rfl,rfl,au _,_,rfl,bX (λc=>⟨_,rfl,q _ H (aD.refl _) ?_⟩) (λc=>⟨_,rfl,q _ H (aD.refl _) ?_⟩)⟩
   ·have c:(i == 0)=true:=c;rw[show wlf x (.str y) i = .str x by unfold wlf;rw[ai (eq_of_beq c)]];rfl
   ·have c:(i == 0)=false:=c;rw[show wlf x (.str y) i = .str y by unfold wlf;rw[ab (ne_of_beq_false c)]];rfl
  obtain⟨hh,tms,l1,l2,el,ed⟩:=qF tm;have lr:=Reps.len Z;rw[ed]at d11;rw[show wlf x (.tup (.str nm::ds)) i = .tup (.str nm::wls x ds i)by rw[wlf]]at q;refine⟨_,rfl,.ref Y,.ty "str",false,rfl,gC U,_,rfl,?_⟩;refine⟨_,rfl,.str nm,by rw[ixV_t U,atI_zero],show 1<=sizeLine by decide,λl hl=>?_⟩;have s1:aD H (upd H l (.lst [.str nm])):=aD.upd hl;have r1:upd H l (.lst [.str nm]) l=some (.lst [.str nm]):=upd_same;change tSeq _ _ _ _ (upd H l (.lst [.str nm]));generalize upd H l (.lst [.str nm])=H1 at s1 r1⊢;have N:=s1 _ _ U;refine⟨_,rfl,(1:Int),rfl,Y,_,rfl,.inr N,λ_ z=>by have:=z.1;simp[HT.sIx]at this,λp o hp ho=>?_⟩;obtain⟨rfl,_⟩:=ho.resolve_left λz=>by rw[N]at z;exact nomatch z.2
  rw[gT];refine⟨p,B,rfl,.inr upd_same,λJ hJ=>?_⟩;have s2:aD H1 (upd H1 p (.tup B)):=aD.upd hp;have r2:upd H1 p (.tup B) p=some (.tup B):=upd_same;generalize upd H1 p (.tup B)=H2 at s2 r2 hJ⊢;have s12:=s1.trans s2;have t02:∀{X:Hp},aD H X->X p=some (.tup B)->True:=λ_ _=>trivial;refine gQ hJ (λj σ X=>SV (.ref Y) x nm l ds i H j σ X/\X p=some (.tup B)) ⟨⟨i,[],[],none,none,rfl,s12,s2 _ _ r1,rfl,rfl,by rw[List.drop_zero];rfl,trivial⟩,r2⟩ (λj σ H' _ h=>by rw[h.2,r2]) ?_ ?_
  ·rintro j u σ X hx ⟨⟨a,es,us,o4,o5,rfl,S,h3,res,le,ee,W⟩,hp3⟩;obtain⟨e,he,re⟩:=Reps.get Z hx;obtain⟨f1,f2,f3,f4⟩:=nA fds tms he;have lj:=(cr.mp he).1;have lus:=Reps.len res;rw[uF he,wls]at ee;refine⟨_,rfl,fx,sm,os,e,u,rfl,⟨aZ.same S re,f1,f2,by omega,by omega⟩,λH4 R=>?_⟩;have h4:=R _ _ h3;have fin:∀(C:V) (L:Hp),aD H4 L->aZ L (if 0<=a/\a<lvs e then wlf x e a else e) C->Fl (if 0<=a/\a<lvs e then wlf x e a else e)->SV (.ref Y) x nm l ds i H (j+1) ([some (.ref Y),some (.int (a - (lvs e:Int))),some (.str x),some (.ref l),some u,some (.int (lvs e:Int))]) (upd L l (.lst ((.str nm::us)++[C])))/\upd L l (.lst ((.str nm::us)++[C])) p=some (.tup B):=λC L O r5 f5=>by
    have h5:=O _ _ h4;have t6:aX L (upd L l (.lst ((.str nm::us)++[C]))):=aX.lst h5;refine⟨⟨_,es++[_],us++[C],_,_,rfl,λb o eb=>by rw[aE (aG eb hl)];exact O _ _ (R _ _ (S _ _ eb)),upd_same,Reps.snoc (aZ.tups t6 f5 r5) (Reps.tups t6 W (Reps.same (R.trans O) res)),by rw[aq,le];rfl,by rw[cp];exact ee,eD λy hy=>?_⟩,t6 _ _ (O _ _ (R _ _ hp3))⟩;rcases cx.mp hy with w|w
    ·exact bM W y w
    ·cases cs.mp w;exact f5
   refine⟨_,rfl,.inl ⟨rfl,_,dN.of h4⟩,_,rfl,_,_,rfl,rfl,_,rfl,bX (λI=>?_) (λI=>?_)⟩
   ·have I:=bu I;refine⟨_,rfl,.inl (.inl ⟨_,_,rfl,rfl,_,rfl,bX (λG=>?_) (λG=>?_)⟩)⟩
    ·have G:=bu G;refine⟨_,rfl,_,rfl,_,rfl,depD e,by omega,fx,sm,os,e,u,a,x,rfl,⟨aZ.same (S.trans R) re,f1,f2,by omega,ac _⟩,by omega,fx',λC L O r5=>?_⟩;have fe:Fl (wlf x e a):=OQ fx' f1 a;refine⟨l,_,C,rfl,rfl,O _ _ h4,aj (m:=200) (by simp;omega) (by decide),_,rfl,_,rfl,_,_,rfl,rfl,fin C L O (by rw[ai ⟨I,G⟩];exact r5) (by rw[ai ⟨I,G⟩];exact fe)⟩
    ·have G:=of_decide_eq_false G;refine⟨_,rfl,l,_,u,rfl,rfl,h4,aj (m:=200) (by simp;omega) (by decide),_,rfl,_,rfl,_,_,rfl,rfl,fin u H4 (aD.refl _) ?_ ?_⟩
     ·rw[ab (λz=>G z.2)];exact aZ.same (S.trans R) re
     ·rw[ab (λz=>G z.2)];exact f1
   ·have I:=of_decide_eq_false I;refine⟨_,rfl,_,rfl,l,_,u,rfl,rfl,h4,aj (m:=200) (by simp;omega) (by decide),_,rfl,_,rfl,_,_,rfl,rfl,fin u H4 (aD.refl _) ?_ ?_⟩
    ·rw[ab (λz=>I z.1)];exact aZ.same (S.trans R) re
    ·rw[ab (λz=>I z.1)];exact f1
  ·rintro σ X ⟨⟨a,es,us,o4,o5,rfl,S,h3,res,le,ee,W⟩,hp3⟩;rw[lr,List.drop_length,wls,bn]at ee;refine⟨_,rfl,l,_,rfl,.inl h3,λl4 H4 hc=>?_⟩;rcases hc with⟨hc,_⟩|⟨_,hl4,rfl⟩
   ·rw[h3]at hc;cases hc
   ·rw[←ee]at q;exact q _ _ (S.trans (aD.upd hl4)) ⟨l4,_,rfl,upd_same,_,us,rfl,rfl,Reps.same (aD.upd hl4) res⟩
theorem PH {f:Addr}{b:FuncData}(F:gG K "_law_with_leaf" "_law_with_leaf" dW f b)(T:Txt mg)(a:dP P w K mg base bN 13 "_law_leaves" (spLvs 11))(hm:mg "_law_with_leaf" = some (.ref f))(c:PySem.W.keepIn K (.ref f)=true)(d:eN K b gI [])(n:Nat):dP P w K mg base bN (n+14) "_law_with_leaf" (spWl n):=mX hm c d (λn O=>RS n F T a O) n
theorem FA {H:Hp}{a b:Addr}{xs c:List V}(f:H a=some (.tup xs))(e:H b=some (.tup c))(hz:xs.length+c.length<=sizeLine)(nx:xs≠[])(d:c≠[]):catO H (.ref a) (.ref b)=some (.tup (xs++c)):=by unfold catO;simp only[f,e];rw[ai ⟨hz,nx,d⟩]
def spPrt (n:Nat):Sp:=λvs H Q _=>∃(a:cH) (sm:bH) (os:aS) (nm:Str) (d:D) (v:V),vs=[.str nm,v]/\Tq a sm os n d v H/\∀(l:Addr) (us:List V) (H':Hp),aD H H'->H l=none->H' l=some (.lst us)->Reps H' (prt nm d) us->Q (.ref l) H'
def TL (nm:Str)(v:V)(l:Addr)(ds:List D)(H:Hp)(i:Nat)(σ:St)(a:Hp):Prop:=∃(us:List V) (o3:Option V),σ=[some (.str nm),some v,some (.ref l),o3]/\aD H a/\a l=some (.lst us)/\Reps a (prts nm (ds.take i)) us
theorem zL {n:Str}{a:cH}{sm:bH}{os:aS}{ds:List D}(f:Fls ds)(h:IsTms a sm os ds):(prts n ds).length<=lvss ds:=by have:=d5 (DR (n:=n) f h);rw[vZ f]at this;exact this
theorem wI {ds:List D}(h:Fls ds)(k:Nat):Fls (ds.take k):=eD λd hd=>bM h d (List.mem_of_mem_take hd)
theorem PZ {f:Addr}{fd:FuncData}(n:Nat)(F:gG K "_law_parts" "_law_parts" fZ f fd)(T:Txt mg)(a:dP P w K mg base bN (n+1) "_law_parts" (λvs H Q E=>∃m,m<n/\spPrt m vs H Q E)):bY P w K mg base bN (n+1+1) f fd k9 (spPrt n):=by
 refine F.ok jP (λvs H Q E h=>?_) (λcdv A outer s H vs Q E Z h=>?_)
 ·obtain⟨fx,sm,os,nm,d,v,rfl,_⟩:=h;rfl
 ·obtain⟨fx,sm,os,nm,d,v,rfl,t,q⟩:=h;have hu:=Z.units
  refine⟨_,(aC (bL (PW.pt (jR (aV K rfl (aL aK rfl T.n_isinstance rfl (aA (pv 1) (aA (bR (v:=V.ty "tuple") rfl T.n_tuple rfl rfl) aB))) (λ_=>rfl)) (jL (aQ (dQ hu) (bC bW (pv 1) aF (λ_ _=>rfl)) (pv 0) (nomark _))))) (aC (aU (i:=2) jP.nd rfl (Or.inl rfl) (bQ aB))
   (aC (fB di rfl (cQ K rfl (dX iT (pv 1) (cM aF) c5)) (bA (i:=3) jP.nd rfl (Or.inl rfl)) (aH (bZ (fI df PySem.F.slot_list_extend PySem.F.type_list_extend iH (pv 2) (aA (aM a (Z.mono (by omega)) pass0 rfl (aA (pv 0) (aA (pv 3) aB))) aB)))))
   (aH (aN (pv 2))))) aR)
   (aH (aN (bQ (aA (pv 1) aB))))),?_⟩
  try dsimp only[cxOf,Cx.nox]
  clear Z F T hu a;simp only[dF,eM];obtain⟨rep,fl,tm,lv,dp⟩:=t;have one:prt nm d=[d]->tSeq tNext (tRet (tLst (tCons (tVar 1) tNil))) {nx:=λ_ H'=>Q .non H',rt:=Q} [some (.str nm),some v,none,none] H:=λe=>by refine⟨_,rfl,show 1<=sizeLine by decide,λl hl=>q l [v] _ (aD.upd hl) hl upd_same ?_⟩;rw[e];exact⟨v,[],rfl,aZ.same (aD.upd hl) rep,rfl⟩
  rcases qX fl rep with⟨x,rfl,rfl⟩|⟨m,ds,U,g,rfl,rfl,r,G,u⟩
  ·exact⟨_,rfl,.str x,.ty "tuple",false,rfl,rfl,false,rfl,one (jM _ _)⟩
  obtain⟨hh,B,l1,l2,el,ed⟩:=qF tm;have lr:=Reps.len G;refine⟨_,rfl,.ref U,.ty "tuple",true,rfl,J8 r,true,rfl,?_⟩;refine⟨_,rfl,.str m,by rw[ixV_t r,atI_zero],_,rfl,.str m,.str nm,rfl,rfl,au _,_,rfl,bX (λc=>?_) (λc=>?_)⟩
  rotate_left
  ·have c:(m == nm)=false:=c;exact one (lZ (ne_of_beq_false c) ds)
  have c:(m == nm)=true:=c;obtain rfl:=eq_of_beq c;rw[mB]at q;clear one c;refine⟨show 0<=sizeLine by decide,λl hl=>?_⟩;have X:aD H (upd H l (.lst [])):=aD.upd hl;have r1:upd H l (.lst []) l=some (.lst []):=upd_same;change tSeq _ _ _ _ (upd H l (.lst []));generalize upd H l (.lst [])=H1 at X r1⊢;have j:=X _ _ r;refine⟨_,rfl,(1:Int),rfl,U,_,rfl,.inr j,λ_ z=>by have:=z.1;simp[HT.sIx]at this,λp o hp ho=>?_⟩;obtain⟨rfl,_⟩:=ho.resolve_left λz=>by rw[j]at z;exact nomatch z.2
  rw[gT];refine⟨p,g,rfl,.inr upd_same,λJ hJ=>?_⟩;have s2:aD H1 (upd H1 p (.tup g)):=aD.upd hp;have Y:upd H1 p (.tup g) p=some (.tup g):=upd_same;generalize upd H1 p (.tup g)=H2 at s2 Y hJ⊢;refine gQ hJ (λi σ N=>TL m (.ref U) l ds H i σ N/\N p=some (.tup g)) ⟨⟨[],none,rfl,X.trans s2,s2 _ _ r1,rfl⟩,Y⟩ (λi σ H' _ h=>by rw[h.2,Y]) ?_ ?_
  ·rintro i x σ N hx ⟨⟨us,o3,rfl,R,S,C⟩,I⟩;obtain⟨e,he,re⟩:=Reps.get G hx;obtain⟨f1,f2,f3,f4⟩:=nA u B he;have lu:=Reps.len C;have lt1:=zL (n:=m) (wI u i) (mL λd hd=>dE B d (List.mem_of_mem_take hd));have lt2:lvss (ds.take i)<=lvss ds:=by have:=mJ (ds.take i) (ds.drop i);rw[List.take_append_drop]at this;omega
   refine⟨_,rfl,.inl ⟨rfl,_,dN.of S⟩,_,rfl,_,rfl,depD e,by omega,fx,sm,os,m,e,x,rfl,⟨aZ.same R re,f1,f2,by omega,ac _⟩,λl2 zs H4 O hl2 h4 rz=>?_⟩;have lz:=Reps.len rz;have lp:=d5 (IT (n:=m) f1 f2);rw[tQ f1]at lp;have L:=O _ _ S;refine⟨l,l2,us,zs,rfl,rfl,L,.inl h4,ao (m:=300) (by omega) (by decide),?_⟩;have W:aX H4 (upd H4 l (.lst (us++zs))):=aX.lst L;refine⟨⟨_,_,rfl,λb o eb=>by rw[aE (aG eb hl)];exact O _ _ (R _ _ eb),upd_same,?_⟩,W _ _ (O _ _ I)⟩;rw[bD he,zM,show prts m [e]=prt m e by rw[prts,prts,bn]];exact Reps.append (Reps.tups W (DS (wI u i)) (Reps.same O C)) (Reps.tups W (eD λy hy=>(xN f1 y hy).1) rz)
  ·rintro σ N ⟨⟨us,o3,rfl,R,S,C⟩,I⟩;rw[lr,bw]at C;exact⟨_,rfl,q l us N R hl S C⟩
theorem MQ {f:Addr}{a:FuncData}(F:gG K "_law_parts" "_law_parts" fZ f a)(T:Txt mg)(hm:mg "_law_parts" = some (.ref f))(b:PySem.W.keepIn K (.ref f)=true)(c:eN K a k9 [])(n:Nat):dP P w K mg base bN (n+2) "_law_parts" (spPrt n):=mX hm b c (λn O=>PZ n F T O) n
def spMix:Sp:=λvs H Q _=>∃(p b:Addr) (es:List D) (xs:List V),vs=[.ref p,.ref b]/\aP H p/\H b=some (.lst xs)/\Reps H es xs/\Fls es/\depDs es<=59/\es.length<=100 /\
 ∀(l:Addr) (ys:List V) (fs:List D) (H':Hp),cG p H H'->aP H' p->H l=none->H' l=some (.lst ys)->Reps H' fs ys->fs.Perm es->Q (.ref l) H'
structure TY (p la lf:Addr)(es:List D)(H:Hp)(n:Nat)(H1:Hp):Prop where
 bt:cG p H H1
 pt:aP H1 p
 ex:∃us ws ls fs,H1 la=some (.lst us)/\H1 lf=some (.lst ws)/\Reps H1 ls us/\Reps H1 fs ws/\Fls ls/\Fls fs/\(fs++ls).Perm es/\ls.length=n
def TZ (p b a lf:Addr)(es:List D)(H:Hp)(n:Nat)(σ:St)(c:Hp):Prop:=σ=[some (.ref p),some (.ref b),some (.ref a),some (.ref lf)]/\TY p a lf es H n c
theorem Reps.erase {H:Hp}:∀{ds:List D} {vs:List V} (i:Nat),Reps H ds vs->Reps H (ds.eraseIdx i) (vs.eraseIdx i)
 | [],_,_,h=>by cases (show _=[]from h);exact rfl
 | _::_,_,0,⟨_,_,e,_,b⟩=>by subst e;exact b
 | _::_,_,i+1,⟨v,_,e,a,b⟩=>by subst e;exact⟨v,_,rfl,a,Reps.erase i b⟩
theorem perm_erase {α:Type}:∀{l:List α} {i:Nat} {x:α},l[i]?=some x->(x::l.eraseIdx i).Perm l
 | _::_,0,_,h=>by cases h;exact .refl _
 | a::l,i+1,x,h=>by have:=perm_erase (l:=l) (i:=i) (x:=x) (by simpa using h);exact(List.Perm.swap a x _).trans (this.cons a)
theorem P0 {f:Addr}{fd:FuncData}(F:gG K "_law_mixed" "_law_mixed" iG f fd)(T:Txt mg)(a:dP P w K mg base bN 1 "_law_take" fP):bY P w K mg base bN 2 f fd pW spMix:=by
 refine F.ok jQ (λvs H Q E h=>?_) (λcdv A outer s H vs Q E hr h=>?_)
 ·obtain⟨p,b,es,xs,rfl,_⟩:=h;rfl
 ·obtain⟨p,b,es,xs,rfl,pt,hb,res,fes,d59,e100,q⟩:=h;have Y:=hr.units
  refine⟨_,(aC (aU (i:=2) jQ.nd rfl (Or.inl rfl) (cB oK rfl T.n_list rfl (aA (pv 1) aB)))
   (aC (aU (i:=3) jQ.nd rfl (Or.inl rfl) (bQ aB))
   (aC (iX di (aQ (oE Y) (pv 2) (bQ aB) (nomark _)) (aH (bZ (fI df dh dg eI (pv 3) (aA (fI df PySem.F.slot_list_pop PySem.F.type_list_pop JX (pv 2) (aA (aM a (hr.mono (by decide)) pass0 rfl (aA (pv 0) (aA (aL bK rfl T.n_len rfl (aA (pv 2) aB)) aB))) aB)) aB)))))
   (aH (aN (pv 3)))))),?_⟩
  try dsimp only[cxOf,Cx.nox]
  clear hr F T Y a;refine⟨_,rfl,_,xs,rfl,seqV_l hb,λg v=>?_⟩;have s1:aD H (upd H g (.lst xs)):=aD.upd v;have r1:upd H g (.lst xs) g=some (.lst xs):=upd_same;have p1:aP (upd H g (.lst xs)) p:=pt.but (pt.ne v);change tSeq _ _ _ _ (upd H g (.lst xs));generalize upd H g (.lst xs)=H1 at s1 r1 p1⊢;refine⟨show 0<=sizeLine by decide,λlf j=>?_⟩;have s2:aD H1 (upd H1 lf (.lst [])):=aD.upd j;have r2:upd H1 lf (.lst []) lf=some (.lst []):=upd_same;have p2:aP (upd H1 lf (.lst [])) p:=p1.but (p1.ne j);change tSeq _ _ _ _ (upd H1 lf (.lst []));generalize upd H1 lf (.lst [])=H2 at s2 r2 p2⊢;have X:H lf=none:=by cases e:H lf with|none=>rfl|some o=>rw[s1 _ _ e]at j;cases j
  have U:p≠g:=pt.ne v;have S:p≠lf:=p1.ne j;have W:g≠lf:=λz=>by rw[←z,r1]at j;cases j
  have N:=s1.trans s2;refine n6 (TZ p b g lf es H) es.length ⟨rfl,N.but,p2,xs,[],es,[],s2 _ _ r1,r2,Reps.same N res,rfl,fes,trivial,.refl _,rfl⟩ ?_;rintro n σ H3 ⟨rfl,b3,p3,us,L,l,fs,h1,h2,t,C,fls,ffs,O,rfl⟩ R hT hF;have lu:=Reps.len t;have lw:=Reps.len C;have lp:=O.length_eq;rw[aq]at lp;have dls:depDs l<=59:=j9 λd hd=>ao (pR (O.mem_iff.mp (bz _ hd))) d59;refine⟨_,rfl,show 0<=sizeLine by decide,λz hz=>⟨.lst l,.lst [],⟨g,us,rfl,by rw[aE (aG h1 hz)];exact h1,Reps.same (aD.upd hz) t⟩,⟨z,[],rfl,upd_same,rfl⟩,by rw[depD];omega,_,rfl,?_⟩⟩;have r:aD H3 (upd H3 z (.lst [])):=aD.upd hz;have p4:aP (upd H3 z (.lst [])) p:=p3.but (p3.ne hz);generalize upd H3 z (.lst [])=H4 at r p4⊢;cases l with
  | nil =>
   rw[bn]at O;exact hF _ ⟨_,rfl,q lf L fs H4 (λc o nc J=>r _ _ (b3 c o nc J)) p4 X (r _ _ h2) (Reps.same r C) O⟩
  | cons e0 ls0 =>
   generalize he:e0::ls0=l at *;have l0:0<l.length:=by rw[←he];simp
   have e4:(!eqD (.lst l) (.lst []))=true:=by rw[←he];rfl
   rw[e4];refine hT _ ?_;have I:=r _ _ h1;refine⟨_,rfl,.inl ⟨rfl,_,dN.of (r _ _ h2)⟩,_,rfl,.inl ⟨rfl,_,dN.of I⟩,_,rfl,_,rfl,_,_,rfl,(by dsimp only;rw[lenV_l I,lu];rfl),p,l.length,rfl,p4,by omega,by omega,λi x y i0 i1=>?_⟩;obtain⟨i,rfl⟩:∃k:Nat,i=(k:Int):=⟨i.toNat,by omega⟩
   have li:i<l.length:=by omega
   have b5:cG p H4 (upd H4 p (.lst [.int x,.int y])):=cG.upd _ _ _;have p5:aP (upd H4 p (.lst [.int x,.int y])) p:=⟨_,_,upd_same⟩
   have t5:=aX.ofBut b5 p4;generalize upd H4 p (.lst [.int x,.int y])=H5 at b5 p5 t5⊢;have h15:=b5 _ _ U.symm I;have h25:=b5 _ _ S.symm (r _ _ h2);obtain⟨u,Y⟩:∃u,us[i]?=some u:=⟨_,aw (by omega)⟩
   obtain⟨e,Z,re⟩:=Reps.get t Y;have fe:=bM fls e (bi Z);refine⟨g,us,(i:Int),i,u,rfl,rfl,h15,by omega,by omega,by rw[seqIndex_of (by omega) (by omega),cq],Y,?_⟩;have t6:aX H5 (upd H5 g (.lst (us.eraseIdx i))):=aX.lst h15;have r6:upd H5 g (.lst (us.eraseIdx i)) g=some (.lst (us.eraseIdx i)):=upd_same;have G:upd H5 g (.lst (us.eraseIdx i)) lf=some (.lst L):=by rw[aE W.symm];exact h25
   have p6:aP (upd H5 g (.lst (us.eraseIdx i))) p:=by obtain⟨c,d,ep⟩:=p5;exact⟨c,d,by rw[aE U];exact ep⟩
   have b6:cG p H (upd H5 g (.lst (us.eraseIdx i))):=λc o nc J=>by rw[aE (aG J v)];exact b5 _ _ nc (r _ _ (b3 c o nc J))
   generalize upd H5 g (.lst (us.eraseIdx i))=H6 at t6 r6 G p6 b6⊢;refine⟨lf,L,u,rfl,rfl,G,aj (m:=100) (by omega) (by decide),?_⟩;have t7:aX H6 (upd H6 lf (.lst (L++[u]))):=aX.lst G;have B:=(aX.of r).trans (t5.trans (t6.trans t7));have fer:Fls (l.eraseIdx i):=eD λd hd=>bM fls d (List.mem_of_mem_eraseIdx hd);refine⟨(l.eraseIdx i).length,by rw[List.length_eraseIdx_of_lt li];omega,rfl,λc o nc J=>by rw[aE (aG J X)];exact b6 c o nc J,by obtain⟨c,d,ep⟩:=p6;exact⟨c,d,by rw[aE S];exact ep⟩,us.eraseIdx i,L++[u],l.eraseIdx i,fs++[e],by rw[aE W];exact r6,upd_same,Reps.tups B fer (Reps.erase i t),Reps.snoc (aZ.tups B fe re) (Reps.tups B ffs C),fer,eD λd hd=>?_,?_,rfl⟩
   ·rcases cx.mp hd with m|m
    ·exact bM ffs d m
    ·cases cs.mp m;exact fe
   ·rw[cp,List.singleton_append];exact((perm_erase Z).append_left fs).trans O
def spBrk:Sp:=λvs H Q _=>∃(p b:Addr) (fx:cH) (sm:bH) (os:aS) (nm z:Str) (m L:Nat) (X es:List D) (xs:List V),vs=[.ref p,.str nm,.ref b]/\aP H p/\H b=some (.lst xs)/\Reps H es xs/\bF fx sm/\(∀x∈os,c4 x)/\zr sm nm=some z/\nm∈sm.map (·.1)/\Bq fx sm os nm z m L X es/\2<=es.length/\es.length<=100 /\
 ∀(v:V) (us:List D) (H':Hp),cG p H H'->aP H' p->aZ H' (.tup (.str nm::us)) v->Bq fx sm os nm z m L X us->2<=us.length->Q v H'
structure UR (fx:cH)(sm:bH)(os:aS)(nm z:Str)(m L:Nat)(X:List D)(p la:Addr)(H:Hp)(n:Nat)(H1:Hp):Prop where
 bt:cG p H H1
 pt:aP H1 p
 ex:∃us ls,H1 la=some (.lst us)/\Reps H1 ls us/\Bq fx sm os nm z m L X ls/\2<=ls.length/\ls.length=n/\n<=100
def US (c:cH)(sm:bH)(os:aS)(nm z:Str)(m L:Nat)(X:List D)(p a:Addr)(H:Hp)(n:Nat)(σ:St)(d:Hp):Prop:=(∃b:Option V,σ=[some (.ref p),some (.str nm),some (.ref a),b])/\UR c sm os nm z m L X p a H n d
theorem split2 {α:Type}{l:List α}{i:Nat}(h:i+1<l.length):∃a b,l[i]?=some a/\l[i+1]?=some b/\l=l.take i++a::b::l.drop (i+2):=by refine⟨l[i],l[i+1],aw _,aw _,?_⟩;rw[←List.drop_eq_getElem_cons h,←List.drop_eq_getElem_cons (by omega),List.take_append_drop]
theorem Reps.take {H:Hp}:∀{ds:List D} {vs:List V} (i:Nat),Reps H ds vs->Reps H (ds.take i) (vs.take i)
 | [],_,i,h=>by cases (show _=[]from h);simp;rfl
 | _::_,_,0,_=>by simp;rfl
 | _::_,_,i+1,⟨v,_,e,a,b⟩=>by subst e;exact⟨v,_,rfl,a,Reps.take i b⟩
theorem Reps.drop {H:Hp}:∀{ds:List D} {vs:List V} (i:Nat),Reps H ds vs->Reps H (ds.drop i) (vs.drop i)
 | [],_,i,h=>by cases (show _=[]from h);simp;rfl
 | _::_,_,0,h=>h
 | _::_,_,i+1,⟨v,_,e,a,b⟩=>by subst e;exact Reps.drop i b
theorem P8 {f:Addr}{fd:FuncData}(F:gG K "_law_bracketed" "_law_bracketed" eZ f fd)(T:Txt mg)(g:dP P w K mg base bN 1 "_law_take" fP):bY P w K mg base bN 2 f fd kB spBrk:=by
 refine F.ok fW (λvs H Q E h=>?_) (λcdv A outer s H vs Q E hr h=>?_)
 ·obtain⟨p,b,fx,sm,os,nm,z,m,L,X,es,xs,rfl,_⟩:=h;rfl
 ·obtain⟨p,b,fx,sm,os,nm,z,m,L,X,es,xs,rfl,pt,hb,res,so,ho,hz,hn,bq,l2,e100,q⟩:=h;have hu:=hr.units
  refine⟨_,(aC (aU (i:=2) fW.nd rfl (Or.inl rfl) (cB oK rfl T.n_list rfl (aA (pv 2) aB)))
   (aC (iX di (PW.pt (jR (aQ tO (aL bK rfl T.n_len rfl (aA (pv 2) aB)) aF (nomark _)) (jL (aQ tO (aM g (hr.mono (by decide)) pass0 rfl (aA (pv 0) (aA aF aB))) aF (nomark _))))) (aC (aU (i:=3) fW.nd rfl (Or.inl rfl) (aM g (hr.mono (by decide)) pass0 rfl (aA (pv 0) (aA (bG fC (aL bK rfl T.n_len rfl (aA (pv 2) aB)) aF) aB))))
   (aH (gB (bQ (aA (bE (aA (pv 1) (aA (bC bW (pv 2) (pv 3) (λ_ _=>rfl)) (aA (bC bW (pv 2) (bG bT (pv 3) aF) (λ_ _=>rfl)) aB)))) aB)) (FX (pv 2) (cM (pv 3)) (cM (bG bT (pv 3) aF)))))))
   (aH (aN (bG bT (bE (aA (pv 1) aB)) (cB dM rfl T.n_tuple rfl (aA (pv 2) aB))))))),?_⟩
  try dsimp only[cxOf,Cx.nox]
  clear hr F T hu g;refine⟨_,rfl,_,xs,rfl,seqV_l hb,λt G=>?_⟩;have s1:aD H (upd H t (.lst xs)):=aD.upd G;have r1:upd H t (.lst xs) t=some (.lst xs):=upd_same;have p1:aP (upd H t (.lst xs)) p:=pt.but (pt.ne G);change tSeq _ _ _ _ (upd H t (.lst xs));generalize upd H t (.lst xs)=H1 at s1 r1 p1⊢;have v:p≠t:=pt.ne G;refine n6 (US fx sm os nm z m L X p t H) es.length ⟨⟨none,rfl⟩,s1.but,p1,xs,es,r1,Reps.same s1 res,bq,l2,rfl,e100⟩ ?_;rintro n σ H3 ⟨⟨o3,rfl⟩,b3,p3,us,u,h3,W,I,l23,rfl,n100⟩ R hT hF;have lu:=Reps.len W;have fin:∀r,cG p H3 r->aP r p->R false r:=λr J p4=>by
   have h4:=J _ _ v.symm h3;have r4:=Reps.tups (aX.ofBut J p3) I.fl W;refine hF _ ⟨_,rfl,show 1<=sizeLine by decide,λt1 B=>⟨_,rfl,t,us,rfl,.inl (by rw[aE (aG h4 B)];exact h4),λt2 S hc=>?_⟩⟩;have s5:aD r (upd r t1 (.tup [.str nm])):=aD.upd B;have Y:upd r t1 (.tup [.str nm]) t1=some (.tup [.str nm]):=upd_same;have O:=s5 _ _ h4;generalize upd r t1 (.tup [.str nm])=H4' at s5 Y O hc;rcases hc with⟨hc,_⟩|⟨_,ht2,rfl⟩
   ·rw[O]at hc;cases hc
   have N:aD H4' (upd H4' t2 (.tup us)):=aD.upd ht2;have r6:upd H4' t2 (.tup us) t2=some (.tup us):=upd_same;have une:us≠[]:=λz=>by rw[z]at lu;simp at lu;omega
   refine .inr ⟨_,FA (N _ _ Y) r6 (ao (m:=300) (by simp;omega) (by decide)) (by simp) une,λt3 ht3=>?_⟩;generalize upd H4' t2 (.tup us)=S at N r6 ht3⊢;have s7:aD S (upd S t3 (.tup ([.str nm]++us))):=aD.upd ht3;have U:=(s5.trans N).trans s7;refine q _ u _ ((b3.trans J).trans U.but) ?_ ⟨t3,_,rfl,upd_same,.str nm,us,rfl,rfl,Reps.same U r4⟩ I l23;obtain⟨c,d,ep⟩:=p4;exact⟨c,d,U _ _ ep⟩
  refine⟨_,rfl,_,_,rfl,(by dsimp only;rw[lenV_l h3,lu];rfl),_,_,rfl,rfl,_,rfl,bX (λc=>?_) (λ_=>fin H3 (cG.refl _ _) p3)⟩;have l3:2<u.length:=by have:=bu c;omega
  refine⟨_,rfl,p,3,rfl,p3,by decide,by decide,λi0 x0 y0 _ _=>?_⟩;have J:cG p H3 (upd H3 p (.lst [.int x0,.int y0])):=cG.upd _ _ _;have p4:aP (upd H3 p (.lst [.int x0,.int y0])) p:=⟨_,_,upd_same⟩
  generalize upd H3 p (.lst [.int x0,.int y0])=r at J p4⊢;refine⟨_,_,rfl,rfl,_,rfl,?_⟩;cases hd:decide (i0 > 0)with
  | false=>exact fin r J p4
  | true =>
   refine hT _ ?_;have h4:=J _ _ v.symm h3;have t4:=aX.ofBut J p3;refine⟨_,rfl,_,rfl,_,_,rfl,(by dsimp only;rw[lenV_l h4,lu];rfl),_,_,rfl,rfl,p,((u.length:Int) - 1),rfl,p4,by omega,by omega,λi x y i0 i1=>?_⟩;obtain⟨i,rfl⟩:∃k:Nat,i=(k:Int):=⟨i.toNat,by omega⟩
   have b5:cG p r (upd r p (.lst [.int x,.int y])):=cG.upd _ _ _;have p5:aP (upd r p (.lst [.int x,.int y])) p:=⟨_,_,upd_same⟩
   have t5:=aX.ofBut b5 p4;generalize upd r p (.lst [.int x,.int y])=S at b5 p5 t5⊢;have O:=b5 _ _ v.symm h4;have Y:=Reps.tups (t4.trans t5) I.fl W;obtain⟨a,c,ha,hc,hs⟩:=split2 (l:=u) (i:=i) (by omega);obtain⟨ua,hua,ra⟩:=Reps.get' Y ha;obtain⟨uc,huc,rc⟩:=Reps.get' Y hc;refine⟨_,rfl,_,rfl,_,rfl,ua,by rw[ixV_l O];exact iJ hua,_,rfl,_,rfl,.inl ⟨_,rfl,uc,by rw[ixV_l O];exact iJ huc,show 3<=sizeLine by decide,λt1 B=>⟨show 1<=sizeLine by decide,λZ C=>?_⟩⟩⟩;have N:aD S (upd S t1 (.tup [.str nm,ua,uc])):=aD.upd B;have r6:upd S t1 (.tup [.str nm,ua,uc]) t1=some (.tup [.str nm,ua,uc]):=upd_same;generalize upd S t1 (.tup [.str nm,ua,uc])=H6 at N r6 C⊢;have s7:aD H6 (upd H6 Z (.lst [.ref t1])):=aD.upd C;have r7:upd H6 Z (.lst [.ref t1]) Z=some (.lst [.ref t1]):=upd_same;have nq:t≠Z:=λe=>by rw[←e,N _ _ O]at C;cases C
   have p7:aP (upd H6 Z (.lst [.ref t1])) p:=by obtain⟨c,d,ep⟩:=p5;exact⟨c,d,s7 _ _ (N _ _ ep)⟩
   generalize upd H6 Z (.lst [.ref t1])=H7 at s7 r7 p7⊢;have j:=N.trans s7;refine⟨_,rfl,_,rfl,(i:Int),rfl,_,rfl,.inl ⟨_,rfl,(i:Int)+2,rfl,t,us,Z,[.ref t1],rfl,rfl,nq,j _ _ O,r7,ao (m:=300) (by simp;omega) (by decide),?_⟩⟩;have hsp:splV us (some (i:Int)) (some ((i:Int)+2)) [.ref t1]=us.take i ++ .ref t1::us.drop (i+2):=by unfold splV;rw[show(i:Int)+2=((i+2:Nat):Int)by omega,HT.sIx_nat,HT.sIx_nat,Nat.min_eq_left (by omega),Nat.min_eq_left (by omega),Nat.max_eq_right (by omega),cp];rfl
   rw[hsp];have t8:aX H7 (upd H7 t (.lst (us.take i ++ .ref t1::us.drop (i+2)))):=aX.lst (j _ _ O);have bq4:=I;rw[hs]at bq4;have bq5:=bq4.brk so ho hz hn;have ll:(u.take i ++ .tup [.str nm,a,c]::u.drop (i+2)).length=u.length - 1:=by rw[aq,ap,bv,bx];omega
   refine⟨u.length - 1,by omega,⟨_,rfl⟩,λc o nc ec=>by rw[aE (aG ec G)];exact j _ _ (b5 _ _ nc (J _ _ nc (b3 c o nc ec))),by obtain⟨c,d,ep⟩:=p7;exact⟨c,d,by rw[aE v];exact ep⟩,_,u.take i ++ .tup [.str nm,a,c]::u.drop (i+2),upd_same,?_,bq5,by omega,ll,by omega⟩;refine Reps.tups t8 bq5.fl (Reps.append (Reps.take i (Reps.same j Y)) ⟨_,_,rfl,⟨t1,_,rfl,s7 _ _ r6,_,_,rfl,rfl,ua,_,rfl,aZ.same j ra,uc,[],rfl,aZ.same j rc,rfl⟩,Reps.drop (i+2) (Reps.same j Y)⟩)
noncomputable def dK31 (sm:bH):HO:=.dK (sm.map λr=>(.inr r.1,V.str r.2))
theorem KW {sm:bH}{H:Hp}{dn:Addr}{n z:Str}(h:H dn=some (dK31 sm))(hz:zr sm n=some z):lL H dn (.str n) (some (.str z)):=by have:=lL.k (k:=.inr n) h;rw[w8,hz]at this;exact this
def xI (n:Nat):Sp:=λvs H Q _=>∃(p dn a:Addr) (fx:cH) (sm:bH) (os:aS) (d:D) (v:V) (k:Nat),vs=[.ref p,.ref dn,v,.ref a]/\aP H p/\H dn=some (dK31 sm)/\H a=some (.lst [.int (k:Int)])/\p≠a/\bF fx sm/\(∀x∈os,c4 x)/\Tq fx sm os n d v H/\depD d<=11/\lvs d+k<=40 /\
 ∀(e:D) (v':V) (k':Nat) (H':Hp),K2 p a H H'->aP H' p->H' a=some (.lst [.int (k':Int)])->k'<=k->aZ H' e v'->HC fx sm os d e->lvs e+k'=lvs d+k->Q v' H'
theorem K2.dk {a b dn:Addr}{H H':Hp}{sm:bH}(h:K2 a b H H'){xs c:List V}(e:H a=some (.lst xs))(d:H b=some (.lst c))(hd:H dn=some (dK31 sm)):H' dn=some (dK31 sm):=h dn _ (λz=>by rw[z,e]at hd;cases hd) (λz=>by rw[z,d]at hd;cases hd) hd
def TF (p dn c:Addr)(f:cH)(sm:bH)(os:aS)(ds:List D)(k:Nat)(q0:Addr)(b:List V)(H:Hp)(i:Nat)(d:List V)(σ:St)(a:Hp):Prop:=∃(e:Option V) (es:List D) (k1:Nat),σ=[e,some (.ref p),some (.ref dn),some (.ref c)]/\K2 p c H a/\aP a p/\a c=some (.lst [.int (k1:Int)])/\k1<=k/\Reps a es d/\sC f sm os (ds.take i) es/\lvss es+k1=lvss (ds.take i)+k/\a q0=some (.tup b)
structure TC (p dn mo lr:Addr)(fx:cH)(sm:bH)(os:aS)(nm z:Str)(m tot k:Nat)(X:List D)(H:Hp)(n:Nat)(H1:Hp):Prop where
 k2:K2 p mo H H1
 pt:aP H1 p
 hm:H1 mo=some (.lst [.int (n:Int)])
 le:n<=k
 ex:∃us rs L,H1 lr=some (.lst us)/\Reps H1 rs us/\Bq fx sm os nm z m L X rs/\L+n=tot/\2<=rs.length
def TD (p dn b c:Addr)(v pv:V)(d:cH)(sm:bH)(os:aS)(nm z:Str)(m a k:Nat)(X:List D)(H:Hp)(n:Nat)(σ:St)(e:Hp):Prop:=σ=[some (.ref p),some (.ref dn),some v,some (.ref b),some pv,some (.str nm),some (.ref c)]/\TC p dn b c d sm os nm z m a k X H n e
theorem zK {n:Str}{h:cH}{sm:bH}{os:aS}:∀{ds:List D},Fls ds->IsTms h sm os ds->ds.length<=(prts n ds).length
 | [],_,_=>ac _
 | d::ds,⟨f,g⟩,⟨a,b⟩=>by
  have l:=zK (n:=n) g b;have c:=tQ (n:=n) f;have j:=lQ a;have i:1<=(prt n d).length:=by
   cases e:prt n d with
   | nil=>rw[e,lvss]at c;omega
   | cons _ _=>simp
  rw[prts,aq,ap];omega
theorem M8 {f:Addr}{fd:FuncData}(n:Nat)(F:gG K "_law_shuffled" "_law_shuffled" dC f fd)(T:Txt mg)(r:dP P w K mg base bN 1 "_law_take" fP)(u:dP P w K mg base bN 53 "_law_parts" (spPrt 51))(B:dP P w K mg base bN 2 "_law_mixed" spMix)(g:dP P w K mg base bN 2 "_law_bracketed" spBrk)(j:dP P w K mg base bN (n+53) "_law_shuffled" (λvs H Q E=>∃m,m<n/\xI m vs H Q E)):bY P w K mg base bN (n+53+1) f fd h9 (xI n):=by
 refine F.ok eX (λvs H Q E h=>?_) (λcdv A outer s H vs Q E hr h=>?_)
 ·obtain⟨p,dn,G,fx,sm,os,d,v,k,rfl,_⟩:=h;rfl
 ·obtain⟨p,dn,G,fx,sm,os,d,v,k,rfl,pt,hdn,hmo,I,so,ho,t,d11,l40,q⟩:=h;have hu:=hr.units
  refine⟨_,(aC (bL (aV K rfl (aL aK rfl T.n_isinstance rfl (aA (pv 2) (aA (bR (v:=V.ty "str") rfl T.n_str rfl rfl) aB))) (λ_=>rfl)) (aH (aN (pv 2))) aR)
   (aC (gM (i:=4) eX.nd rfl rfl rfl rfl (bJ.by (N:=iC) (names:=(aJ dC).names) (N':=["_law_part","_law_state","_law_noughts","_law_more"]) (src:=[none,some 0,some 1,some 3]) (by decide +kernel) rfl rfl) (cQ K rfl (dX iT (pv 2) (cM aF) c5)) (λ_ _ _ _=>(bA (i:=0) (show List.Nodup (["_law_part","_law_state","_law_noughts","_law_more"]:aS)by decide +kernel) rfl (Or.inl rfl))) (λ_ _ _ _=>cV) (λ_ _ _ _=>(aM j (hr.mono (by omega)) pass0 rfl (aA (pv 1) (aA (pv 2) (aA (pv 0) (aA (pv 3) aB)))))))
   (aC (aU (i:=5) eX.nd rfl (Or.inl rfl) (bC bW (pv 2) aF (λ_ _=>rfl)))
   (aC (bL (aQ (B5 hu) (pv 5) (pv 1) (by with_unfolding_all rfl)) (aH (aN (bG bT (bE (aA (pv 5) aB)) (cB dM rfl T.n_tuple rfl (aA (pv 4) aB))))) aR)
   (aC (aU (i:=6) eX.nd rfl (Or.inl rfl) (aM B (hr.mono (by omega)) pass0 rfl (aA (pv 0) (aA (aM u (hr.mono (by omega)) pass0 rfl (aA (pv 5) (aA (bG bT (bE (aA (pv 5) aB)) (cB dM rfl T.n_tuple rfl (aA (pv 4) aB))) aB))) aB))))
   (aC (iX di (PW.pt (jR (aQ (oE hu) (DY (aj (bS (by decide) _) hu) (pv 1) (pv 5) (λ_ _=>rfl)) cJ (nomark _)) (jR (aQ tO (bC bW (pv 3) aF (λ_ _=>rfl)) aF (nomark _)) (jL (aQ (dQ hu) (aM r (hr.mono (by omega)) pass0 rfl (aA (pv 0) (aA aF aB))) aF (nomark _)))))) (aC (gB (bG fC (bC bW (pv 3) aF (λ_ _=>rfl)) aF) (xT (pv 3) aF oZ))
   (aH (bZ (fI df PySem.F.slot_list_insert PySem.F.type_list_insert GF (pv 6) (aA (aM r (hr.mono (by omega)) pass0 rfl (aA (pv 0) (aA (bG bT (aL bK rfl T.n_len rfl (aA (pv 6) aB)) aF) aB))) (aA (DY (aj (bS (by decide) _) hu) (pv 1) (pv 5) (λ_ _=>rfl)) aB)))))))
   (aH (aN (aM g (hr.mono (by omega)) pass0 rfl (aA (pv 0) (aA (pv 5) (aA (pv 6) aB)))))))))))),?_⟩
  try dsimp only[cxOf,Cx.nox]
  clear hr F T hu r u B g j;simp only[dF];obtain⟨rep,fl,tm,lv,dp⟩:=t;rcases qX fl rep with⟨x,rfl,rfl⟩|⟨nm,ds,va,L,rfl,rfl,hva,rds,fds⟩
  ·exact⟨_,rfl,.str x,.ty "str",true,rfl,rfl,true,rfl,_,rfl,q (.str x) _ k H (λ_ _ _ _ e=>e) pt hmo (ac _) rfl (.leaf tm fl) rfl⟩
  obtain⟨hh,tms,l1,l2,el,ed⟩:=qF tm;have lr:=Reps.len rds;rw[el]at l40;rw[ed]at d11 dp;refine⟨_,rfl,.ref va,.ty "str",false,rfl,gC hva,false,rfl,?_⟩;refine⟨_,rfl,(1:Int),rfl,va,_,rfl,.inr hva,λ_ z=>by have:=z.1;simp[HT.sIx]at this,λq0 o hq0 ho0=>?_⟩;obtain⟨rfl,_⟩:=ho0.resolve_left λz=>by rw[hva]at z;exact nomatch z.2
  rw[gT];refine⟨q0,L,rfl,.inr upd_same,λJ hJ=>?_⟩;have s0:aD H (upd H q0 (.tup L)):=aD.upd hq0;have r0:upd H q0 (.tup L) q0=some (.tup L):=upd_same;generalize upd H q0 (.tup L)=H0 at s0 r0 hJ⊢;have pt0:aP H0 p:=by obtain⟨a,b,e⟩:=pt;exact⟨a,b,s0 _ _ e⟩
  have mo0:=s0 _ _ hmo;have dn0:=s0 _ _ hdn;refine cU hJ (TF p dn G fx sm os ds k q0 L H0) ⟨none,[],k,rfl,λ_ _ _ _ e=>e,pt0,mo0,ac _,rfl,.nil,rfl,r0⟩ (λi C σ H' _ ⟨_,_,_,_,_,_,_,_,_,_,_,h⟩=>by rw[h,r0]) ?_ ?_
  ·rintro i x C σ H1 hx ⟨o0,es,k1,rfl,k2,p1,m1,kk,res,sa,bal,hq1⟩;obtain⟨e,he,re⟩:=Reps.get rds hx;obtain⟨f1,f2,f3,f4⟩:=nA fds tms he;obtain⟨a0,b0,ep0⟩:=pt0;have t01:=k2.tups ep0 mo0;have fes:=sa.facts;have lac:=Reps.len res;have l3:=d5 fes.1;have take1:lvss (ds.take (i+1))=lvss (ds.take i)+lvs e:=by rw[bD he,nC]
   have take2:lvss (ds.take (i+1))<=lvss ds:=by have:=mJ (ds.take (i+1)) (ds.drop (i+1));rw[List.take_append_drop]at this;omega
   refine⟨_,rfl,_,rfl,_,rfl,_,rfl,depD e,by omega,p,dn,G,fx,sm,os,e,x,k1,rfl,p1,k2.dk ep0 mo0 dn0,m1,I,so,ho,⟨aZ.tups t01 f1 (aZ.same s0 re),f1,f2,by omega,ac _⟩,by omega,by omega,λe' v' k' H2 k22 p2 m2 kk2 re' sq bal2=>⟨aj (m:=100) (by omega) (by decide),?_⟩⟩;obtain⟨a1,b1,ep1⟩:=p1;have t12:=k22.tups ep1 m1;refine⟨_,es++[e'],k',rfl,k2.trans k22,p2,m2,by omega,Reps.snoc re' (Reps.tups t12 fes.2.1 res),by rw[bD he];exact sa.snoc sq,by rw[nC,take1];omega,t12 _ _ hq1⟩
  ·rintro C σ H1 ⟨o0,es,k1,rfl,k2,p1,m1,kk,res,sa,bal,hq1⟩ w hw;rw[lr,bw]at sa bal;obtain⟨te,fe,fte,le,_⟩:=sa.facts;obtain⟨a0,b0,ep0⟩:=pt0;have t01:=k2.tups ep0 mo0;have dn1:=k2.dk ep0 mo0 dn0;have hva1:=t01 _ _ (s0 _ _ hva);have lac:=Reps.len res;have l3:=d5 te;have s2:aD H1 (upd H1 w (.lst C)):=aD.upd hw;have r2:upd H1 w (.lst C) w=some (.lst C):=upd_same;generalize upd H1 w (.lst C)=H2 at s2 r2⊢;have res2:=Reps.same s2 res;have k02:K2 p G H H2:=λc o n1 n2 e=>s2 _ _ (k2 c o n1 n2 (s0 _ _ e));have p2:aP H2 p:=by obtain⟨a,b,e⟩:=p1;exact⟨a,b,s2 _ _ e⟩
   have m2:=s2 _ _ m1;have dn2:=s2 _ _ dn1;refine⟨_,rfl,.str nm,by rw[ixV_t (s2 _ _ hva1),atI_zero],?_⟩;have g2:lL H2 dn (.str nm) ((zr sm nm).map V.str):=by have:=lL.k (k:=.inr nm) dn2;rw[w8]at this;exact this
   refine⟨_,rfl,_,rfl,dn,_,rfl,g2,_,rfl,?_⟩;have tupOf:∀(R:V->Hp->Prop),(∀t3 H5,aD H2 H5->H5 t3=some (.tup (.str nm::C))->R (.ref t3) H5)->∀σ:St,σ[5]?=some (some (.str nm))->σ[4]?=some (some (.ref w))->tOp rAddF (tTup (tCons (tVar 5) tNil)) (tCB rTupU (tCons (tVar 4) tNil)) σ H2 R:=λR hR σ e5 e4=>by
    refine⟨_,e5,show 1<=sizeLine by decide,λt1 ht1=>⟨_,e4,w,C,rfl,.inl (by rw[aE (aG r2 ht1)];exact r2),λt2 H4 hc=>?_⟩⟩;have s3:aD H2 (upd H2 t1 (.tup [.str nm])):=aD.upd ht1;have r3:upd H2 t1 (.tup [.str nm]) t1=some (.tup [.str nm]):=upd_same;have r23:=s3 _ _ r2;generalize upd H2 t1 (.tup [.str nm])=H3 at s3 r3 r23 hc;rcases hc with⟨hc,_⟩|⟨_,ht2,rfl⟩
    ·rw[r23]at hc;cases hc
    have s4:aD H3 (upd H3 t2 (.tup C)):=aD.upd ht2;have r4:upd H3 t2 (.tup C) t2=some (.tup C):=upd_same;have ane:C≠[]:=λz=>by rw[z]at lac;simp at lac;omega
    refine .inr ⟨_,FA (s4 _ _ r3) r4 (ao (m:=300) (by simp;omega) (by decide)) (by simp) ane,λt3 ht3=>?_⟩;exact hR t3 _ ((s3.trans s4).trans (aD.upd ht3)) upd_same
   cases hz:zr sm nm with
   | none =>
    refine tupOf _ (λt3 H5 s5 h5=>?_) _ rfl rfl;have sq:=HC.fixed so hz hh sa;refine q (.tup (.str nm::es)) _ k1 H5 (λc o n1 n2 e=>s5 _ _ (k02 c o n1 n2 e)) (by obtain⟨a,b,e⟩:=p2;exact⟨a,b,s5 _ _ e⟩) (s5 _ _ m2) kk ⟨t3,_,rfl,h5,.str nm,C,rfl,rfl,Reps.same s5 res2⟩ sq ?_;rw[el,show lvs (.tup (.str nm::es))=lvss es from(eB (sm:=sm) (.inl rfl)).1];exact bal
   | some z =>
    have hn:nm∈sm.map (·.1):=by
     rcases uD so hh with⟨hz2,_⟩|⟨_,_,hn,_⟩
     ·rw[hz]at hz2;cases hz2
     ·exact hn
    have hl2:2<=ds.length:=by
     rcases uD so hh with⟨hz2,_⟩|⟨_,_,_,h⟩
     ·rw[hz]at hz2;cases hz2
     ·exact h
    have bq:=Bq.of so ho hz hn sa;have len2:=zK (n:=nm) fe te;have eles:lvs (.tup (.str nm::es))=lvss es:=(eB (sm:=sm) (.inl rfl)).1;have edes:depD (.tup (.str nm::es))=depDs es+1:=(eB (sm:=sm) (.inl rfl)).2.2.1;have tes:bB fx sm os (.tup (.str nm::es)):=by unfold bB;exact⟨.inr ⟨by omega,hn⟩,te⟩
    have fes:Fl (.tup (.str nm::es)):=by unfold Fl;exact fe
    have des:depDs es<=50:=j9 λx hx=>by obtain⟨d0,hd0,sq⟩:=sa.facts.2.2.2.2 x hx;have:=sq.dp;have:=pR hd0;have:=sO hx;omega
    have dpr:depDs (prts nm es)<=59:=j9 λx hx=>by have:=(bq.dp x hx).1;have:=sO hx;rw[bq.lv]at this;omega
    refine⟨_,rfl,_,rfl,tupOf _ (λt3 H5 s5 h5=>?_) _ rfl rfl⟩;refine⟨fx,sm,os,nm,.tup (.str nm::es),.ref t3,rfl,⟨⟨t3,_,rfl,h5,.str nm,C,rfl,rfl,Reps.same s5 res2⟩,fes,tes,by omega,by omega⟩,λl us H6 s6 hl6 h6 rus=>?_⟩;rw[mB]at rus;have O:=s5.trans s6;have p6:aP H6 p:=by obtain⟨a,b,e⟩:=p2;exact⟨a,b,O _ _ e⟩
    have lpr:=zL (n:=nm) fe te;refine⟨p,l,_,us,rfl,p6,h6,rus,bq.fl,dpr,by omega,λrl ys rs H7 b7 p7 hrl h7 rrs pm=>?_⟩;have bq7:=bq.perm pm;have m6:=O _ _ m2;have m7:=b7 _ _ I.symm m6;have dn7:H7 dn=some (dK31 sm):=b7 _ _ (λz=>by obtain⟨a,b,e⟩:=p6;rw[←z,O _ _ dn2]at e;cases e) (O _ _ dn2);have k07:K2 p G H H7:=λc o n1 n2 e=>b7 _ _ n1 (O _ _ (k02 c o n1 n2 e));have lpm:=pm.length_eq;have nrp:rl≠p:=λz=>by obtain⟨a,b,e⟩:=p6;rw[z,e]at hrl;cases hrl
    have nrm:rl≠G:=λz=>by rw[z,m6]at hrl;cases hrl
    have rlH:H rl=none:=by
     cases e:H rl with
     | none=>rfl
     | some o=>have:=O _ _ (k02 _ _ nrp nrm e);rw[hrl]at this;cases this
    obtain⟨a7,b7',ep7⟩:=p7;refine n6 (TD p dn G rl (.ref va) (.ref w) fx sm os nm z (depDs ds) (lvss ds+k) k (opn nm z (flts sm ds)) H) k1 ⟨rfl,k07,⟨a7,b7',ep7⟩,m7,kk,ys,rs,lvss es,h7,rrs,bq7,bal,by omega⟩ ?_;rintro n1 σ H8 ⟨rfl,k8,p8,m8,kk8,Z,S,L8,h8,r8,U,tot8,len8⟩ R hT hF;have lr8:=Reps.len r8;have lb8:=d5 U.tm;rw[U.lv]at lb8;have dn8:H8 dn=some (dK31 sm):=by obtain⟨a,b,e⟩:=pt;exact k8.dk e hmo hdn
    have fin:∀X,cG p H8 X->aP X p->R false X:=λX b9 p9=>by refine hF _ ?_;have t9:=aX.ofBut b9 p8;refine⟨_,rfl,_,rfl,_,rfl,p,rl,fx,sm,os,nm,z,depDs ds,L8,_,S,Z,rfl,p9,b9 _ _ nrp h8,Reps.tups t9 U.fl r8,so,ho,hz,hn,U,len8,by omega,λv' us9 Y b10 p10 r10 bq10 l10=>?_⟩;obtain⟨sq,lq⟩:=HC.sum so ho hz hn tms bq10 l10;refine q _ v' n1 Y (λc o m1 m2 e=>b10 _ _ m1 (b9 _ _ m1 (k8 c o m1 m2 e))) p10 (b10 _ _ I.symm (b9 _ _ I.symm m8)) kk8 r10 sq ?_;rw[lq,el];exact tot8
    have b88:cG p H8 H8:=cG.refl _ _;refine⟨_,rfl,_,rfl,dn,.str z,rfl,KW dn8 hz,.str z,.str "",rfl,rfl,au _,_,rfl,bX (λc1=>?_) (λ_=>fin H8 b88 p8)⟩;have zne:z≠("" : Str):=λe=>by rw[e]at c1;cases c1
    have tz:=GA (os:=os) so hz zne;refine⟨_,rfl,.int (n1:Int),by rw[ixV_l m8,atI_zero],_,_,rfl,rfl,_,rfl,bX (λc2=>?_) (λ_=>fin H8 b88 p8)⟩;have n1p:0<n1:=by have:=bu c2;omega
    refine⟨_,rfl,p,3,rfl,p8,by decide,by decide,λi0 x0 y0 _ _=>?_⟩;have b9:cG p H8 (upd H8 p (.lst [.int x0,.int y0])):=cG.upd _ _ _;have p9:aP (upd H8 p (.lst [.int x0,.int y0])) p:=⟨_,_,upd_same⟩
    generalize upd H8 p (.lst [.int x0,.int y0])=X at b9 p9⊢;refine⟨.int i0,.int 0,rfl,rfl,au _,_,rfl,?_⟩;cases hi:eqD (.int i0) (.int 0)with
    | false=>exact fin X b9 p9
    | true =>
     refine hT _ ?_;have t9:=aX.ofBut b9 p8;have m9:=b9 _ _ I.symm m8;refine⟨_,rfl,.int (n1:Int),by rw[ixV_l m9,atI_zero],_,_,rfl,rfl,_,rfl,G,_,0,0,rfl,rfl,m9,rfl,?_⟩;have t10:aX X (upd X G (.lst ([V.int (n1:Int)].set 0 (.int ((n1:Int) - 1))))):=aX.lst m9;have m10:upd X G (.lst ([V.int (n1:Int)].set 0 (.int ((n1:Int) - 1)))) G=some (.lst [.int ((n1 - 1:Nat):Int)]):=by rw[upd_same,show((n1 - 1:Nat):Int)=(n1:Int) - 1 by omega];rfl
     have h10:upd X G (.lst ([V.int (n1:Int)].set 0 (.int ((n1:Int) - 1)))) rl=some (.lst Z):=by rw[aE nrm];exact b9 _ _ nrp h8
     have p10:aP (upd X G (.lst ([V.int (n1:Int)].set 0 (.int ((n1:Int) - 1))))) p:=by obtain⟨a,b,e⟩:=p9;exact⟨a,b,by rw[aE I];exact e⟩
     have k10:K2 p G H (upd X G (.lst ([V.int (n1:Int)].set 0 (.int ((n1:Int) - 1))))):=λc o e1 e2 e=>by rw[aE e2];exact b9 _ _ e1 (k8 c o e1 e2 e)
     generalize upd X G (.lst ([V.int (n1:Int)].set 0 (.int ((n1:Int) - 1))))=Y at t10 m10 h10 p10 k10⊢;refine⟨_,rfl,.inl ⟨rfl,_,dN.of h10⟩,_,rfl,_,rfl,_,_,rfl,(by dsimp only;rw[lenV_l h10,lr8];rfl),.inl ⟨_,rfl,p,(S.length:Int)+1,rfl,p10,by omega,by omega,λi x y i0 i1=>?_⟩⟩;obtain⟨i,rfl⟩:∃c:Nat,i=(c:Int):=⟨i.toNat,by omega⟩
     have W:cG p Y (upd Y p (.lst [.int x,.int y])):=cG.upd _ _ _;have p11:aP (upd Y p (.lst [.int x,.int y])) p:=⟨_,_,upd_same⟩
     have t11:=aX.ofBut W p10;generalize upd Y p (.lst [.int x,.int y])=H11 at W p11 t11⊢;have h11:=W _ _ nrp h10;have dn11:H11 dn=some (dK31 sm):=by obtain⟨a,b,e⟩:=pt;exact W _ _ (λz=>by rw[z,e]at hdn;cases hdn) (k10.dk e hmo hdn)
     refine⟨_,rfl,_,rfl,dn,.str z,rfl,KW dn11 hz,rl,Z,i,.str z,rfl,rfl,h11,by omega,by omega,?_⟩;have t12:aX H11 (upd H11 rl (.lst (Z.take i ++ .str z::Z.drop i))):=aX.lst h11;have t812:=t9.trans (t10.trans (t11.trans t12))
     have bqn:=(U.nought so ho tz).perm (vs:=S.take i ++ .str z::S.drop i) (by
      refine List.perm_middle.trans ?_
      rw[List.take_append_drop])
     have r8':=Reps.tups t812 U.fl r8;refine⟨n1 - 1,by omega,rfl,λc o e1 e2 e=>by rw[aE (aG e rlH)];exact W _ _ e1 (k10 c o e1 e2 e),by obtain⟨a,b,e⟩:=p11;exact⟨a,b,by rw[aE nrp.symm];exact e⟩,by rw[aE nrm.symm];exact W _ _ I.symm m10,by omega,_,S.take i ++ .str z::S.drop i,L8+1,upd_same,Reps.append (Reps.take i r8') ⟨_,_,rfl,rfl,Reps.drop i r8'⟩,bqn,by omega,by rw[aq,ap,bv,bx];omega⟩
theorem JF {f:Addr}{e:FuncData}(F:gG K "_law_shuffled" "_law_shuffled" dC f e)(T:Txt mg)(d:dP P w K mg base bN 1 "_law_take" fP)(b:dP P w K mg base bN 53 "_law_parts" (spPrt 51))(c:dP P w K mg base bN 2 "_law_mixed" spMix)(a:dP P w K mg base bN 2 "_law_bracketed" spBrk)(hm:mg "_law_shuffled" = some (.ref f))(g:PySem.W.keepIn K (.ref f)=true)(h:eN K e h9 [])(n:Nat):dP P w K mg base bN (n+54) "_law_shuffled" (xI n):=mX hm g h (λn O=>M8 n F T d b c a O) n
noncomputable def wiY:aS:="?y" :: wi31
theorem iS:∀x∈wiY,c4 x:=by
 intro x b;simp only[wiY,wi31,cu,List.not_mem_nil,or_false]at b;have a:∀{l:List Nat},(l.all λc=>decide ((97<=c/\c<=122)∨(48<=c/\c<=57)))=true->∀c∈l,isWd c:=λh c d=>by have:=List.all_eq_true.mp h c d;have:(97<=c/\c<=122)∨(48<=c/\c<=57):=bu this;unfold isWd;omega
 rcases b with rfl|rfl|rfl|rfl|rfl
 ·exact⟨[121],rfl,by decide,by decide,a (by decide)⟩
 ·exact⟨[120],rfl,by decide,by decide,a (by decide)⟩
 ·exact⟨[49],rfl,by decide,by decide,a (by decide)⟩
 ·exact⟨[48,122,57],rfl,by decide,by decide,a (by decide)⟩
 ·exact⟨[122,122,122,122,122,122,122,122],rfl,by decide,by decide,a (by decide)⟩
mutual
theorem xB {a:cH}{sm:bH}{os ps:aS}(k:∀x∈os,x∈ps):∀{d:D},bB a sm os d->bB a sm ps d
 | .str x,h=>by
  unfold bB at h⊢;rcases h with h|h
  ·exact .inl (k x h)
  ·exact .inr h
 | .tup (.str n::ds),h=>by
  unfold bB at h⊢;exact⟨h.1,sZ k h.2⟩
 | .lst (.str n::ds),h=>by
  unfold bB at h⊢;exact⟨h.1,sZ k h.2⟩
 | .non,h | .bl _,h | .int _,h | .tup [],h | .lst [],h | .tup (.non::_),h | .tup (.bl _::_),h | .tup (.int _::_),h | .tup (.tup _::_),h | .tup (.lst _::_),h | .lst (.non::_),h | .lst (.bl _::_),h | .lst (.int _::_),h | .lst (.tup _::_),h | .lst (.lst _::_),h=>by unfold bB at h;exact absurd h id
theorem sZ {c:cH}{sm:bH}{os ps:aS}(k:∀x∈os,x∈ps):∀{ds:List D},IsTms c sm os ds->IsTms c sm ps ds
 | [],_=>trivial
 | d::ds,⟨a,b⟩=>⟨xB k a,sZ k b⟩
end
theorem HF {a:cH}{sm:bH}(so:bF a sm){x:Str}(h:x∈zeros a):isQ x=false:=by unfold zeros at h;obtain⟨r,b,rfl⟩:=cy.mp h;exact QA (so.nm r.1 (cj _ (List.mem_map_of_mem ((db.mp b).1))))
theorem lN {b:cH}{sm:bH}(so:bF b sm){x:Str}(h:c4 x):∀r∈sm,r.2≠x:=λr a e=>by
 have q:=OR h;by_cases z:r.2=("" : Str)
 ·rw[←e,z]at q;revert q;decide
 ·have:=HF so (so.nought r a z);rw[e,q]at this;cases this
theorem RU {a:cH}{sm:bH}{os:aS}{y:Str}{d:D}(f:Fl d):bB a sm os d->y∈lfs d->y∈os∨y∈zeros a:=by
 refine kY (P:=λd=>bB a sm os d->y∈lfs d->y∈os∨y∈zeros a) (λx _ h m=>?_) (λn ds _ g h m=>?_) f
 ·unfold bB at h;unfold lfs at m;rw[cs.mp m];exact h
 ·unfold bB at h;rw[lfs]at m;have go:∀es:List D,(∀e∈es,e∈ds)->y∈lfss es->y∈os∨y∈zeros a:=by
   intro es
   induction es with
   | nil=>intro _ m;unfold lfss at m;cases m
   | cons e es b =>
    intro c m;rw[lfss]at m;rcases cx.mp m with m|m
    ·exact g e (c e av) (dE h.2 e (c e av)) m
    ·exact b (λz hz=>c z (ay _ hz)) m
  exact go ds (λ_ z=>z) m
theorem RI {a:cH}{sm:bH}(so:bF a sm){d:D}(f:Fl d)(h:bB a sm wi31 d):("?y" : Str)∉lfs d:=λm=>by
 rcases RU f h m with m|m
 ·revert m;decide
 ·have:=HF so m
  revert this;decide
theorem KL {c:cH}{sm:bH}(so:bF c sm){d:D}{x y:Str}{i:Nat}(f:Fl d)(h:bB c sm wi31 d)(a:Fl (.str x))(b:x∈wiY)(j:i<lvs d)(g:(lfs d)[i]?=some y)(ne:y≠x):flt sm d≠flt sm (wlf x d (i:Int)):=λe=>by have h':=xB (ps:=wiY) (λz hz=>ay _ hz) h;have w:=HI (x:=x) (by unfold bB;exact .inl b) a f h' (i:Int);have nx:=lN so (iS x b);have l:=cw_flt so iS nx f h';have o:=cw_flt so iS nx w.fl w.tm;have m:=cw_wlf f j g ne;rw[e]at l;omega
theorem LS:("?y" : Str)∈wiY:=av
theorem RJ:Fl (.str ("?y" : Str)):=by unfold Fl;decide
theorem KK {a:cH}{sm:bH}(so:bF a sm){d:D}{F s:Str}(f:Fl d)(h:bB a sm wiY d)(i:(F,2)∈a)(c:s∈sm.map (·.1)):flt sm (.tup [.str F,.tup [.str s,d,.str "?y"],d])≠flt sm (.tup [.str F,d,.tup [.str s,d,.str "?y"]]):=λe=>by
 rw[(eL F _ _).2.2.2,(eL F _ _).2.2.2]at e;unfold knot at e;rw[HE so i]at e;injection e with e;injection e with _ e;injection e with e _;have b:bB a sm wiY (.tup [.str s,d,.str "?y"]):=BR.mpr ⟨.inr ⟨by omega,c⟩,h,by unfold bB;exact .inl LS⟩;have g:Fl (.tup [.str s,d,.str "?y"]):=by unfold Fl;exact⟨f,RJ,trivial⟩
 have nx:=lN so (iS _ LS);have l:=cw_flt so iS nx f h;have j:=cw_flt so iS nx g b;rw[e,l,cw_tup,dL,dL,nH,cw_str,ai rfl]at j;omega
theorem DC {g:cH}{sm:bH}(so:bF g sm)(n:Str):∃l,flt sm (.tup [.str n,.str "?x",.str "?y"]) = .tup (.str n::l):=by
 rw[(eL n _ _).2.2.2];unfold knot;cases hz:zr sm n with
 | none=>exact⟨_,rfl⟩
 | some z =>
  dsimp only;obtain⟨r,f,_,e⟩:=DB hz;have c:∀x:Str,c4 x->opn1 n z (flt sm (.str x))=[.str x]:=λx d=>by have ne:=lN so d r f;rw[e]at ne;unfold flt opn1;dsimp only;rw[ab λh=>ne ?_];have h:(x == z)=true:=h;exact(eq_of_beq h).symm
  rw[cE,cE,c _ (iS _ (by decide)),c _ (iS _ (by decide)),show opn n z []=[]from rfl];have len:=(bU ([.str "?x"]++([.str "?y"]++[]))).length_eq;generalize fQ ([D.str "?x"]++([D.str "?y"]++[]))=l at len
  match l,len with
  | a::b::l,_=>exact⟨_,rfl⟩
theorem GV {c:cH}{sm:bH}(so:bF c sm){n m:Str}(h:n≠m):flt sm (.tup [.str n,.str "?x",.str "?y"])≠flt sm (.tup [.str m,.str "?x",.str "?y"]):=λe=>by obtain⟨l,b⟩:=DC so n;obtain⟨k,a⟩:=DC so m;rw[b,a]at e;injection e with e;injection e with e _;injection e with e;exact h e
theorem Tq.bp {a:cH}{sm:bH}{os:aS}{n:Nat}{d:D}{v:V}{H H':Hp}{p:Addr}(t:Tq a sm os n d v H)(b:cG p H H')(pt:aP H p):Tq a sm os n d v H':=⟨aZ.tups (aX.ofBut b pt) t.fl t.re,t.fl,t.tm,t.lv,t.dp⟩
theorem Tq.same {a:cH}{sm:bH}{os:aS}{n:Nat}{d:D}{v:V}{H H':Hp}(t:Tq a sm os n d v H)(s:aD H H'):Tq a sm os n d v H':=⟨aZ.same s t.re,t.fl,t.tm,t.lv,t.dp⟩
theorem Tq.up {a:cH}{sm:bH}{os:aS}{n m:Nat}{d:D}{v:V}{H:Hp}(t:Tq a sm os n d v H)(h:depD d<=m):Tq a sm os m d v H:=⟨t.re,t.fl,t.tm,t.lv,h⟩
def DM:Sp:=λvs H Q _=>∃(p dn:Addr) (fx:cH) (sm:bH) (os:aS) (d:D) (v:V),vs=[.ref p,.ref dn,v]/\aP H p/\H dn=some (dK31 sm)/\bF fx sm/\(∀x∈os,c4 x)/\Tq fx sm os 11 d v H/\lvs d<=40 /\
 ∀(e:D) (v':V) (H':Hp),cG p H H'->aP H' p->Tq fx sm os 11 e v' H'->flt sm e=flt sm d->lvs e<=40->Q v' H'
theorem JT {f:Addr}{Z:FuncData}(F:gG K "_law_other" "_law_other" iF f Z)(T:Txt mg)(g:dP P w K mg base bN 13 "_law_leaves" (spLvs 11))(a:dP P w K mg base bN 65 "_law_shuffled" (xI 11))(j:dP P w K mg base bN 53 "_law_depth" (spDep 51)):bY P w K mg base bN 66 f Z pV DM:=by
 refine F.ok nO (λvs H Q E h=>?_) (λcdv A outer s H vs Q E u h=>?_)
 ·obtain⟨p,dn,B,sm,os,d,v,rfl,_⟩:=h;rfl
 ·obtain⟨p,dn,B,sm,os,d,v,rfl,pt,O,so,ho,t,L,q⟩:=h;have hu:=u.units
  refine⟨_,(aC (aU (i:=3) nO.nd rfl (Or.inl rfl) (aM a (u.mono (by omega)) pass0 rfl (aA (pv 0) (aA (pv 1) (aA (pv 2) (aA (bQ (aA (bG fC aF (aM g (u.mono (by omega)) pass0 rfl (aA (pv 2) aB))) aB)) aB))))))
   (aC (bL (aQ tO (aM j (u.mono (by omega)) pass0 rfl (aA (pv 3) aB)) aF (nomark _)) (aH (aN (pv 2))) aR)
   (aH (aN (pv 3))))),?_⟩
  try dsimp only[cxOf,Cx.nox]
  clear u F T hu g a j;refine⟨_,rfl,_,rfl,_,rfl,_,rfl,B,sm,os,d,v,rfl,t,λG U=>⟨_,_,rfl,rfl,show 1<=sizeLine by decide,λm z=>?_⟩⟩;have s2:aD G (upd G m (.lst [.int (40 - (lvs d:Int))])):=aD.upd z;have Y:upd G m (.lst [.int (40 - (lvs d:Int))]) m=some (.lst [.int ((40 - lvs d:Nat):Int)]):=by rw[upd_same,show((40 - lvs d:Nat):Int)=40 - (lvs d:Int)by omega]
  have n2:∀b o,H b=some o->b≠m:=λb o e=>aG (U _ _ e) z;generalize upd G m (.lst [.int (40 - (lvs d:Int))])=H2 at s2 Y⊢;have l:=U.trans s2;have p2:aP H2 p:=by obtain⟨x,y,e⟩:=pt;exact⟨x,y,l _ _ e⟩
  have J:p≠m:=by obtain⟨x,y,e⟩:=pt;exact n2 _ _ e
  refine⟨p,dn,m,B,sm,os,d,v,40 - lvs d,rfl,p2,l _ _ O,Y,J,so,ho,t.same l,t.dp,by omega,λe S k' H3 N p3 m3 kk W r bal=>?_⟩;have b3:cG p H H3:=λb o nb e=>N _ _ nb (n2 _ _ e) (l _ _ e);have l40':lvs e<=40:=by omega
  have d11:=t.dp;have dpe:=r.dp;refine⟨_,rfl,B,sm,os,e,S,rfl,⟨W,r.fl,r.tm,by omega,by omega⟩,λC I=>⟨_,_,rfl,rfl,_,rfl,?_⟩⟩;have R:cG p H C:=λb o nb e=>I _ _ (b3 b o nb e);have X:aP C p:=by obtain⟨x,y,e⟩:=p3;exact⟨x,y,I _ _ e⟩
  refine bX (λc=>?_) (λc=>?_)
  ·exact⟨_,rfl,q d v C R X (t.bp R pt) rfl L⟩
  ·have c:=of_decide_eq_false c;exact⟨_,rfl,q e S C R X ⟨aZ.same I W,r.fl,r.tm,by omega,by omega⟩ r.ft l40'⟩
theorem fJ.at_ {H:Hp}:∀{l:bH} {vs:List V} {i:Nat} {r:Str×Str},fJ H l vs->l[i]?=some r->∃t,vs[i]?=some (.ref t)/\H t=some (.tup [.str r.1,.str r.2])
 | [],_,_,_,_,e=>by simp at e
 | r::_,_,0,_,⟨t,us,e,h,q⟩,k=>by subst e;simp at k;subst k;exact⟨t,rfl,h⟩
 | _::_,_,i+1,_,⟨t,us,e,h,q⟩,k=>by subst e;simp at k;obtain⟨t,b,a⟩:=fJ.at_ q k;exact⟨t,by simpa using b,a⟩
theorem DF {A B:hZ->St->Hp->Prop}{D:hZ}{σ:St}{H:Hp}(R:Hp->Prop)(b:∀H',R H'->B D σ H')(a:(∀H',R H'->B D σ H')->tSeq A B D σ H):tSeq A B D σ H:=a b
theorem y6 {e:cH}{sm:bH}{n:Str}{a b:D}{g f:V}{H:Hp}{T:Addr}{k:Nat}(h:nM e sm n 2)(i:H T=some (.tup [.str n,g,f]))(d:Tq e sm wiY k a g H)(c:Tq e sm wiY k b f H)(l:lvs a+lvs b<=100):Tq e sm wiY (k+1) (.tup [.str n,a,b]) (.ref T) H :=
 ⟨⟨T,_,rfl,i,.str n,_,rfl,rfl,g,_,rfl,d.re,f,[],rfl,c.re,rfl⟩,by unfold Fl;exact⟨d.fl,c.fl,trivial⟩,BR.mpr ⟨h,d.tm,c.tm⟩,by rw[(eL (sm:=sm) n a b).1];exact l,by rw[(eL (sm:=sm) n a b).2.2.1];have:=d.dp;have:=c.dp;omega⟩
theorem kF {a:cH}{sm:bH}(so:bF a sm){x:Str}(b:x∈wiY)(n:Nat)(H:Hp):Tq a sm wiY n (.str x) (.str x) H:=by
 have tm:bB a sm wiY (.str x):=by unfold bB;exact .inl b
 refine⟨rfl,?_,tm,by rw[eC];decide,au _⟩;have:=(nN so iS tm).1;unfold Tm at this;unfold Fl;exact this
def spUnl:Sp:=λvs H Q _=>∃(p t:Addr) (fx:cH) (sm:bH) (d:D) (v:V),vs=[.ref p,.ref t,v]/\RC p t fx sm H/\Tq fx sm wi31 9 d v H/\lvs d<=36 /\
 ∀(T:Addr) (d1 d2:D) (v1 v2:V) (H':Hp),cG p H H'->aP H' p->H' T=some (.tup [v1,v2])->Tq fx sm wiY 11 d1 v1 H'->Tq fx sm wiY 11 d2 v2 H'->lvs d1<=40->lvs d2<=40->flt sm d1≠flt sm d2->Q (.ref T) H'
theorem PY {f:Addr}{fd:FuncData}(F:gG K "_law_unlike" "_law_unlike" gL f fd)(T:Txt mg)(g:dP P w K mg base bN 1 "_law_take" fP)(u:dP P w K mg base bN 13 "_law_leaves" (spLvs 11))(C:dP P w K mg base bN 25 "_law_leaf_at" (oW 11))(B:dP P w K mg base bN 25 "_law_with_leaf" (spWl 11)):bY P w K mg base bN 26 f fd nX spUnl:=by
 refine F.ok cI (λvs H Q E h=>?_) (λcdv A outer s H vs Q E X h=>?_)
 ·obtain⟨p,t,Y,sm,d,v,rfl,_⟩:=h;rfl
 ·obtain⟨p,ta,Y,sm,d,v,rfl,t31,t,l36,q⟩:=h;have hu:=X.units
  refine⟨_,(aC (gB (pv 1) (dI K rfl (i:=3) (j:=4) rfl cI.nd rfl rfl rfl rfl))
   (aC (aU (i:=5) cI.nd rfl (Or.inl rfl) (aM g (X.mono (by omega)) pass0 rfl (aA (pv 0) (aA aF aB))))
   (aC (bL (aQ (kQ hu) (pv 5) aF (nomark _)) (aC (aU (i:=6) cI.nd rfl (Or.inl rfl) (aM g (X.mono (by omega)) pass0 rfl (aA (pv 0) (aA (aM u (X.mono (by omega)) pass0 rfl (aA (pv 2) aB)) aB))))
   (aC (aU (i:=7) cI.nd rfl (Or.inl rfl) (bC bW (bQ (aA cJ (aA cJ (aA cJ aB)))) (aM g (X.mono (by omega)) pass0 rfl (aA (pv 0) (aA aF aB))) (λ_ _=>rfl)))
   (aC (bL (aQ (dQ hu) (aM C (X.mono (by omega)) pass0 rfl (aA (pv 2) (aA (pv 6) aB))) (pv 7) (nomark _)) (aH (aU (i:=7) cI.nd rfl (Or.inl rfl) cJ)) aR)
   (aH (aN (bE (aA (pv 2) (aA (aM B (X.mono (by omega)) pass0 rfl (aA (pv 2) (aA (pv 6) (aA (pv 7) aB)))) aB)))))))) aR)
   (aC (bL (PW.pt (jR (aQ (dQ hu) (pv 5) aF (nomark _)) (jL (aQ (kQ hu) (aM u (X.mono (by omega)) pass0 rfl (aA (pv 2) aB)) aF (nomark _))))) (aC (aU (i:=8) cI.nd rfl (Or.inl rfl) (bE (aA (bC bW (bC bW (pv 4) aF (λ_ _=>rfl)) aF (λ_ _=>rfl)) (aA (pv 2) (aA cJ aB)))))
   (aH (aN (bE (aA (bE (aA (bC bW (bC bW (pv 3) aF (λ_ _=>rfl)) aF (λ_ _=>rfl)) (aA (pv 8) (aA (pv 2) aB)))) (aA (bE (aA (bC bW (bC bW (pv 3) aF (λ_ _=>rfl)) aF (λ_ _=>rfl)) (aA (pv 2) (aA (pv 8) aB)))) aB)))))) aR)
   (aC (aU (i:=9) cI.nd rfl (Or.inl rfl) (bQ (aA (bC bW (bC bW (pv 4) aF (λ_ _=>rfl)) aF (λ_ _=>rfl)) (aA (bC bW (bC bW (pv 3) aF (λ_ _=>rfl)) aF (λ_ _=>rfl)) aB))))
   (aC (bL (PW.pt (jR (aQ tO (aL bK rfl T.n_len rfl (aA (pv 4) aB)) aF (nomark _)) (jL (aQ (dQ hu) (aM g (X.mono (by omega)) pass0 rfl (aA (pv 0) (aA aF aB))) aF (nomark _))))) (aH (aU (i:=9) cI.nd rfl (Or.inl rfl) (bQ (aA (bC bW (bC bW (pv 4) aF (λ_ _=>rfl)) aF (λ_ _=>rfl)) (aA (bC bW (bC bW (pv 4) aF (λ_ _=>rfl)) aF (λ_ _=>rfl)) aB))))) aR)
   (aH (aN (bE (aA (bE (aA (bC bW (pv 9) aF (λ_ _=>rfl)) (aA cJ (aA cJ aB)))) (aA (bE (aA (bC bW (pv 9) aF (λ_ _=>rfl)) (aA cJ (aA cJ aB)))) aB))))))))))),?_⟩
  try dsimp only[cxOf,Cx.nox]
  clear X F T hu g u C B;obtain⟨hp,⟨fa,sa,fv,sv,t1,t2,t3,rf,rs,nfp,nsp⟩,so,z5,hone,sm1,N,hx7⟩:=t31;refine⟨_,rfl,ta,_,rfl,gF.of t1,rfl,_,_,rfl,_,_,rfl,rfl,?_⟩;refine⟨_,rfl,p,4,rfl,hp,by decide,by decide,λw x0 y0 w0 w1=>?_⟩;have b1:cG p H (upd H p (.lst [.int x0,.int y0])):=cG.upd _ _ _;have p1:aP (upd H p (.lst [.int x0,.int y0])) p:=⟨_,_,upd_same⟩
  generalize upd H p (.lst [.int x0,.int y0])=H1 at b1 p1⊢;have d9:=t.dp;have ty:∀{H':Hp},cG p H H'->Tq Y sm wiY 9 d v H':=λb=>⟨(t.bp b hp).re,t.fl,xB (λz hz=>ay _ hz) t.tm,t.lv,d9⟩
  refine⟨_,rfl,.inl (.inl ⟨_,_,rfl,rfl,_,rfl,bX (λc=>?_) (λc=>?_)⟩)⟩
  ·refine⟨_,rfl,_,rfl,Y,sm,wi31,d,v,rfl,(t.bp b1 hp).up (by omega),λZ s2=>?_⟩;have lp:=lQ t.tm;have b2:cG p H Z:=λb o nb e=>s2 _ _ (b1 b o nb e);have p2:aP Z p:=by obtain⟨x,y,e⟩:=p1;exact⟨x,y,s2 _ _ e⟩
   refine⟨p,(lvs d:Int),rfl,p2,by omega,by omega,λi x1 y1 i0 i1=>?_⟩;obtain⟨i,rfl⟩:∃k:Nat,i=(k:Int):=⟨i.toNat,by omega⟩
   have hi:i<lvs d:=by omega
   have b3:=b2.trans (cG.upd p Z (.lst [.int x1,.int y1]));have p3:aP (upd Z p (.lst [.int x1,.int y1])) p:=⟨_,_,upd_same⟩
   generalize upd Z p (.lst [.int x1,.int y1])=S at b3 p3⊢;refine⟨show 3<=sizeLine by decide,λr X=>⟨_,rfl,p,3,rfl,p3.but (p3.ne X),by decide,by decide,λj x2 y2 j0 j1=>?_⟩⟩;have nrp:=p3.ne X;have b4:cG p H (upd (upd S r (.lst [.str "?y",.str "?x",.str "?1"])) p (.lst [.int x2,.int y2])):=(b3.trans (cG.new X)).trans (cG.upd _ _ _);have p4:aP (upd (upd S r (.lst [.str "?y",.str "?x",.str "?1"])) p (.lst [.int x2,.int y2])) p:=⟨_,_,upd_same⟩
   have r4:upd (upd S r (.lst [.str "?y",.str "?x",.str "?1"])) p (.lst [.int x2,.int y2]) r=some (.lst [.str "?y",.str "?x",.str "?1"]):=by rw[aE nrp.symm,upd_same]
   obtain⟨x,hx,ex⟩:∃x∈wiY,ixV (upd (upd S r (.lst [.str "?y",.str "?x",.str "?1"])) p (.lst [.int x2,.int y2])) (.ref r) (.int j)=some (.str x):=by
    have:j=0∨j=1∨j=2:=by omega
    rcases this with rfl|rfl|rfl
    ·exact⟨"?y",by decide,by rw[ixV_l r4];rfl⟩
    ·exact⟨"?x",by decide,by rw[ixV_l r4];rfl⟩
    ·exact⟨"?1",by decide,by rw[ixV_l r4];rfl⟩
   refine⟨_,ex,?_⟩;clear ex r4;generalize upd (upd S r (.lst [.str "?y",.str "?x",.str "?1"])) p (.lst [.int x2,.int y2])=H4 at b4 p4⊢;have t4:=t.bp b4 hp;refine⟨_,rfl,_,rfl,Y,sm,wi31,d,v,i,rfl,t4.up (by omega),hi,by omega,λy J hy s5=>?_⟩;have b5:cG p H J:=λb o nb e=>s5 _ _ (b4 b o nb e);have p5:aP J p:=by obtain⟨x,y,e⟩:=p4;exact⟨x,y,s5 _ _ e⟩
   have t5:=t.bp b5 hp;have fin:∀(x:Str) (hx:x∈wiY) (ne:y≠x) (v':V) (R:Hp) (s7:aD J R) (r7:aZ R (wlf x d (i:Int)) v') (T:Addr) (U:R T=none),Q (.ref T) (upd R T (.tup [v,v'])):=λx hx ne v' R s7 r7 T U=>by have s8:aD R (upd R T (.tup [v,v'])):=aD.upd U;have b8:cG p H (upd R T (.tup [v,v'])):=λb o nb e=>s8 _ _ (s7 _ _ (b5 b o nb e));have w:=HI (x:=x) (kF so hx 0 H).tm (kF so hx 0 H).fl t.fl (ty b8).tm (i:Int);exact q T d (wlf x d (i:Int)) v v' _ b8 (by obtain⟨a,b,e⟩:=p5;exact⟨a,b,s8 _ _ (s7 _ _ e)⟩) upd_same ((ty b8).up (by omega)) ⟨aZ.same s8 r7,w.fl,w.tm,by rw[w.lv];omega,by rw[w.dp];omega⟩ (by omega) (by rw[w.lv];omega) (KL so t.fl t.tm (kF so hx 0 H).fl hx hi hy ne)
   have yin:y∈lfs d:=bi hy;refine⟨_,rfl,.str y,.str x,rfl,rfl,au _,_,rfl,bX (λc2=>?_) (λc2=>?_)⟩
   ·have ne:y≠"?y":=λe=>RI so t.fl t.tm (e ▸ yin);exact⟨_,rfl,_,rfl,_,rfl,_,rfl,Y,sm,wi31,d,v,(i:Int),"?y",rfl,t5.up (by omega),by omega,RJ,λv' R s7 r7=>⟨show 2<=sizeLine by decide,λT U=>fin _ LS ne v' R s7 r7 T U⟩⟩
   ·have ne:y≠x:=λe=>by subst e;rw[j8]at c2;cases c2
    exact⟨_,rfl,_,rfl,_,rfl,_,rfl,Y,sm,wi31,d,v,(i:Int),x,rfl,t5.up (by omega),by omega,(kF so hx 0 H).fl,λv' R s7 r7=>⟨show 2<=sizeLine by decide,λT U=>fin _ hx ne v' R s7 r7 T U⟩⟩
  have hF:(N,2)∈Y:=bi hx7;obtain⟨G,hs0⟩:∃G,sm[0]?=some G:=⟨_,aw (by omega)⟩
  have ms0:G.1∈sm.map (·.1):=List.mem_map_of_mem (bi hs0);obtain⟨a7,h7,e7⟩:=rf.at_ hx7;obtain⟨a0,h0,e0⟩:=rs.at_ hs0;have ndm:=List.nodup_append.mp so.nd;have nSF:G.1≠N:=λe=>ndm.2.2 N (List.mem_map_of_mem (f:=(·.1)) hF) N (e ▸ ms0) rfl;have hdS:nM Y sm G.1 2:=.inr ⟨ac _,ms0⟩;have hdF:nM Y sm N 2:=.inl ⟨by decide,hF⟩;have tp:∀{a:Addr} {xs:List V},H a=some (.tup xs)->a≠p:=λe z=>by obtain⟨x,y,h⟩:=hp;rw[z,h]at e;cases e
  have ixs:∀{H':Hp},cG p H H'->ixV H' (.ref sa) (.int 0)=some (.ref a0)/\ixV H' (.ref a0) (.int 0)=some (.str G.1)/\ixV H' (.ref fa) (.int 7)=some (.ref a7)/\ixV H' (.ref a7) (.int 0)=some (.str N):=λb=>by refine⟨by rw[ixV_l (b _ _ nsp t3)];exact iJ h0,by rw[ixV_t (b _ _ (tp e0) e0)];rfl,by rw[ixV_l (b _ _ nfp t2)];exact iJ h7,by rw[ixV_t (b _ _ (tp e7) e7)];rfl⟩
  unfold tNext;dsimp only;change tSeq (tIfS (tAnd _ _) _ _) _ _ _ H1;refine DF (λS=>cG p H S/\aP S p) (λS hR=>?_) (λO=>?_)
  ·obtain⟨b3,p3⟩:=hR;obtain⟨g1,g2,g3,g4⟩:=ixs b3;refine⟨_,rfl,_,g1,_,g2,_,rfl,_,g3,_,g4,show 2<=sizeLine by decide,λl hl=>?_⟩;have b4:=b3.trans (cG.new (p:=p) (o:=.lst [.str G.1,.str N]) hl);have p4:=p3.but (o:=.lst [.str G.1,.str N]) (p3.ne hl);have l4:upd S l (.lst [.str G.1,.str N]) l=some (.lst [.str G.1,.str N]):=upd_same;generalize upd S l (.lst [.str G.1,.str N])=H4 at b4 p4 l4⊢;have fin:∀(n m:Str) (k:Addr) (J:Hp),cG p H J->aP J p->nM Y sm n 2->nM Y sm m 2->n≠m->∀I,J I=none->∀L,upd J I (.tup [.str n,.str "?x",.str "?y"]) L=none->∀T,upd (upd J I (.tup [.str n,.str "?x",.str "?y"])) L (.tup [.str m,.str "?x",.str "?y"]) T=none->Q (.ref T) (upd (upd (upd J I (.tup [.str n,.str "?x",.str "?y"])) L (.tup [.str m,.str "?x",.str "?y"])) T (.tup [.ref I,.ref L])):=λn m k J b5 p5 hn hm ne I h1 L h2 T U=>by
    have s6:aD J (upd J I (.tup [.str n,.str "?x",.str "?y"])):=aD.upd h1;have r6:upd J I (.tup [.str n,.str "?x",.str "?y"]) I=some (.tup [.str n,.str "?x",.str "?y"]):=upd_same;generalize upd J I (.tup [.str n,.str "?x",.str "?y"])=H6 at s6 r6 h2 U⊢;have s7:aD H6 (upd H6 L (.tup [.str m,.str "?x",.str "?y"])):=aD.upd h2;have r7:upd H6 L (.tup [.str m,.str "?x",.str "?y"]) L=some (.tup [.str m,.str "?x",.str "?y"]):=upd_same;generalize upd H6 L (.tup [.str m,.str "?x",.str "?y"])=R at s7 r7 U⊢;have s8:aD R (upd R T (.tup [.ref I,.ref L])):=aD.upd U;have r8:upd R T (.tup [.ref I,.ref L]) T=some (.tup [.ref I,.ref L]):=upd_same;generalize upd R T (.tup [.ref I,.ref L])=H8 at s8 r8⊢;have s58:=(s6.trans s7).trans s8;have wx:Tq Y sm wiY 10 (.str "?x") (.str "?x") H8:=kF so (by decide) _ _;have wy:Tq Y sm wiY 10 (.str "?y") (.str "?y") H8:=kF so (by decide) _ _;have l2:lvs (.str ("?x" : Str))+lvs (.str ("?y" : Str))=2:=by rw[eC,eC]
    exact q T _ _ (.ref I) (.ref L) H8 (λb o nb e=>s58 _ _ (b5 b o nb e)) (by obtain⟨x,y,e⟩:=p5;exact⟨x,y,s58 _ _ e⟩) r8 (y6 hn (s8 _ _ (s7 _ _ r6)) wx wy (by omega)) (y6 hm (s8 _ _ r7) wx wy (by omega)) (by rw[(eL (sm:=sm) n _ _).1];omega) (by rw[(eL (sm:=sm) m _ _).1];omega) (GV so ne)
   unfold gName;dsimp only;change tSeq (tIfS (tAnd _ _) _ _) _ _ _ H4;refine DF (λJ=>cG p H J/\aP J p/\J l=some (.lst [.str G.1,.str N])) (λJ hR=>?_) (λO=>?_)
   ·obtain⟨b5,p5,l5⟩:=hR;exact⟨_,rfl,.str G.1,by rw[ixV_l l5];rfl,show 3<=sizeLine by decide,λI h1=>⟨_,rfl,.str N,by rw[ixV_l (by rw[aE (aG l5 h1)];exact l5)];rfl,show 3<=sizeLine by decide,λL h2=>⟨show 2<=sizeLine by decide,λT U=>fin G.1 N l J b5 p5 hdS hdF nSF I h1 L h2 T U⟩⟩⟩
   have sa4:=b4 _ _ nsp t3;have ls:=rs.len;have nlp:l≠p:=(p3.ne hl).symm;refine⟨_,rfl,_,_,rfl,(by dsimp only;rw[lenV_l sa4,ls];rfl),_,_,rfl,rfl,_,rfl,bX (λc2=>?_) (λ_=>O H4 ⟨b4,p4,l4⟩)⟩;have c2:=bu c2;refine⟨_,rfl,p,2,rfl,p4,by decide,by decide,λe x5 y5 e0' e1'=>?_⟩;have b5:=b4.trans (cG.upd p H4 (.lst [.int x5,.int y5]));have p5:aP (upd H4 p (.lst [.int x5,.int y5])) p:=⟨_,_,upd_same⟩
   have l5:upd H4 p (.lst [.int x5,.int y5]) l=some (.lst [.str G.1,.str N]):=by rw[aE nlp];exact l4
   generalize upd H4 p (.lst [.int x5,.int y5])=J at b5 p5 l5⊢;refine⟨.int e,.int 0,rfl,rfl,au _,_,rfl,bX (λ_=>?_) (λ_=>O J ⟨b5,p5,l5⟩)⟩;obtain⟨W,hs1⟩:∃W,sm[1]?=some W:=⟨_,aw (by omega)⟩
   have ms1:W.1∈sm.map (·.1):=List.mem_map_of_mem (bi hs1);obtain⟨a1,h1,e1⟩:=rs.at_ hs1;have ne01:G.1≠W.1:=λz=>by
    have g0:(sm.map (·.1))[0]?=some G.1:=by rw[bI,hs0];rfl
    have g1:(sm.map (·.1))[1]?=some W.1:=by rw[bI,hs1];rfl
    have:=(List.getElem?_inj (by rw[ae];omega) ndm.2.1).mp (g0.trans (by rw[z];exact g1.symm));cases this
   obtain⟨k1,k2,_,_⟩:=ixs b5;refine⟨_,rfl,_,k1,_,k2,_,rfl,.ref a1,by rw[ixV_l (b5 _ _ nsp t3)];exact iJ h1,.str W.1,by rw[ixV_t (b5 _ _ (tp e1) e1)];rfl,show 2<=sizeLine by decide,λl2 hl2=>?_⟩;have b6:=b5.trans (cG.new (p:=p) (o:=.lst [.str G.1,.str W.1]) hl2);have p6:=p5.but (o:=.lst [.str G.1,.str W.1]) (p5.ne hl2);have l6:upd J l2 (.lst [.str G.1,.str W.1]) l2=some (.lst [.str G.1,.str W.1]):=upd_same;change tSeq _ _ _ _ (upd J l2 (.lst [.str G.1,.str W.1]));generalize upd J l2 (.lst [.str G.1,.str W.1])=H6 at b6 p6 l6⊢;exact⟨_,rfl,.str G.1,by rw[ixV_l l6];rfl,show 3<=sizeLine by decide,λI h1=>⟨_,rfl,.str W.1,by rw[ixV_l (by rw[aE (aG l6 h1)];exact l6)];rfl,show 3<=sizeLine by decide,λL h2=>⟨show 2<=sizeLine by decide,λT U=>fin G.1 W.1 l2 H6 b6 p6 hdS (.inr ⟨ac _,ms1⟩) ne01 I h1 L h2 T U⟩⟩⟩
  refine⟨_,rfl,.int w,.int 2,rfl,rfl,au _,_,rfl,bX (λc2=>?_) (λ_=>O H1 ⟨b1,p1⟩)⟩;refine⟨_,rfl,Y,sm,wi31,d,v,rfl,(t.bp b1 hp).up (by omega),λZ s2=>.inl (.inl ⟨_,_,rfl,rfl,_,rfl,?_⟩)⟩;have b2:cG p H Z:=λb o nb e=>s2 _ _ (b1 b o nb e);have p2:aP Z p:=by obtain⟨x,y,e⟩:=p1;exact⟨x,y,s2 _ _ e⟩
  refine bX (λc3=>?_) (λ_=>O Z ⟨b2,p2⟩);have c3:=bu c3;obtain⟨g1,g2,_,_⟩:=ixs b2;refine⟨_,rfl,_,g1,_,g2,_,rfl,show 3<=sizeLine by decide,λI hT1=>?_⟩;have s3:aD Z (upd Z I (.tup [.str G.1,v,.str "?y"])):=aD.upd hT1;have r3:upd Z I (.tup [.str G.1,v,.str "?y"]) I=some (.tup [.str G.1,v,.str "?y"]):=upd_same;change tSeq _ _ _ _ (upd Z I (.tup [.str G.1,v,.str "?y"]));generalize upd Z I (.tup [.str G.1,v,.str "?y"])=S at s3 r3⊢;have b3:cG p H S:=λb o nb e=>s3 _ _ (b2 b o nb e);obtain⟨_,_,g3,g4⟩:=ixs b3;refine⟨_,rfl,_,g3,_,g4,_,rfl,_,rfl,show 3<=sizeLine by decide,λL hT2=>?_⟩;have s4:aD S (upd S L (.tup [.str N,.ref I,v])):=aD.upd hT2;have r4:upd S L (.tup [.str N,.ref I,v]) L=some (.tup [.str N,.ref I,v]):=upd_same;generalize upd S L (.tup [.str N,.ref I,v])=H4 at s4 r4⊢;have b4:cG p H H4:=λb o nb e=>s4 _ _ (b3 b o nb e);obtain⟨_,_,g5,g6⟩:=ixs b4;refine⟨_,rfl,_,g5,_,g6,_,rfl,_,rfl,show 3<=sizeLine by decide,λT3 hT3=>?_⟩;have s5:aD H4 (upd H4 T3 (.tup [.str N,v,.ref I])):=aD.upd hT3;have r5:upd H4 T3 (.tup [.str N,v,.ref I]) T3=some (.tup [.str N,v,.ref I]):=upd_same;generalize upd H4 T3 (.tup [.str N,v,.ref I])=J at s5 r5⊢;refine⟨show 2<=sizeLine by decide,λT U=>?_⟩;have s6:aD J (upd J T (.tup [.ref L,.ref T3])):=aD.upd U;have r6:upd J T (.tup [.ref L,.ref T3]) T=some (.tup [.ref L,.ref T3]):=upd_same;generalize upd J T (.tup [.ref L,.ref T3])=H6 at s6 r6⊢;have s36:=(s4.trans s5).trans s6;have b6:cG p H H6:=λb o nb e=>s36 _ _ (b3 b o nb e);have p6:aP H6 p:=by obtain⟨x,y,e⟩:=p2;exact⟨x,y,s36 _ _ (s3 _ _ e)⟩
  have tv:=ty b6;have sd:=y6 hdS (s36 _ _ r3) tv (kF so LS 9 H6) (by rw[eC];omega);have e1:=(eL (sm:=sm) G.1 d (.str ("?y" : Str))).1;rw[eC]at e1;have e2:=(eL (sm:=sm) N (.tup [.str G.1,d,.str "?y"]) d).1;have e3:=(eL (sm:=sm) N d (.tup [.str G.1,d,.str "?y"])).1;exact q T _ _ (.ref L) (.ref T3) H6 b6 p6 r6 (y6 hdF (s6 _ _ (s5 _ _ r4)) sd (tv.up (by omega)) (by omega)) (y6 hdF (s6 _ _ r5) (tv.up (by omega)) sd (by omega)) (by omega) (by omega) (KK so t.fl tv.tm hF ms0)
theorem NI {i:cH}{sm:bH}{os:aS}{d:D}(h:bB i sm os d):nds d<=lvs d * (depD d+1):=by
 refine xC (P:=λd=>nds d<=lvs d * (depD d+1)) (λx _=>by unfold nds lvs;exact ac _) (λn ds d hd f a b=>?_) h;obtain⟨m,l,j,_⟩:=eB (sm:=sm) hd;have p:=kU f;have o:=d5 a;have go:∀{es:List D},(∀e∈es,nds e<=lvs e * (depD e+1))->ndss es<=lvss es * (depDs es+1):=λ{es}=>by
  induction es with
  | nil=>intro _;exact au _
  | cons e es b =>
   intro h;have r:=h e av;have q:=b λx c=>h x (ay _ c);rw[ndss,lvss,depDs,Nat.add_mul];have t:=Nat.mul_le_mul_left (lvs e) (Nat.add_le_add_right (Nat.le_max_left (depD e) (depDs es)) 1);have s:=Nat.mul_le_mul_left (lvss es) (Nat.add_le_add_right (Nat.le_max_right (depD e) (depDs es)) 1);omega
 have g:=go b;rw[m,l,j,Nat.mul_succ];omega
theorem JH {a:Addr}{ns:List Int}{σ:St}{H:Hp}{Q:VK}(e:σ[0]?=some (some (.ref a)))(c:dN K H a (ns.map V.int))(q:∀b H1 (ms:List Int),aD H H1->dN K H1 b (ms.map V.int)->Q (.ref b) H1):tOrT K (tVar 0) (tLst (tCons (tC (V.int 7)) tNil)) σ H Q :=
 ⟨_,e,_,.inl ⟨_,c,rfl⟩,bX (λ_=>q a H ns (aD.refl _) c) (λ_=>⟨show 1<=sizeLine by decide,λp d=>q p _ [7] (aD.upd d) (dN.of upd_same)⟩)⟩
theorem K6 (xs:List V)(n:Nat):cutV xs none (some (n:Int))=xs.take n:=by
 unfold cutV;rw[HT.sIx_nat,HT.sIx_none];rcases Nat.le_total n xs.length with h|h
 ·rw[Nat.min_eq_left h];simp
 ·rw[Nat.min_eq_right h];simp[List.take_of_length_le h]
theorem wM (ms:List Int):cutV (ms.map V.int) none (some 3)=(ms.take 3).map V.int:=by have:=K6 (ms.map V.int) 3;rw[List.map_take];exact this
theorem iK.keep {C g:Addr}{d:cH}{sm:bH}{H H':Hp}(s:iK K C d sm H g)(k:∀c o,H c=some o->(∀xs,o≠.lst xs)->H' c=some o):iK K C d sm H' g:=by obtain⟨t,r,q,a,fs,p,b,m,l,j,i,h,f,e⟩:=s;exact⟨t,r,q,a,fs,p,b,k _ _ m λ_ z=>(by cases z),l,j,i,h,k _ _ f λ_ z=>(by cases z),k _ _ e λ_ z=>(by cases z)⟩
theorem qB.keep {P:Addr}{H H':Hp}(h:qB P H)(k:∀c o,H c=some o->(∀xs,o≠.lst xs)->H' c=some o):qB P H':=by
 rcases h with h|⟨i,b,a,d,g,f,e⟩
 ·exact .inl (k _ _ h λ_ z=>by cases z)
 ·exact .inr ⟨i,b,a,d,k _ _ g λ_ z=>(by cases z),k _ _ f λ_ z=>(by cases z),e⟩
structure R6 (K:PySem.W.Frag)(C Pp p g dn:Addr)(fx:cH)(sm:bH)(H1 H:Hp):Prop where
 pt:aP H p
 lt:qB Pp H
 sg:iK K C fx sm H g
 dn:H dn=some (dK31 sm)
 ob:aD H1 H
theorem R6.bp {C Pp p g dn:Addr}{d:cH}{sm:bH}{a H H':Hp}(s:R6 K C Pp p g dn d sm a H)(f:a p=none)(b:cG p H H')(pt:aP H' p):R6 K C Pp p g dn d sm a H':=by obtain⟨⟨x,y,e⟩,lt,sg,i,ob⟩:=s;have k:∀c o,H c=some o->(∀xs,o≠.lst xs)->H' c=some o:=λc o h n=>b c o (λz=>by rw[z,e]at h;cases h;exact n _ rfl) h;exact⟨pt,lt.keep k,sg.keep k,k _ _ i λ_ z=>(by cases z),λc o h=>b c o (aG h f) (ob c o h)⟩
def spLaw (K:PySem.W.Frag)(Pp:Addr):Sp:=λvs H Q _=>∃(a:Addr) (ns:List Int),vs=[.ref a]/\dN K H a (ns.map V.int)/\ns.length<=63/\qB Pp H/\∀H',Q (.bl true) H'
def UA (a Pp:Addr)(H:Hp)(i:Nat)(σ:St)(b:Hp):Prop:=∃m l j h g f e d c:Option V,σ=[some (.ref a),m,l,j,h,g,f,e,d,c]/\cG Pp H b/\qB Pp b
theorem P3 {f C Pp:Addr}{fd:FuncData}(F:gG K "law" "law" rE f fd)(T:Txt mg)(N:dP P w K mg base bN 1 "_law_from" ID)(L:dP P w K mg base bN 1 "_law_take" fP)(u:dP P w K mg base bN 2 "_law_signs" vQ)(O:Q0 P w K mg base bN 3 "Signs" C (BV K C))(I:dP P w K mg base bN 13 "_law_term" (jX 9))
  (r:dP P w K mg base bN 26 "_law_unlike" spUnl) (B:dP P w K mg base bN 66 "_law_other" DM) (G:dP P w K mg base bN 11 "walk" (DJ K C Pp)):bY P w K mg base bN 67 f fd OJ (spLaw K Pp):=by
 refine F.ok kG (λvs H Q E h=>?_) (λcdv A outer s H vs Q E U h=>?_)
 ·obtain⟨a,ns,rfl,_⟩:=h;rfl
 ·obtain⟨a,ns,rfl,hs,n63,lt,q⟩:=h;have hu:=U.units
  refine⟨_,(aC (fB di rfl (cQ K rfl (dX DP (PB (pv 0) (xU (bQ (aA aF aB)))) c5 (cM aF))) (bA (i:=1) kG.nd rfl (Or.inl rfl)) (aC (aU (i:=2) kG.nd rfl (Or.inl rfl) (aM N (U.mono (by decide)) pass0 rfl (aA (pv 1) aB)))
   (aC (aU (i:=3) kG.nd rfl (Or.inl rfl) (aM u (U.mono (by decide)) pass0 rfl (aA (pv 2) aB)))
   (aC (aU (i:=4) kG.nd rfl (Or.inl rfl) (cB (oM rfl) rfl T.n_dict rfl (aA (bC bW (pv 3) aF (λ_ _=>rfl)) aB)))
   (aC (aU (i:=5) kG.nd rfl (Or.inl rfl) (RP O (U.mono (by decide)) pass0 rfl (aA (bC bW (pv 3) aF (λ_ _=>rfl)) (aA (bC bW (pv 3) aF (λ_ _=>rfl)) aB))))
   (aC (aU (i:=6) kG.nd rfl (Or.inl rfl) (aM I (U.mono (by decide)) pass0 rfl (aA (pv 2) (aA (pv 3) (aA (bG bT aF (aM L (U.mono (by decide)) pass0 rfl (aA (pv 2) (aA aF aB)))) (aA aF aB))))))
   (aC (gB (aM r (U.mono (by decide)) pass0 rfl (aA (pv 2) (aA (pv 3) (aA (pv 6) aB)))) (dI K rfl (i:=7) (j:=8) rfl kG.nd rfl rfl rfl rfl))
   (aC (aU (i:=9) kG.nd rfl (Or.inl rfl) (aM B (U.mono (by decide)) pass0 rfl (aA (pv 2) (aA (pv 4) (aA (pv 8) aB)))))
   (aC (bL (PW.pt (lY (aQ sJ (aM G (U.mono (by decide)) pass0 rfl (aA (pv 5) (aA (pv 7) (aA (pv 9) aB)))) iZ (nomark _)) (iW (aQ sJ (aM G (U.mono (by decide)) pass0 rfl (aA (pv 5) (aA (pv 9) (aA (pv 7) aB)))) iZ (nomark _))))) (aH (aN vV)) aR)
   (aH (bL (PW.pt (lY (aQ xY (aM G (U.mono (by decide)) pass0 rfl (aA (pv 5) (aA (pv 8) (aA (pv 9) aB)))) iZ (nomark _)) (iW (aQ xY (aM G (U.mono (by decide)) pass0 rfl (aA (pv 5) (aA (pv 7) (aA (pv 7) aB)))) iZ (nomark _))))) (aH (aN vV)) aR)))))))))))
   (aH (aN vV))),?_⟩
  try dsimp only[cxOf,Cx.nox]
  clear U F T hu N L u O I r B G;simp only[eM];refine JH rfl hs λb0 Hs Z ss hb0=>⟨3,rfl,b0,_,rfl,hb0,λsl hsl=>⟨sl,_,rfl,.inl upd_same,λJ hJ=>?_⟩⟩
  rw[wM]at hJ;have s0:=ss.trans (aD.upd (o:=.lst ((Z.take 3).map V.int)) hsl);have X:upd Hs sl (.lst ((Z.take 3).map V.int)) sl=some (.lst ((Z.take 3).map V.int)):=upd_same;rw[wM];generalize upd Hs sl (.lst ((Z.take 3).map V.int))=H0 at s0 X hJ⊢;have lt0:=lt.same s0;clear lt hs hb0 ss hsl s0;generalize Z.take 3=ms at X hJ;refine gQ hJ (UA a Pp H0) ⟨none,none,none,none,none,none,none,none,none,rfl,λ_ _ _ e=>e,lt0⟩ (λi σ H' _ ⟨_,_,_,_,_,_,_,_,_,_,b,_⟩=>by rw[b _ _ (lt0.ne X λ_=>by simp) X,X]) ?_ ?_
  ·rintro i x σ H1 hx ⟨o1,o2,o3,o4,o5,o6,o7,o8,o9,rfl,b1,lt1⟩;obtain⟨m,hm,rfl⟩:∃m,ms[i]?=some m/\x = .int m:=by
    rw[bI]at hx;cases e:ms[i]? with
    | none=>rw[e]at hx;cases hx
    | some y=>rw[e]at hx;cases hx;exact⟨y,rfl,rfl⟩
   refine⟨_,rfl,m,rfl,λp x y hp=>?_⟩;have s2:aD H1 (upd H1 p (.lst [.int x,.int y])):=aD.upd hp;have p2:aP (upd H1 p (.lst [.int x,.int y])) p:=⟨_,_,upd_same⟩
   generalize upd H1 p (.lst [.int x,.int y])=H2 at s2 p2⊢;refine⟨_,rfl,p,rfl,p2,λt a1 a2 W sm fv sv H3 b3 p3 ht ha hb rf rs so na1 nb1 sg31=>?_⟩;have s3:aD H1 H3:=λc ob e=>b3 c ob (aG e hp) (s2 _ _ e);refine⟨_,rfl,.ref a2,by rw[ixV_t ht];rfl,a2,sv,_,rfl,hb,rs.prs,λdn hdn=>?_⟩;have ndm:(sm.map (·.1)).Nodup:=(List.nodup_append.mp so.nd).2.1;rw[AB ndm];have s7:=aD.upd (o:=dK31 sm) hdn;have d7:upd H3 dn (dK31 sm) dn=some (dK31 sm):=upd_same;change tSeq _ _ _ _ (upd H3 dn (dK31 sm));generalize upd H3 dn (dK31 sm)=H7 at s7 d7⊢;have ht7:=s7 _ _ ht;refine⟨_,rfl,.ref a1,by rw[ixV_t ht7];rfl,_,rfl,.ref a2,by rw[ixV_t ht7];rfl,λg dx hg hdx ng=>?_⟩;have s4':aD H7 (upd (upd H7 dx (.own g)) g (.ins C dx [])):=(aD.upd hdx).trans (aD.upd (by rw[aE (Ne.symm ng)];exact hg));have s34':=s7.trans s4';refine⟨g,dx,a1,a2,W,sm,fv,sv,rfl,upd_same,s34' _ _ ha,s34' _ _ hb,rf.same (aX.of s34'),rs.same (aX.of s34'),so,λH4 b4 sg=>⟨rfl,?_⟩⟩;have s74:aD H7 H4:=λc ob e=>b4 c ob (aG e hg) (s4' _ _ e);have R:aD H3 H4:=s7.trans s74;have p4:aP H4 p:=by obtain⟨x',y',e⟩:=p3;exact⟨x',y',R _ _ e⟩
   have s14:=s3.trans R;have S:LD p t W sm H4:=⟨a1,a2,fv,sv,R _ _ ht,R _ _ ha,R _ _ hb,rf.same (aX.of R),rs.same (aX.of R),na1,nb1⟩
   have S4:R6 K C Pp p g dn W sm H1 H4:=⟨p4,lt1.same s14,sg,s74 _ _ d7,s14⟩
   clear b3 b4 s4' hg hdx ng p3 p2 s34' s74 R s7 d7 hdn ht7 rf rs ht ha hb na1 nb1 s3 s2 s14 sg;refine⟨_,rfl,_,rfl,_,rfl,p,36,rfl,p4,by decide,by decide,λk x5 y5 k0 k1=>.inl ⟨_,rfl,?_⟩⟩;obtain⟨Y,hroom⟩:∃Y:Nat,1+k=(Y:Int):=⟨(1+k).toNat,by omega⟩
   rw[hroom];have b5:cG p H4 (upd H4 p (.lst [.int x5,.int y5])):=cG.upd p H4 _;have p5:aP (upd H4 p (.lst [.int x5,.int y5])) p:=⟨_,_,upd_same⟩
   generalize upd H4 p (.lst [.int x5,.int y5])=H5 at b5 p5⊢;refine⟨p,t,W,sm,Y,9,rfl,⟨p5,S.but b5 p4,so,sg31⟩,by omega,by omega,ac _,λd v H6 b6 p6 rep tm fl lv dp=>?_⟩;have b46:=b5.trans b6;have S6:=S4.bp hp b46 p6;refine⟨_,rfl,_,rfl,_,rfl,p,t,W,sm,d,v,rfl,⟨p6,S.but b46 p4,so,sg31⟩,⟨rep,fl,tm,by omega,dp⟩,by omega,λT d1 d2 v1 v2 H7 b7 p7 hT t1 t2 l1 l2 ne=>?_⟩;have S7:=S6.bp hp b7 p7;refine⟨T,_,rfl,gF.of hT,rfl,_,_,rfl,_,_,rfl,rfl,?_⟩;refine⟨_,rfl,_,rfl,_,rfl,p,dn,W,sm,wiY,d2,v2,rfl,p7,S7.dn,so,iS,t2,l2,λe ve H8 b8 p8 te fe le=>?_⟩;have S8:=S7.bp hp b8 p8;have t1:=t1.bp b8 p7;have t2:=t2.bp b8 p7;have few:∀{d:D} {v:V} {H:Hp},Tq W sm wiY 11 d v H->lvs d<=40->RB W sm wiY d/\(lvs d+depD d<=51/\nds d+lvs d<=600):=λ{d v H} t l=>by have h0:=t.dp;have h1:=NI t.tm;have h2:lvs d * (depD d+1)<=40 * 12:=Nat.mul_le_mul l (by omega);exact⟨⟨so,iS,t.tm,by omega,by omega,by omega⟩,by omega,by omega⟩
   obtain⟨m1,f1⟩:=few t1 l1;obtain⟨m2,f2⟩:=few t2 l2;obtain⟨me,fe'⟩:=few te le;have w1:=t1.re;have w2:=t2.re;have we:=te.re;have ne1:flt sm d1≠flt sm e:=λz=>ne (z.trans fe);obtain⟨_,L8,sg8,_,o8⟩:=S8;clear few t1 t2 te b5 p5 b6 p6 S p4 S4 S6 S7 b46 b7 b8 p7 p8 k0 k1 hT rep tm fl lv dp ne;refine⟨_,rfl,_,rfl,_,rfl,g,W,sm,wiY,d1,e,v1,ve,rfl,sg8,w1,we,m1,me,f1,fe',L8,λ_ H9 b9 L9=>?_,λz=>absurd z ne1⟩;refine⟨rfl,_,rfl,bX (λz=>absurd z (by decide)) (λ_=>?_)⟩;refine⟨_,rfl,_,rfl,_,rfl,g,W,sm,wiY,e,d1,ve,v1,rfl,L8.sg b9 sg8,L8.rep b9 we,L8.rep b9 w1,me,m1,fe',f1,L9,λ_ Ha ba La=>?_,λz=>absurd z.symm ne1⟩;have ba:=b9.trans ba;refine⟨rfl,_,rfl,bX (λz=>absurd z (by decide)) (λ_=>?_)⟩;refine⟨_,rfl,_,rfl,_,rfl,g,W,sm,wiY,d2,e,v2,ve,rfl,L8.sg ba sg8,L8.rep ba w2,L8.rep ba we,m2,me,f2,fe',La,λz=>absurd fe.symm z,λ_ l us _ _ _ Hb bb Lb _ _ _ _ _=>?_⟩;have bb:=ba.trans bb;refine⟨rfl,_,rfl,bX (λz=>nomatch bu z) (λ_=>?_)⟩;refine⟨_,rfl,_,rfl,_,rfl,g,W,sm,wiY,d1,d1,v1,v1,rfl,L8.sg bb sg8,L8.rep bb w1,L8.rep bb w1,m1,m1,f1,f1,Lb,λz=>absurd rfl z,λ_ l us _ _ _ Hc bc Lc _ _ _ _ _=>?_⟩;refine⟨rfl,_,rfl,bX (λz=>nomatch bu z) (λ_=>?_)⟩;exact⟨_,_,_,_,_,_,_,_,_,rfl,λc o n h=>(bb.trans bc) c o n (o8 _ _ (b1 c o n h)),Lc⟩
  ·exact λσ H1 _=>q H1
noncomputable def bEs (p:Params)(t1 h t3 g f e d c b a:Tok):Array DictEntry:=#[⟨PyData.keyHash p "turn",.str "turn" t1,.str "turn" e⟩,⟨PyData.keyHash p "left",.str "left" h,.str "right" d⟩,⟨PyData.keyHash p "right",.str "right" t3,.str "left" c⟩,⟨PyData.keyHash p "drop",.str "drop" g,.str "add" b⟩,⟨PyData.keyHash p "add",.str "add" f,.str "drop" a⟩]
theorem NY {i:Addr}{t1 o t3 m j g f d c b:Tok}{p:Nat}(ns:(i == sysModules)=false)(l:K.lookup i=some ⟨.type "dict",none,.dict (bEs w.params t1 o t3 m j g f d c b) p,#[]⟩):R9 P w K i bkV:=by
 refine⟨ns,λh X=>⟨[(.inr "turn",.str "turn" g),(.inr "left",.str "right" f),(.inr "right",.str "left" d),(.inr "drop",.str "add" c),(.inr "add",.str "drop" b)],?_,?_⟩⟩
 ·exact .cons ⟨rfl,⟨_,rfl⟩⟩ (.cons ⟨rfl,⟨_,rfl⟩⟩ (.cons ⟨rfl,⟨_,rfl⟩⟩ (.cons ⟨rfl,⟨_,rfl⟩⟩ (.cons ⟨rfl,⟨_,rfl⟩⟩ .nil))))
 ·have ks:∀(x:Str) (t:Tok),(cN P w).is (.inr x) (.str x t)=true:=λx t=>qU x t;refine⟨_,_,_,X _ _ l,⟨rfl,rfl,rfl⟩,rfl,?_,.cons (ks _ _) rfl (.cons (ks _ _) rfl (.cons (ks _ _) rfl (.cons (ks _ _) rfl (.cons (ks _ _) rfl .nil)))),?_⟩
  ·intro e a;have a:e∈(bEs w.params t1 o t3 m j g f d c b).toList:=Array.mem_toList_iff.mpr a;simp only[bEs,cu,List.not_mem_nil,or_false]at a;rcases a with rfl|rfl|rfl|rfl|rfl <;> exact⟨_,ks _ _,rfl⟩
  ·show([.inr "turn",.inr "left",.inr "right",.inr "drop",.inr "add"]:List fR).Nodup;decide +kernel
end
end Lw
namespace Lw
open PySem PySem.Spec PyProof.Rows PySem.W L2
theorem C0 {K:Frag}{h:Heap}{x:Str}{c Pt:Addr}(X:K.In h)(a:tabIn K x=some (c,Pt))(C:CodeHd h c Pt):∀h',K.In h'->CodeHd h' c Pt:=by
 have b:∃o,K.lookup c=some o:=by
  unfold tabIn at a;split at a
  ·split at a
   ·split at a
    ·split at a
     ·rename_i t _ _ _ _ _ p;split at a
      ·cases a;exact⟨_,p⟩
      ·cases a
     ·cases a
    ·cases a
   ·cases a
  ·cases a
 obtain⟨o,b⟩:=b;obtain⟨s,vs,r1,m,l,j,i,g,f,e,r⟩:=C;intro h' q;have d:=X _ _ b;rw[e]at d;cases d;exact⟨_,vs,r1,m,l,j,i,g,f,q _ _ b,r⟩
theorem GL {P:Program}{w:World}{K:Frag}{mg S:jF}{k:Nat}{X a c Pt:Addr}{fd:FuncData}{x:Str}{sp:Sp}{f:Shared}{vs:cA}{ns:List Int}
  (KX:K.In f.heap) (G:f.heap.Ns mainGlobals mg) (g:f.heap.Ns builtinsNs S) (U:∀x:Str,x≠"__name__"->S x=bootBuiltins x) (I:f.heap.NoLimit) (hg:f.gens = #[])
  (C:f.heap.get? a=some {cls:=.type "list",data:=.seq vs.toArray}) (hi:IntsAre vs ns) (hl:ns.length<=sizeLine) (hr:eP k callerA)
  (hT:CodeHd f.heap c Pt) (B:f.heap.get? Pt=some (tabObj #[])) (W:K.lookup Pt=none) (hB:Bm mg f.heap)
  (F:∀base:Heap,K.In base->base.Ns mainGlobals mg->Bm mg base->bY P w K mg base bN k X fd [x] sp) (A:∀(s:Shared) (u:Value),BindsTo s fd ⟨[u],[]⟩ [(x,u)])
  (T:∀H:Hp,(∀xs,H a≠some (.lst xs))->H Pt=some (.tbl #[])->dN K H a (ns.map V.int)->sp [.ref a] H (λv _=>v = .bl true) λ_ _ _=>False) :
  codeAny (model P w) callerA (.call (.ref X) ⟨[.ref a],[]⟩) (λr i=>r = .ok (.ret (.bool true))/\OldK f.heap i.heap/\i.os=f.os/\AllBare i.gens) f:=by
 have rv:=vM hi;have lenV:=hi.length;have t:Pt≠a:=λz=>by rw[z,C]at B;cases B
 have p:∀H:Hp,H Pt=some (.tbl #[])->(∀b,b≠Pt->H b≠none->b=a/\K.lookup a=none/\∃o xs,H a=some (.frz o (.lst xs)))->dN K H a (ns.map V.int)->gX P w H f.heap ->
   codeAny (model P w) callerA (.call (.ref X) ⟨[.ref a],[]⟩) (λr i=>r = .ok (.ret (.bool true))/\OldK f.heap i.heap/\i.os=f.os/\AllBare i.gens) f:=by
  intro H hH N hS hok;have free:∀{b:Addr} {o:Obj},f.heap.get? b=some o->o≠tabObj #[]->(b=a->K.lookup a=none->False)->H b=none:=λ{b o} e n n2=>by
   cases q:H b with
   | none=>rfl
   | some u =>
    by_cases z:b=Pt
    ·rw[z,B]at e;exact absurd (Option.some.inj e).symm n
    ·obtain⟨R,E,_⟩:=N b z (by rw[q];simp);exact(n2 R E).elim
  have j:∀{b:Addr} {m:jF},f.heap.Ns b m->(hidT f.heap H).Ns b m:=λ{b m} ⟨o,es,ep,e,d,r⟩=>⟨o,es,ep,uC e (free e (λz=>by rw[z]at d;cases d) (λz _=>by rw[z,C]at e;cases e;cases d)),d,r⟩
  have J:K.In (hidT f.heap H):=λb o e=>uC (KX b o e) (by
   cases q:H b with
   | none=>rfl
   | some u =>
    by_cases z:b=Pt
    ·rw[z,W]at e;cases e
    ·obtain⟨R,E,_⟩:=N b z (by rw[q];simp)
     rw[R,E]at e;cases e)
  have hM:Mod K mg (hidT f.heap H):=⟨J,j G,⟨S,j g,U⟩,let⟨mc,h1,h2⟩:=I;⟨mc,j h1,h2⟩⟩
  have hB':Bm mg (hidT f.heap H):=by obtain⟨bm,o,Q,Z,e3,O,Y,e6,e7⟩:=hB;exact⟨bm,o,Q,Z,e3,uC O (free O (λz=>by rw[z]at Y;cases Y) (λz _=>by rw[z,C]at O;cases O;cases e7)),Y,e6,e7⟩
  have e0:y3 P w K mg (hidT f.heap H) callerA [] f H:=⟨rfl,hM,λb o e=>NH e,Nat.le_of_eq (GP _ _),trivial,λb g=>absurd (show b∈([]:List Addr)from g) (by simp),hok,.of_eq hg⟩
  have nl:∀xs,H a≠some (.lst xs):=λxs z=>by obtain⟨_,_,o,ys,e⟩:=N a (Ne.symm t) (by rw[z];simp);rw[z]at e;cases e
  refine codeAny_mono ((F _ J (j G) hB').run callerA [] f H ⟨[.ref a],[]⟩ [.ref a] [.ref a] _ _ hr e0 (A f (.ref a)) (.cons rfl .nil) (T H nl hH hS)) λr i h=>?_;cases r with
  | error e=>exact False.elim h
  | ok fl =>
   cases fl with
   | next=>exact False.elim h
   | brk=>exact False.elim h
   | cont=>exact False.elim h
   | ret u =>
    obtain⟨v,H',os,bare,un,l,r',q⟩:=h;have q':v = .bl true:=q;subst q';obtain rfl:u=Value.bool true:=r';have keep:∀b o,b≠Pt->f.heap.get? b=some o->i.heap.get? b=some o:=λb o n e=>by
     cases q:H b with
     | none=>exact un.keep b o e q (by intro z;exact absurd (show b∈([]:List Addr)from z) (by simp)) (by simp)
     | some u =>
      obtain⟨rfl,_,ob,xs,z⟩:=N b n (by rw[q];simp);have E:=un.frzs b ob _ z;obtain⟨Q,_⟩:=hok b _ z;obtain⟨Z,_⟩:=l b _ E;rw[e]at Q;cases Q;exact Z
    obtain⟨more,hm⟩:=un.tbls Pt #[] hH;have gP:i.heap.get? Pt=some (tabObj (#[]++more)):=l Pt _ hm;refine⟨rfl,⟨λb o e=>?_,λb o e=>?_⟩,os,bare⟩
    ·by_cases z:b=Pt
     ·subst z;rw[B]at e;cases e;exact .inr (.inl ⟨(hT.tab B).isCodeTable,rfl,#[],more,rfl,gP⟩)
     ·exact .inl (keep b o z e)
    ·by_cases z:b=Pt
     ·subst z;exact⟨_,gP⟩
     ·exact⟨o,keep b o z e⟩
 cases hk:K.lookup a with
 | some o =>
  have e:=KX a o hk;rw[C]at e;cases e;refine p (λb=>if b=Pt then some (.tbl #[])else none) (ai rfl) (λb n z=>absurd (ab n) z) (.inr ⟨_,vs.toArray,_,hk,rfl,rfl,rfl,by rw[ag,lenV];exact hl,by simpa using rv⟩) λb u z=>?_;by_cases g:b=Pt
  ·have z':=(ai g).symm.trans z;cases z';subst g;exact B
  ·have z':=(ab g).symm.trans z;cases z'
 | none =>
  refine p (λb=>if b=Pt then some (.tbl #[])else if b=a then some (.frz {cls:=.type "list",data:=.seq vs.toArray} (.lst (ns.map V.int)))else none) (ai rfl) (λb n z=>?_) (.inl (.inr ⟨{cls:=.type "list",data:=.seq vs.toArray},(ab (Ne.symm t)).trans (ai rfl)⟩)) (λb u z=>?_)
  ·by_cases g:b=a
   ·exact⟨g,hk,_,_,(ab (Ne.symm t)).trans (ai rfl)⟩
   ·exact absurd ((ab n).trans (ab g)) z
  ·by_cases L:b=Pt
   ·have z':=(ai L).symm.trans z;cases z';subst L;exact B
   ·by_cases g:b=a
    ·have z':=((ab L).trans (ai g)).symm.trans z;cases z';subst g;exact⟨C,by rw[ae];exact hl,vs,_,rv,C⟩
    ·have z':=((ab L).trans (ab g)).symm.trans z;cases z'
theorem walkT {l:PySem.W.OpenLaw}{q:Program}{loose:aS}{XP:(jF)->Heap->Prop}{YP:World->Heap->Prop}{d dp:DefRec}{K:Params->PySem.W.Frag}(O:l.most=some 63)(t:d.params.defaults=[])
  (S:∀(w:World) (h:Heap),YP w h->(K w.params).In h) (N:(recsOf q).find? (λe=>e.name == ("paired" : Str))=some dp)
  (F:∀(w:World) (mg:jF) (p:Addr) (h:Heap),(K w.params).In h->h.Ns mainGlobals mg->mg d.name=some (.ref p) ->
   ∃(x:FuncData) (c Pt:Addr),tabIn (K w.params) "paired" = some (c,Pt)/\(K w.params).lookup Pt=none/\(∀(s:Shared) (u:Value),BindsTo s x ⟨[u],[]⟩ [("_law_script",u)]) /\
    ∀base:Heap,(K w.params).In base->base.Ns mainGlobals mg->Bm mg base->(∀h,(K w.params).In h->CodeHd h c Pt)->bY l.prog w (K w.params) mg base bN 67 p x ["_law_script"] (spLaw (K w.params) Pt)) :
  PySem.W.WalkO q loose XP YP l.row.toRowW d [] (λf vs=>PySem.call f vs):=by
 refine Att.A6 O t λw s0 J mg mb p o pm cd doc a vs ns G Y ho hd Q r m j i P=>?_;have KX:=S w _ Y;obtain⟨x,c,Pt,B,v,R,hF⟩:=F w mg p _ KX G.T.g r;obtain⟨C,X⟩:=tab_of G.T KX N B;have hB:Bm mg J.heap:=by obtain⟨bm,ob,e1,e2,A,e4,e5,I⟩:=G.T.bmain;refine⟨bm,ob,e1,e2,λz=>?_,A,e4,e5,I⟩;obtain⟨o',es,ep,g1,E,_⟩:=G.T.g;rw[z,g1]at A;cases A;rw[I]at E;cases E
 exact GL KX G.T.g G.T.b G.T.builtins G.T.nolimit P m j (ao i (by decide)) ⟨rfl,by decide,by decide⟩ C X v hB (λbase L nb bb=>hF base L nb bb (C0 KX B C)) R
  λH nl Z U=>⟨a,ns,rfl,U,i,.inl Z,λ_=>rfl⟩
theorem lenS {n:Nat}{us:cA}{P:cA->Prop}(h:us.length=n+1)(k:∀a t,t.length=n->P (a::t)):P us:=by
 cases us
 ·cases h
 ·exact k _ _ (Nat.succ.inj h)
theorem len1 {us:cA}{P:cA->Prop}(h:us.length=1)(k:∀a,P [a]):P us:=lenS h λa t h=>by cases t;exact k a;cases h
theorem len2 {us:cA}{P:cA->Prop}(h:us.length=2)(k:∀a b,P [a,b]):P us:=lenS h λa _ h=>len1 (P:=λt=>P (a::t)) h (k a)
theorem len3 {us:cA}{P:cA->Prop}(h:us.length=3)(k:∀a b c,P [a,b,c]):P us:=lenS h λa _ h=>len2 (P:=λt=>P (a::t)) h (k a)
theorem len4 {us:cA}{P:cA->Prop}(h:us.length=4)(k:∀a b c d,P [a,b,c,d]):P us:=lenS h λa _ h=>len3 (P:=λt=>P (a::t)) h (k a)
def bV (K:PySem.W.Frag)(x:Str)(st:Stmt)(f:Addr):Prop:=(nsIn K mainGlobals x=some (some (.ref f))/\keepIn K (.ref f)=true)/\∃d od kV e c g a ct b,K.lookup f=some ⟨d,od,.func (PySem.W.fnOf x x (c6 st) (cP st) (aJ st) .none kV e c g a ct),b⟩/\codeIn K a x=true
theorem bV.mk {K:PySem.W.Frag}{x:Str}{st:Stmt}{f:Addr}{h kV i g d ct:Value}{od j:Option Addr}{e:Array (Option Value)}(a:nsIn K mainGlobals x=some (some (.ref f)))(b:keepIn K (.ref f)=true)(l:K.lookup f=some ⟨h,od,.func (PySem.W.fnOf x x (c6 st) (cP st) (aJ st) .none kV i g j d ct),e⟩)(c:codeIn K d x=true):bV K x st f:=⟨⟨a,b⟩,_,_,_,_,_,_,_,_,_,l,c⟩
theorem bV.use {K:PySem.W.Frag}{x:Str}{st:Stmt}{f:Addr}{h:Heap}{mg:jF}{ps:aS}{R:Prop}(a:bV K x st f)(X:K.In h)(G:h.Ns mainGlobals mg)(ok:∀d,gG K x x st f d->mg x=some (.ref f)->keepIn K (.ref f)=true->eN K d ps []->R)(g:∀(kV b e:Value) (an:Option Addr) (cdv ct:Value) (us:cA),us.length=ps.length->bindArgs (PySem.W.fnOf x x (c6 st) (cP st) (aJ st) .none kV b e an cdv ct) ⟨us,[]⟩=pure (ps.zip us)):R:=by obtain⟨⟨a,k⟩,_,_,_,_,_,_,_,_,_,l,c⟩:=a;exact ok _ (oI l c k) (dc X G a) k ((oI l c k).binds g)
theorem bV.own {K:PySem.W.Frag}{x:Str}{st:Stmt}{f:Addr}{h base:Heap}{mg:jF}{ps:aS}{P:Program}{w:World}{CX:BJ}{k:Nat}{d:Sp}(a:bV K x st f)(X:K.In h)(G:h.Ns mainGlobals mg)(ok:∀e,gG K x x st f e->bY P w K mg base CX k f e ps d)(i:∀(kV c g:Value) (an:Option Addr) (cdv ct:Value) (us:cA),us.length=ps.length->bindArgs (PySem.W.fnOf x x (c6 st) (cP st) (aJ st) .none kV c g an cdv ct) ⟨us,[]⟩=pure (ps.zip us)):dP P w K mg base CX k x d:=a.use X G (λ_ F m k b=>⟨_,_,_,ok _ F,m,k,b⟩) i
theorem QV {l:PySem.W.OpenLaw}{w:World}{K:PySem.W.Frag}{h:Heap}{mg:jF}{fa C cc Pt f1 f2 f3 f4 f5 f6 f7 f8 f9 f10 f11 f12 f13 f14 f15 f16 f17 f18 f19 f20 f21 f22 f23 f24 f25 f26 f27 f28 f29 f30 f31 f32 f33 f34 f35 f36 f37 f38 f39 f40 f41 f42 f43:Addr}(X:K.In h)(G:h.Ns mainGlobals mg)(hfa:mg "law" = some (.ref fa))
  {od7 an7 od8 an8 od20 an20 od27 an27:Option Addr} {sl7 sl8 sl20 sl27:Array (Option Value)} {oc7 kV7 dc7 pm7 ct7 cd7 oc8 kV8 dc8 pm8 ct8 cd8 oc20 kV20 dc20 pm20 ct20 oc27 kV27 dc27 pm27 ct27 cd27:Value} {tk0 tk1 tk2 tk3 tk4 tk5 tk6 tk7:Tok} {odq:Option Addr} {ocq:Value} {vq:iR} {slq:Array (Option Value)}
  {dD:Addr} {u1 u2 u3 u4 u5 u6 u7 u8 u9 u0:Tok} {epD:Nat}
  (m0:nsIn K mainGlobals "Signs" = some (some (.ref C)))
  (a1:bV K "_law_from" jK f1)
  (a2:bV K "_law_take" jI f2)
  (a3:bV K "_law_signs" d8 f3)
  (a4:bV K "_law_leaf" jJ f4)
  (a5:bV K "_law_head" gZ f5)
  (a6:bV K "_law_term" fT f6)
  (a7:findIn K (.ref C) "many" = some (some (.ref f7)))
  (l7:K.lookup f7=some ⟨oc7,od7,.func (PySem.W.fnOf "many" "Signs.many" (c6 eA) (cP eA) (aJ eA) .none kV7 dc7 pm7 an7 cd7 ct7),sl7⟩)
  (c7:codeIn K cd7 "Signs.many" = true)
  (k7:keepIn K (.ref f7)=true)
  (n7:isFn K (.ref f7)=true)
  (a8:findIn K (.ref C) "nought" = some (some (.ref f8)))
  (l8:K.lookup f8=some ⟨oc8,od8,.func (PySem.W.fnOf "nought" "Signs.nought" (c6 cY) (cP cY) (aJ cY) .none kV8 dc8 pm8 an8 cd8 ct8),sl8⟩)
  (c8:codeIn K cd8 "Signs.nought" = true)
  (k8:keepIn K (.ref f8)=true)
  (n8:isFn K (.ref f8)=true)
  (a9:bV K "is_wish" j5 f9)
  (a10:bV K "is_built" kK f10)
  (a11:bV K "check_term" fY f11)
  (a12:bV K "walked" pD f12)
  (a13:bV K "order_mark" iE f13)
  (a14:bV K "order_key" gY f14)
  (a15:bV K "opened" pE f15)
  (a16:bV K "flat_sum" kM f16)
  (a17:bV K "flat_of_parts" fL f17)
  (a18:bV K "in_pairs" kL f18)
  (a19:bV K "from_within" fF f19)
  (a20:nsIn K mainGlobals "paired" = some (some (.ref f20)))
  (l20:K.lookup f20=some ⟨oc20,od20,.func (PySem.W.fnOf "paired" "paired" (c6 cS) (cP cS) (aJ cS) .none kV20 dc20 pm20 an20 (.ref cc) ct20),sl20⟩)
  (c20:codeIn K (.ref cc) "paired" = true)
  (k20:keepIn K (.ref f20)=true)
  (t2:K.lookup cc=some ⟨ocq,odq,.fields vq,slq⟩)
  (t3:vq[11]?=some (.ref Pt))
  (t0:tabIn K "paired" = some (cc,Pt))
  (t1:K.lookup Pt=none)
  (a21:bV K "is_name" j6 f21)
  (a22:bV K "is_whole" kJ f22)
  (a23:bV K "checked_pairs" eE f23)
  (a24:bV K "check_names" eG f24)
  (a25:bV K "check_parts" fG f25)
  (a26:bV K "check_noughts" eF f26)
  (a27:findIn K (.ref C) "__init__" = some (some (.ref f27)))
  (l27:K.lookup f27=some ⟨oc27,od27,.func (PySem.W.fnOf "__init__" "Signs.__init__" (c6 cD) (cP cD) (aJ cD) .none kV27 dc27 pm27 an27 cd27 ct27),sl27⟩)
  (c27:codeIn K cd27 "Signs.__init__" = true)
  (k27:keepIn K (.ref f27)=true)
  (n27:isFn K (.ref f27)=true)
  (a28:bV K "placed" lX f28)
  (a29:bV K "steps_inward" eT f29)
  (a30:bV K "steps_of_sum" eQ f30)
  (a31:bV K "led_to_flat" fE f31)
  (a32:bV K "walk" tH f32)
  (a33:bV K "_law_leaves" eH f33)
  (a34:bV K "_law_depth" eY f34)
  (a35:bV K "_law_leaf_at" eU f35)
  (a36:bV K "_law_with_leaf" dW f36)
  (a37:bV K "_law_parts" fZ f37)
  (a38:bV K "_law_mixed" iG f38)
  (a39:bV K "_law_bracketed" eZ f39)
  (a40:bV K "_law_shuffled" dC f40)
  (a41:bV K "_law_other" iF f41)
  (a42:bV K "_law_unlike" gL f42)
  (a43:bV K "law" rE f43)
  (g1:plainGet K C Str.empty=true)
  (g2:hasDictIn K C=true)
  (g3:plainOver K C=true)
  (g4:findIn K (.ref C) "__setattr__" = some (some (.builtin "object.__setattr__")))
  (h0:findIn K (.ref C) "fixed_rows" = some none)
  (h1:findIn K (.ref C) "sum_rows" = some none)
  (h2:findIn K (.ref C) "many_by_name" = some none)
  (h3:findIn K (.ref C) "nought_by_name" = some none)
  (g5:makesIn K C=true)
  (g6:keepIn K (.ref C)=true)
  (v0:nsIn K mainGlobals "WISH_SIGNS" = some (some (.str "abcdefghijklmnopqrstuvwxyz0123456789" tk0)))
  (v1:nsIn K mainGlobals "LETTERS" = some (some (.str "abcdefghijklmnopqrstuvwxyz" tk1)))
  (v2:nsIn K mainGlobals "LONGEST_WISH" = some (some (.int 9 tk2)))
  (v3:nsIn K mainGlobals "DEEPEST" = some (some (.int 1000 tk3)))
  (v4:nsIn K mainGlobals "LONGEST_NAME" = some (some (.int 6 tk4)))
  (v5:nsIn K mainGlobals "MOST_FIXED" = some (some (.int 12 tk5)))
  (v6:nsIn K mainGlobals "MOST_SUMS" = some (some (.int 3 tk6)))
  (v7:nsIn K mainGlobals "MOST_PARTS" = some (some (.int 3 tk7)))
  (y0:(dD == sysModules)=false)
  (w0:nsIn K mainGlobals "BACK" = some (some (.ref dD)))
  (w1:K.lookup dD=some ⟨.type "dict",none,.dict (bEs w.params u1 u2 u3 u4 u5 u6 u7 u8 u9 u0) epD,#[]⟩)
  (z0:nsIn K mainGlobals "len" = some none)
  (z1:nsIn K mainGlobals "range" = some none)
  (z2:nsIn K mainGlobals "int" = some none)
  (z3:nsIn K mainGlobals "abs" = some none)
  (z4:nsIn K mainGlobals "min" = some none)
  (z5:nsIn K mainGlobals "max" = some none)
  (z6:nsIn K mainGlobals "tuple" = some none)
  (z7:nsIn K mainGlobals "list" = some none)
  (z8:nsIn K mainGlobals "dict" = some none)
  (z9:nsIn K mainGlobals "set" = some none)
  (z10:nsIn K mainGlobals "isinstance" = some none)
  (z11:nsIn K mainGlobals "str" = some none)
  (z12:nsIn K mainGlobals "bool" = some none)
  (z13:nsIn K mainGlobals "sorted" = some none)
  (z14:nsIn K mainGlobals "reversed" = some none)
  (z15:nsIn K mainGlobals "all" = some none)
  (z16:nsIn K mainGlobals "any" = some none)
  (z17:nsIn K mainGlobals "zip" = some none)
  (z18:nsIn K mainGlobals "repr" = some none)
  (z19:nsIn K mainGlobals "sum" = some none)
  (z20:nsIn K mainGlobals "enumerate" = some none)
  : ∃(fd:FuncData) (c Pt:Addr),tabIn K "paired" = some (c,Pt)/\K.lookup Pt=none/\(∀(s:Shared) (v:Value),BindsTo s fd ⟨[v],[]⟩ [("_law_script",v)]) /\
   ∀base:Heap,K.In base->base.Ns mainGlobals mg->Bm mg base->(∀h,K.In h->CodeHd h c Pt)->bY l.prog w K mg base bN 67 fa fd ["_law_script"] (spLaw K Pt):=by
 obtain⟨⟨a43,k43⟩,_,_,kV43,dc43,pm43,an43,cd43,ct43,_,l43,c43⟩:=a43;have e:=hfa.symm.trans (dc X G a43);cases e;have T:Txt mg:=⟨de X G z0,de X G z1,de X G z2,de X G z3,de X G z4,de X G z5,de X G z6,de X G z7,de X G z8,de X G z9,de X G z10,de X G z11,de X G z12,de X G z13,de X G z14,de X G z15,de X G z16,de X G z17,de X G z18,de X G z19,de X G z20,⟨_,dc X G v0,⟨_,rfl⟩⟩,⟨_,dc X G v1,⟨_,rfl⟩⟩,⟨_,dc X G v2,⟨_,rfl⟩⟩,⟨_,dc X G v3,⟨_,rfl⟩⟩,⟨_,dc X G v4,⟨_,rfl⟩⟩,⟨_,dc X G v5,⟨_,rfl⟩⟩,⟨_,dc X G v6,⟨_,rfl⟩⟩,⟨_,dc X G v7,⟨_,rfl⟩⟩⟩
 have hns:=y0;have hG:∃u,mg "BACK" = some u/\aY (.ref dD) u:=⟨_,dc X G w0,rfl⟩
 have hKD:=NY (P:=l.prog) (w:=w) hns w1;have cl:HA K C:=⟨g1,g2,g3,g4⟩
 have co:ON K C:=⟨cl,h0,h1,h2,h3⟩
 have F7:=oI (st:=eA) l7 c7 k7;have b7:=F7.binds (ps:=lD) λ_ _ _ _ _ _ us hl=>by apply len2 hl;intros;rfl
 have F8:=oI (st:=cY) l8 c8 k8;have b8:=F8.binds (ps:=jB) λ_ _ _ _ _ _ us hl=>by apply len2 hl;intros;rfl
 have F20:=oI (st:=cS) l20 c20 k20;have b20:=F20.binds (ps:=uO) λ_ _ _ _ _ _ us hl=>by apply len2 hl;intros;rfl
 have F27:=oI (st:=cD) l27 c27 k27;have b27:=F27.binds (ps:=gJ) λ_ _ _ _ _ _ us hl=>by apply len3 hl;intros;rfl
 have F43:=oI (st:=rE) l43 c43 k43;refine⟨PySem.W.fnOf "law" "law" (c6 rE) (cP rE) (aJ rE) .none kV43 dc43 pm43 an43 cd43 ct43,cc,Pt,t0,t1,λs v=>.of_eq rfl,λbase _ _ hB hC=>?_⟩;have O__law_from:=a1.own (base:=base) (P:=l.prog) (w:=w) X G (λ_ F=>NG F T) (λ_ _ _ _ _ _ _ hl=>by apply len1 hl;intros;rfl);have a:=a2.own (base:=base) (P:=l.prog) (w:=w) X G (λ_ F=>M6 F T) (λ_ _ _ _ _ _ _ hl=>by apply len2 hl;intros;rfl);have O:=a3.own X G (λ_ F=>JQ F T a) (λ_ _ _ _ _ _ _ hl=>by apply len1 hl;intros;rfl);have O__law_leaf:=a4.own X G (λ_ F=>NC F T a) (λ_ _ _ _ _ _ _ hl=>by apply len2 hl;intros;rfl);have O__law_head:=a5.own X G (λ_ F=>NE F T a) (λ_ _ _ _ _ _ _ hl=>by apply len3 hl;intros;rfl);have O__law_term:=a6.use X G (λ_ F m k b=>JE F T a O__law_leaf O__law_head m k b 9) (λ_ _ _ _ _ _ _ hl=>by apply len4 hl;intros;rfl);have Y:BF l.prog w K mg base bN 1 C "many" (BU K C):=⟨f7,_,_,NB F7 T,⟨a7,n7,k7⟩,b7,cl⟩
 have d:BF l.prog w K mg base bN 1 C "nought" (jY K C):=⟨f8,_,_,F5 F8 T,⟨a8,n8,k8⟩,b8,cl⟩
 have O_is_wish:=a9.own (base:=base) (P:=l.prog) (w:=w) X G (λ_ F=>M3 F T) (λ_ _ _ _ _ _ _ hl=>by apply len1 hl;intros;rfl);have O_is_built:=a10.own X G (λ_ F=>JV F T O_is_wish Y d) (λ_ _ _ _ _ _ _ hl=>by apply len2 hl;intros;rfl);have N:=a11.own X G (λ_ F=>JU F T O_is_built) (λ_ _ _ _ _ _ _ hl=>by apply len2 hl;intros;rfl);have Z:=a12.own (base:=base) (P:=l.prog) (w:=w) X G (λ_ F=>F2 F T) (λ_ _ _ _ _ _ _ hl=>by apply len1 hl;intros;rfl);have L:=a13.own (base:=base) (P:=l.prog) (w:=w) X G (λ_ F=>NA F T) (λ_ _ _ _ _ _ _ hl=>by apply len1 hl;intros;rfl);have g:=a14.own X G (λ_ F=>P4 F T L Z) (λ_ _ _ _ _ _ _ hl=>by apply len1 hl;intros;rfl);have O_opened:=a15.own (base:=base) (P:=l.prog) (w:=w) X G (λ_ F=>B6 F T) (λ_ _ _ _ _ _ _ hl=>by apply len2 hl;intros;rfl);have O_flat_sum:=a16.own X G (λ_ F=>B9 F T O_opened g) (λ_ _ _ _ _ _ _ hl=>by apply len3 hl;intros;rfl);have p:=a17.own X G (λ_ F=>B7 F T d O_flat_sum) (λ_ _ _ _ _ _ _ hl=>by apply len3 hl;intros;rfl);have O_in_pairs:=a18.own X G (λ_ F=>B8 F T d) (λ_ _ _ _ _ _ _ hl=>by apply len3 hl;intros;rfl);have E:=a19.own X G (λ_ F=>P6 F T Z O_in_pairs) (λ_ _ _ _ _ _ _ hl=>by apply len3 hl;intros;rfl);have O_paired:dP l.prog w K mg base bN 9 "paired" (tE K C Pt):=⟨f20,_,_,F4 l20 c20 hC hB N E,dc X G a20,k20,b20⟩
 have O_is_name:=a21.own (base:=base) (P:=l.prog) (w:=w) X G (λ_ F=>M9 F T) (λ_ _ _ _ _ _ _ hl=>by apply len1 hl;intros;rfl);have O_is_whole:=a22.own (base:=base) (P:=l.prog) (w:=w) X G (λ_ F=>JP F T) (λ_ _ _ _ _ _ _ hl=>by apply len1 hl;intros;rfl);have q:=a23.own (base:=base) (P:=l.prog) (w:=w) X G (λ_ F=>JS F T) (λ_ _ _ _ _ _ _ hl=>by apply len3 hl;intros;rfl);have I:=a24.own X G (λ_ F=>F6 F T O_is_name) (λ_ _ _ _ _ _ _ hl=>by apply len1 hl;intros;rfl);have H:=a25.own X G (λ_ F=>JR F T O_is_whole) (λ_ _ _ _ _ _ _ hl=>by apply len1 hl;intros;rfl);have r:=a26.own (base:=base) (P:=l.prog) (w:=w) X G (λ_ F=>zT F T) (λ_ _ _ _ _ _ _ hl=>by apply len2 hl;intros;rfl);have o:Q0 l.prog w K mg base bN 3 "Signs" C (BV K C):=⟨f27,_,_,ND F27 T co q I H r,dc X G m0,⟨g5,a27,n27,g6⟩,b27⟩
 have O_placed:=a28.own (base:=base) (P:=l.prog) (w:=w) X G (λ_ F=>F3 F T) (λ_ _ _ _ _ _ _ hl=>by apply len1 hl;intros;rfl);have z:=a29.own X G (λ_ F=>P5 F T g) (λ_ _ _ _ _ _ _ hl=>by apply len4 hl;intros;rfl);have x:=a30.own X G (λ_ F=>M7 F T O_opened z) (λ_ _ _ _ _ _ _ hl=>by apply len4 hl;intros;rfl);have B:=a31.own X G (λ_ F=>P2 F T d O_paired O_placed p x) (λ_ _ _ _ _ _ _ hl=>by apply len2 hl;intros;rfl);have O_walk:=a32.own X G (λ_ F=>M4 F T hG hKD B) (λ_ _ _ _ _ _ _ hl=>by apply len3 hl;intros;rfl);have f:=a33.use X G (λ_ F m k b=>MR (base:=base) (P:=l.prog) (w:=w) F T m k b 11) (λ_ _ _ _ _ _ _ hl=>by apply len1 hl;intros;rfl);have U:=a34.use X G (λ_ F m k b=>MS (base:=base) (P:=l.prog) (w:=w) F T m k b 51) (λ_ _ _ _ _ _ _ hl=>by apply len1 hl;intros;rfl);have A:=a35.use X G (λ_ F m k b=>B2 F T f m k b 11) (λ_ _ _ _ _ _ _ hl=>by apply len2 hl;intros;rfl);have i:=a36.use X G (λ_ F m k b=>PH F T f m k b 11) (λ_ _ _ _ _ _ _ hl=>by apply len3 hl;intros;rfl);have Q:=a37.use X G (λ_ F m k b=>MQ (base:=base) (P:=l.prog) (w:=w) F T m k b 51) (λ_ _ _ _ _ _ _ hl=>by apply len2 hl;intros;rfl);have S:=a38.own X G (λ_ F=>P0 F T a) (λ_ _ _ _ _ _ _ hl=>by apply len2 hl;intros;rfl);have j:=a39.own X G (λ_ F=>P8 F T a) (λ_ _ _ _ _ _ _ hl=>by apply len3 hl;intros;rfl);have t:=a40.use X G (λ_ F m k b=>JF F T a Q S j m k b 11) (λ_ _ _ _ _ _ _ hl=>by apply len4 hl;intros;rfl);have R:=a41.own X G (λ_ F=>JT F T f t U) (λ_ _ _ _ _ _ _ hl=>by apply len3 hl;intros;rfl);have J:=a42.own X G (λ_ F=>PY F T a f A i) (λ_ _ _ _ _ _ _ hl=>by apply len3 hl;intros;rfl);exact P3 F43 T O__law_from a O o O__law_term J R O_walk
end Lw
open PySem PySem.W PyProof.Rows
set_option maxRecDepth 100000 in
set_option maxHeartbeats 0 in
theorem PySem.Challenge.cw_likefill_k35_no_walks_holds : PySem.Challenge.rw_likefill_k35_no_walks.Holds := by
 obtain⟨d,hdf,hn,k⟩:=Lw.red;refine k ?_
 k_fill
 refine Lw.walkT (l:=PySem.Challenge.rw_likefill_k35_no_walks) rfl hdf (λw h Y=>Y) rfl ?F
 case F =>
  intro w mg fa h KX G hmg;rw[hn]at hmg
  refine' Lw.QV KX G hmg ?_ ?_ ?_ ?_ ?_ ?_ ?_ ?_ ?_ ?_ ?_ ?_ ?_ ?_ ?_ ?_ ?_ ?_ ?_ ?_ ?_ ?_ ?_ ?_ ?_ ?_ ?_ ?_ ?_ ?_ ?_ ?_ ?_ ?t3 ?t0 ?t1 ?_ ?_ ?_ ?_ ?_ ?_ ?_ ?_ ?_ ?_ ?_ ?_ ?_ ?_ ?_ ?_ ?_ ?_ ?_ ?_ ?_ ?_ ?_ ?_ ?_ ?_ ?_ ?_ ?_ ?_ ?_ ?_ ?_ ?_ ?_ ?_ ?_ ?_ ?_ ?_ ?_ ?_ ?_ ?_ ?_ ?y0 ?_ ?_ ?_ ?_ ?_ ?_ ?_ ?_ ?_ ?_ ?_ ?_ ?_ ?_ ?_ ?_ ?_ ?_ ?_ ?_ ?_ ?_ ?_
  all_goals try first|(refine' Lw.bV.mk ?_ ?_ ?_ ?_ <;> try k_is)|k_is
  (case t3=>rfl);(case t0=>kernel_rfl);(case t1=>kernel_rfl);all_goals kernel_rfl
end
