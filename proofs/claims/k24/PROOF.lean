import PyProof.Rows.All
import Wide.All
import OpenK.AllK
import Wide.FinOn
import Lean
import PyProof.EqAt
import PyProof.EqKinds
import PyProof.TupleCall
import PyProof.NeKinds
import KE.LcSums
import PyProof.ZipIter
import PyProof.Rows.SumAny
import PyProof.ExcClass3
import PyProof.ExcBaseAll.ValueError
import OpenK.KOwn
import PyProof.EnumFor
import PyProof.EnumMake
import PyProof.TupleIter
import KE.KIsAll
import PyProof.ExcArgsOwn
import PyProof.NsDelKeeps
import KE.KDictOf
import PyProof.AttrMissHeap
import PyProof.AutoSeq1
import KE.KRevIter
import PyProof.TupleOfSeq
import PyProof.CollectIter
import PyProof.TupleOfStr
import PyProof.SliceStr2
import PyProof.StrWalks
import KE.KSortTup
import KE.KLam
import PyProof.Rows.SetFrom
import PyProof.ReprRoads
import PyProof.CallFns
import PyProof.ReprLen
import PyProof.DictItemsLoops
import KE.KPairComp
import PyProof.DictWalks
import KE.KDictList
import KE.KEqDict
import PyProof.Rows.DictMethods
import PyProof.AutoListH
import PyProof.Rows.StrKeys3
import PyProof.StrCalls2
import PyProof.StrBlock
import PySem.Challenge.RW_likefill_k24_kept_and_new_wishes
set_option Elab.async false
set_option linter.all false
set_option maxRecDepth 100000
set_option compiler.extract_closed false
set_option maxHeartbeats 4000000
open Lean Parser.Term in
local macro_rules
  | `(fun $bs:funBinder* => $b) => do
    let c (x : Syntax) := x.isOfKind ``anonymousCtor
    let some i := bs.findIdx? (c ·.raw) | Macro.throwUnsupported
    let xs := bs[i]!.raw[1].getSepArgs
    let n := xs.size
    if n < 3 || xs.any (fun x => !(x.isIdent || x.isOfKind ``hole || c x) || x.getId == `rfl) then Macro.throwUnsupported
    let mut r := b
    if i + 1 < bs.size then r ← `(fun $(bs.extract (i+1) bs.size)* => $b)
    let mut g : TSyntax ``funBinder := ⟨xs[n-1]!⟩
    for k in [0:n-1] do
      let h := mkIdent (← Macro.addMacroScope (.mkSimple s!"h{k}"))
      r ← `(($h).elim fun $(⟨xs[n-2-k]!⟩) $g => clear% $h; $r)
      g := ⟨h⟩
    `(fun $(bs.extract 0 i)* $g => $r)
abbrev aa:=@PySem.wpAny_bind
abbrev ab:=@if_neg
abbrev ac:=@Nat.le_refl
abbrev ae:=@List.length_map
abbrev af:=@PySem.Heap.get?_push_of_some
abbrev ag:=@List.size_toArray
abbrev ai:=@if_pos
abbrev aj:=@Nat.lt_of_le_of_lt
abbrev al:=@PySem.wpAny_pure
abbrev ao:=@Nat.le_trans
abbrev aq:=@List.length_cons
abbrev ar:=@List.length_append
abbrev au:=@PySem.Heap.get?_push_size
abbrev av:=@Nat.zero_le
abbrev aw:=@List.mem_cons_self
abbrev ax:=@List.getElem?_eq_getElem
abbrev ay:=@List.map_append
abbrev az:=@List.mem_cons_of_mem
abbrev ba:=@PySem.Heap.lt_size
abbrev bc:=@List.map_cons
abbrev bd:=@Nat.lt_of_lt_of_le
abbrev bf:=@PySem.wpAny_loadPart'
abbrev bg:=@decide_eq_true
abbrev bh:=@List.mem_of_getElem?
abbrev bi:=@decide_eq_false
abbrev bj:=@List.append_nil
abbrev bn:=@Nat.ne_of_lt
abbrev bo:=@Array.length_toList
abbrev bp:=@of_decide_eq_true
abbrev bq:=@List.length_take
abbrev br:=@List.take_length
abbrev bu:=@List.length_drop
abbrev bv:=@List.mem_append_right
abbrev bw:=@List.getElem?_map
abbrev bx:=@Nat.add_le_add_left
abbrev bz:=@List.lookup_cons
abbrev bI:=@Nat.lt_irrefl
abbrev bS:=@Bool.eq_iff_iff
abbrev ca:=@PySem.wpAny_newObj_type
abbrev cb:=@List.mem_append_left
abbrev cf:=@PySem.wpAny_holding
abbrev cg:=@List.length_singleton
abbrev ci:=@List.map_map
abbrev cj:=@List.append_assoc
abbrev ck:=@Int.toNat_natCast
abbrev cm:=@List.getElem?_eq_some_iff
abbrev cp:=@List.mem_singleton
abbrev cr:=@List.mem_cons
abbrev cs:=@List.mem_append
abbrev cu:=@List.mem_map
abbrev cw:=@beq_eq_false_iff_ne
abbrev cx:=@List.nodup_cons
abbrev cy:=@List.mem_filter
abbrev cz:=@PySem.W.mg_of
abbrev da:=@PySem.W.mg_none_of
abbrev db:=@PySem.F.plainAttrs_list
abbrev dc:=@PySem.F.type_list_append
abbrev de:=@PySem.F.slot_list_append
abbrev df:=@PySem.PassesOwn.never
noncomputable abbrev cY:=List (PySem.Addr×PySem.Obj)
noncomputable abbrev cE:=PySem.Value->PySem.Shared->Prop
noncomputable abbrev cT:=List (PySem.Str×Int)
noncomputable abbrev bU:=List (PySem.Str×PySem.Str)
noncomputable abbrev bX:=List PySem.Value
noncomputable abbrev aQ:=List PySem.Str
noncomputable abbrev fR:=PySem.Str->Option PySem.Value
noncomputable abbrev lR:=List PySem.Expr
noncomputable abbrev jK:=Array PySem.Value
noncomputable abbrev MD:=Nat->PySem.Heap->Prop
theorem aI {a b:Prop}(x:a)(y:b):a/\b:=⟨x,y⟩
namespace L2
open PySem
noncomputable def zX (s:Stmt)(j:Nat):Stmt:=match s with
 | .ClassDef _ _ _ body _ _ _ _ _ _ _=>body.getD j (.Pass ⟨0,0,0,0⟩)
 | _=>.Pass ⟨0,0,0,0⟩
noncomputable def aO (s:Stmt):Arguments:=match s with
 | .FunctionDef _ a _ _ _ _ _ _ _ _=>a
 | _=>{posonlyargs:=[],args:=[],vararg:=none,kwonlyargs:=[],kw_defaults:=[],kwarg:=none,defaults:=[]}
noncomputable def aN (s:Stmt):List Stmt:=match s with
 | .FunctionDef _ _ b _ _ _ _ _ _ _=>b
 | _=>[]
noncomputable def aD (s:Stmt):Scope:=match s with
 | .FunctionDef _ _ _ _ _ _ a _ _ _=>a
 | _=>{kind:=.function,names:=[],isGenerator:=false,isCoroutine:=false}
end L2
namespace Lw
open PySem L2
noncomputable def top (i:Nat):Stmt:=PySem.Challenge.pw_likefill_k24_kept_and_new_wishes.main.body.getD i (.Pass ⟨0,0,0,0⟩)
noncomputable abbrev fK:Stmt:=top 41
noncomputable abbrev gJ:Stmt:=top 42
noncomputable abbrev fG:Stmt:=top 43
noncomputable abbrev fF:Stmt:=top 44
noncomputable abbrev eT:Stmt:=top 45
noncomputable abbrev dD:Stmt:=top 46
noncomputable abbrev dZ:Stmt:=top 47
noncomputable abbrev eL:Stmt:=top 48
noncomputable abbrev dE:Stmt:=top 49
noncomputable abbrev dW:Stmt:=top 50
noncomputable abbrev fH:Stmt:=top 51
noncomputable abbrev dF:Stmt:=top 52
noncomputable abbrev d5:Stmt:=top 53
noncomputable abbrev dJ:Stmt:=top 54
noncomputable abbrev nH:Stmt:=top 64
noncomputable abbrev gL:Stmt:=top 9
noncomputable abbrev gH:Stmt:=top 10
noncomputable abbrev dU:Stmt:=top 11
noncomputable abbrev i5:Stmt:=top 13
noncomputable abbrev eN:Stmt:=top 14
noncomputable abbrev eI:Stmt:=top 15
noncomputable abbrev i8:Stmt:=top 16
noncomputable abbrev gI:Stmt:=top 17
noncomputable abbrev cV:Stmt:=top 18
noncomputable abbrev dH:Stmt:=top 19
noncomputable abbrev cZ:Stmt:=top 20
noncomputable abbrev gM:Stmt:=top 34
noncomputable abbrev gG:Stmt:=top 35
noncomputable abbrev cG:Stmt:=top 36
noncomputable abbrev cM:Stmt:=top 37
noncomputable abbrev dI:Stmt:=top 38
noncomputable abbrev cH:Stmt:=top 39
noncomputable abbrev cA:Stmt:=zX (top 33) 0
noncomputable abbrev eU:Stmt:=zX (top 33) 3
noncomputable abbrev dP:Stmt:=zX (top 33) 4
noncomputable abbrev h8:Stmt:=top 12
noncomputable abbrev cW:Stmt:=top 22
noncomputable abbrev cP:Stmt:=top 23
noncomputable abbrev dG:Stmt:=top 24
noncomputable abbrev lZ:Stmt:=top 25
noncomputable abbrev eQ:Stmt:=top 26
noncomputable abbrev fI:Stmt:=top 55
noncomputable abbrev dM:Stmt:=top 56
noncomputable abbrev fJ:Stmt:=top 57
noncomputable abbrev d8:Stmt:=top 58
noncomputable abbrev eJ:Stmt:=top 59
noncomputable abbrev eK:Stmt:=top 60
noncomputable abbrev eS:Stmt:=top 61
noncomputable abbrev dN:Stmt:=top 62
noncomputable abbrev cQ:Stmt:=top 63
end Lw
namespace Lw
open PySem PySem.W L2
noncomputable def eO (P:Params)(x:Str)(t:Tok)(v:Value):DictEntry:=⟨PyData.keyHash P x,.str x t,v⟩
noncomputable def eR (P:Params)(x:Str)(t:Tok)(a:Addr):DictEntry:=eO P x t (.ref a)
noncomputable def dO (a:List DictEntry)(n:Nat):Obj:=⟨.type "dict",none,.dict a.toArray n,#[]⟩
noncomputable def fO (x q:Str)(st:Stmt)(m:Str)(t:Tok)(c:Addr):Obj:=⟨.type "function",none,.func (fnOf x q (aO st) (aN st) (aD st) .none .none .none (.str m t) none (.ref c) .none),#[]⟩
noncomputable def cO (x q:Str)(t1 c t3:Tok)(l n f:Int)(r1:Addr)(b:Bool)(h:Int)(e:Addr)(u v w:Value)(d:Addr)(g:Int)(a:Tok):Obj :=
 ⟨.type "code",none,.fields #[.str x t1,.str q c,.str "/claim/cut.py" t3,.int l 0,.int n 0,.int 0 0,.int 0 0,.int f 0,.ref r1,.bool b,.int h 0,.ref e,u,v,w,.ref d,.int g 0,.int l 0,.str "/claim/cut.py" a],#[]⟩
noncomputable def K0 (P:Params):PySem.W.Frag :=
 (nat_lit 3,dO [eO P "__name__" 165 (.str "law_likefill_k24_kept_and_new_wishes" 509),eO P "__doc__" 166 .none,eO P "__package__" 167 .none,eO P "__loader__" 168 (.builtin "__main__.__loader__#opaque"),eO P "__spec__" 169 .none,eR P "__annotations__" 170 6,eR P "__builtins__" 171 4,eO P "__file__" 173 (.str "/claim/cut.py" 172),eO P "__cached__" 174 .none,eR P "LikeError" 206 24,eR P "NoSigns" 222 37,eR P "NoTerm" 238 49,eR P "NoFilling" 254 61,eO P "WISH_SIGNS" 258 (.str "abcdefghijklmnopqrstuvwxyz0123456789" 257),eO P "LONGEST_WISH" 260 (.int 9 259),eO P "DEEPEST" 262 (.int 1000 261),eR P "is_wish" 268 68,eR P "is_built" 276 75,eR P "check_term" 282 80,eR P "is_term" 290 87,eR P "walked" 300 94,eR P "order_mark" 307 101,eR P "order_key" 313 106,eR P "opened" 321 113,eR P "flat_sum" 332 120,eR P "flat_of_parts" 342 127,eR P "from_within" 348 132,eR P "put_in" 358 139,eR P "check_filling" 370 146,eR P "without_idle" 376 151,eR P "looked_over" 382 156,eR P "kept" 388 161,eR P "new_wishes" 399 168,eO P "LETTERS" 403 (.str "abcdefghijklmnopqrstuvwxyz" 402),eO P "LONGEST_NAME" 405 (.int 6 404),eO P "MOST_FIXED" 407 (.int 12 406),eO P "MOST_SUMS" 409 (.int 3 408),eO P "MOST_PARTS" 411 (.int 3 410),eR P "Signs" 471 211,eR P "is_name" 477 220,eR P "is_whole" 484 227,eR P "checked_pairs" 490 232,eR P "check_names" 496 237,eR P "check_parts" 502 242,eR P "check_noughts" 508 247,eR P "_law_cell" 518 254,eR P "_law_pot" 527 261,eR P "_law_take" 536 268,eR P "_law_word" 546 275,eR P "_law_names" 558 282,eR P "_law_signs" 564 287,eR P "_law_wishes" 575 294,eR P "_law_leaf" 581 299,eR P "_law_heads" 587 304,eR P "_law_term" 605 311,eR P "_law_sort" 612 318,eR P "_law_ahead" 622 325,eR P "_law_opened" 633 332,eR P "_law_flat" 639 337,eR P "_law_own" 645 342,eR P "_law_filling" 657 349,eR P "_law_more" 665 356,eR P "_law_looked" 676 363,eR P "_law_some" 682 368,eR P "_law_near" 688 373,eR P "_law_new" 694 378,eR P "_law_are_new" 705 385,eR P "_law_is_kept" 711 390,eR P "law" 724 397] 69) ::
 (nat_lit 23,dO [eO P "__module__" 196 (.str "likefill.errors" 187),eO P "__firstlineno__" 200 (.int 2 199),eR P "__static_attributes__" 201 22,eR P "__weakref__" 203 25,eO P "__doc__" 204 .none] 3) ::
 (nat_lit 24,⟨.type "type",none,.cls ⟨"LikeError",[(.type "ValueError")],[(.ref 24),(.type "ValueError"),(.type "Exception"),(.type "BaseException"),(.type "object")],23,"LikeError",true,[],[(.ref 37),(.ref 49),(.ref 61)],false,none,false⟩,#[some (.ref 15),none,some (.str "LikeError" 189),some (.str "LikeError" 197),some (.builtin "ValueError.__new__"),some (.bool true)]⟩) ::
 (nat_lit 36,dO [eO P "__module__" 214 (.str "likefill.errors" 187),eO P "__firstlineno__" 218 (.int 4 217),eR P "__static_attributes__" 219 35,eO P "__doc__" 220 .none] 2) ::
 (nat_lit 37,⟨.type "type",none,.cls ⟨"NoSigns",[(.ref 24)],[(.ref 37),(.ref 24),(.type "ValueError"),(.type "Exception"),(.type "BaseException"),(.type "object")],36,"NoSigns",true,[],[],false,none,false⟩,#[some (.ref 28),none,some (.str "NoSigns" 207),some (.str "NoSigns" 215),some (.builtin "ValueError.__new__"),some (.bool true)]⟩) ::
 (nat_lit 48,dO [eO P "__module__" 230 (.str "likefill.errors" 187),eO P "__firstlineno__" 234 (.int 6 233),eR P "__static_attributes__" 235 47,eO P "__doc__" 236 .none] 2) ::
 (nat_lit 49,⟨.type "type",none,.cls ⟨"NoTerm",[(.ref 24)],[(.ref 49),(.ref 24),(.type "ValueError"),(.type "Exception"),(.type "BaseException"),(.type "object")],48,"NoTerm",true,[],[],false,none,false⟩,#[some (.ref 40),none,some (.str "NoTerm" 223),some (.str "NoTerm" 231),some (.builtin "ValueError.__new__"),some (.bool true)]⟩) ::
 (nat_lit 60,dO [eO P "__module__" 246 (.str "likefill.errors" 187),eO P "__firstlineno__" 250 (.int 8 249),eR P "__static_attributes__" 251 59,eO P "__doc__" 252 .none] 2) ::
 (nat_lit 61,⟨.type "type",none,.cls ⟨"NoFilling",[(.ref 24)],[(.ref 61),(.ref 24),(.type "ValueError"),(.type "Exception"),(.type "BaseException"),(.type "object")],60,"NoFilling",true,[],[],false,none,false⟩,#[some (.ref 52),none,some (.str "NoFilling" 239),some (.str "NoFilling" 247),some (.builtin "ValueError.__new__"),some (.bool true)]⟩) ::
 (nat_lit 67,cO "is_wish" "is_wish" 263 264 265 14 1 3 64 true 181 65 .none .none .none 66 266 267) ::
 (nat_lit 68,fO "is_wish" "is_wish" gL "likefill.terms" 255 67) ::
 (nat_lit 74,cO "is_built" "is_built" 269 270 271 18 2 3 69 true 181 70 .none (.ref 71) (.ref 72) 73 274 275) ::
 (nat_lit 75,fO "is_built" "is_built" gH "likefill.terms" 255 74) ::
 (nat_lit 79,cO "check_term" "check_term" 277 278 279 26 2 3 76 true 181 77 .none .none .none 78 280 281) ::
 (nat_lit 80,fO "check_term" "check_term" dU "likefill.terms" 255 79) ::
 (nat_lit 86,cO "is_term" "is_term" 283 284 285 34 2 3 81 true 181 82 .none (.ref 83) (.ref 84) 85 288 289) ::
 (nat_lit 87,fO "is_term" "is_term" h8 "likefill.terms" 255 86) ::
 (nat_lit 93,cO "walked" "walked" 291 292 293 40 1 3 88 true 181 89 .none (.ref 90) (.ref 91) 92 298 299) ::
 (nat_lit 94,fO "walked" "walked" i5 "likefill.terms" 255 93) ::
 (nat_lit 100,cO "order_mark" "order_mark" 301 302 303 49 1 3 95 true 181 96 .none (.ref 97) (.ref 98) 99 305 306) ::
 (nat_lit 101,fO "order_mark" "order_mark" eN "likefill.terms" 255 100) ::
 (nat_lit 105,cO "order_key" "order_key" 308 309 310 53 1 3 102 true 181 103 .none .none .none 104 311 312) ::
 (nat_lit 106,fO "order_key" "order_key" eI "likefill.terms" 255 105) ::
 (nat_lit 112,cO "opened" "opened" 314 315 316 57 2 3 107 true 181 108 .none (.ref 109) (.ref 110) 111 319 320) ::
 (nat_lit 113,fO "opened" "opened" i8 "likefill.terms" 255 112) ::
 (nat_lit 119,cO "flat_sum" "flat_sum" 322 323 324 61 3 3 114 true 181 115 .none (.ref 116) (.ref 117) 118 330 331) ::
 (nat_lit 120,fO "flat_sum" "flat_sum" gI "likefill.terms" 255 119) ::
 (nat_lit 126,cO "flat_of_parts" "flat_of_parts" 333 334 335 71 3 3 121 true 181 122 .none (.ref 123) (.ref 124) 125 340 341) ::
 (nat_lit 127,fO "flat_of_parts" "flat_of_parts" cV "likefill.terms" 255 126) ::
 (nat_lit 131,cO "from_within" "from_within" 343 344 345 76 3 3 128 true 181 129 .none .none .none 130 346 347) ::
 (nat_lit 132,fO "from_within" "from_within" dH "likefill.terms" 255 131) ::
 (nat_lit 138,cO "put_in" "put_in" 349 350 351 85 3 3 133 true 181 134 .none (.ref 135) (.ref 136) 137 356 357) ::
 (nat_lit 139,fO "put_in" "put_in" cZ "likefill.terms" 255 138) ::
 (nat_lit 145,cO "check_filling" "check_filling" 361 362 363 88 2 3 140 true 181 141 .none (.ref 142) (.ref 143) 144 368 369) ::
 (nat_lit 146,fO "check_filling" "check_filling" cW "likefill.fillings" 359 145) ::
 (nat_lit 150,cO "without_idle" "without_idle" 371 372 373 96 1 3 147 true 181 148 .none .none .none 149 374 375) ::
 (nat_lit 151,fO "without_idle" "without_idle" cP "likefill.fillings" 359 150) ::
 (nat_lit 155,cO "looked_over" "looked_over" 377 378 379 98 2 3 152 true 181 153 .none .none .none 154 380 381) ::
 (nat_lit 156,fO "looked_over" "looked_over" dG "likefill.fillings" 359 155) ::
 (nat_lit 160,cO "kept" "kept" 383 384 385 101 3 3 157 true 181 158 .none .none .none 159 386 387) ::
 (nat_lit 161,fO "kept" "kept" lZ "likefill.fillings" 359 160) ::
 (nat_lit 167,cO "new_wishes" "new_wishes" 389 390 391 104 2 3 162 true 181 163 .none (.ref 164) (.ref 165) 166 397 398) ::
 (nat_lit 168,fO "new_wishes" "new_wishes" eQ "likefill.fillings" 359 167) ::
 (nat_lit 179,cO "__init__" "Signs.__init__" 424 425 426 121 3 3 176 true 181 177 .none .none .none 178 427 428) ::
 (nat_lit 180,fO "__init__" "Signs.__init__" cA "likefill.signs" 400 179) ::
 (nat_lit 200,cO "many" "Signs.many" 444 445 446 138 2 3 195 true 181 196 .none (.ref 197) (.ref 198) 199 449 450) ::
 (nat_lit 201,fO "many" "Signs.many" eU "likefill.signs" 400 200) ::
 (nat_lit 207,cO "nought" "Signs.nought" 452 453 454 141 2 3 202 true 181 203 .none (.ref 204) (.ref 205) 206 457 458) ::
 (nat_lit 208,fO "nought" "Signs.nought" dP "likefill.signs" 400 207) ::
 (nat_lit 210,dO [eO P "__module__" 419 (.str "likefill.signs" 400),eO P "__firstlineno__" 423 (.int 119 422),eR P "__init__" 429 180,eR P "fixed" 436 187,eR P "sums" 443 194,eR P "many" 451 201,eR P "nought" 459 208,eR P "__static_attributes__" 464 209,eR P "__dict__" 466 212,eR P "__weakref__" 468 213,eO P "__doc__" 469 .none] 4) ::
 (nat_lit 211,⟨.type "type",none,.cls ⟨"Signs",[(.type "object")],[(.ref 211),(.type "object")],210,"Signs",true,[],[],false,none,false⟩,#[none,none,some (.str "Signs" 412),some (.str "Signs" 420),some (.builtin "object.__new__"),some (.bool true)]⟩) ::
 (nat_lit 219,cO "is_name" "is_name" 472 473 474 143 1 3 216 true 181 217 .none .none .none 218 475 476) ::
 (nat_lit 220,fO "is_name" "is_name" gM "likefill.signs" 400 219) ::
 (nat_lit 226,cO "is_whole" "is_whole" 478 479 480 147 1 3 221 true 181 222 .none (.ref 223) (.ref 224) 225 482 483) ::
 (nat_lit 227,fO "is_whole" "is_whole" gG "likefill.signs" 400 226) ::
 (nat_lit 231,cO "checked_pairs" "checked_pairs" 485 486 487 149 3 3 228 true 181 229 .none .none .none 230 488 489) ::
 (nat_lit 232,fO "checked_pairs" "checked_pairs" cG "likefill.signs" 400 231) ::
 (nat_lit 236,cO "check_names" "check_names" 491 492 493 156 1 3 233 true 181 234 .none .none .none 235 494 495) ::
 (nat_lit 237,fO "check_names" "check_names" cM "likefill.signs" 400 236) ::
 (nat_lit 241,cO "check_parts" "check_parts" 497 498 499 162 1 3 238 true 181 239 .none .none .none 240 500 501) ::
 (nat_lit 242,fO "check_parts" "check_parts" dI "likefill.signs" 400 241) ::
 (nat_lit 246,cO "check_noughts" "check_noughts" 503 504 505 168 2 3 243 true 181 244 .none .none .none 245 506 507) ::
 (nat_lit 247,fO "check_noughts" "check_noughts" cH "likefill.signs" 400 246) ::
 (nat_lit 253,cO "_law_cell" "_law_cell" 511 512 513 176 2 3 248 true 181 249 .none (.ref 250) (.ref 251) 252 516 517) ::
 (nat_lit 254,fO "_law_cell" "_law_cell" fK "law_likefill_k24_kept_and_new_wishes" 509 253) ::
 (nat_lit 260,cO "_law_pot" "_law_pot" 519 520 521 180 2 3 255 true 181 256 .none (.ref 257) (.ref 258) 259 525 526) ::
 (nat_lit 261,fO "_law_pot" "_law_pot" gJ "law_likefill_k24_kept_and_new_wishes" 509 260) ::
 (nat_lit 267,cO "_law_take" "_law_take" 528 529 530 183 2 3 262 true 181 263 .none (.ref 264) (.ref 265) 266 534 535) ::
 (nat_lit 268,fO "_law_take" "_law_take" fG "law_likefill_k24_kept_and_new_wishes" 509 267) ::
 (nat_lit 274,cO "_law_word" "_law_word" 537 538 539 190 2 3 269 true 181 270 .none (.ref 271) (.ref 272) 273 544 545) ::
 (nat_lit 275,fO "_law_word" "_law_word" fF "law_likefill_k24_kept_and_new_wishes" 509 274) ::
 (nat_lit 281,cO "_law_names" "_law_names" 547 548 549 196 2 3 276 true 181 277 .none (.ref 278) (.ref 279) 280 556 557) ::
 (nat_lit 282,fO "_law_names" "_law_names" eT "law_likefill_k24_kept_and_new_wishes" 509 281) ::
 (nat_lit 286,cO "_law_signs" "_law_signs" 559 560 561 205 1 3 283 true 181 284 .none .none .none 285 562 563) ::
 (nat_lit 287,fO "_law_signs" "_law_signs" dD "law_likefill_k24_kept_and_new_wishes" 509 286) ::
 (nat_lit 293,cO "_law_wishes" "_law_wishes" 565 566 567 219 1 3 288 true 181 289 .none (.ref 290) (.ref 291) 292 573 574) ::
 (nat_lit 294,fO "_law_wishes" "_law_wishes" dZ "law_likefill_k24_kept_and_new_wishes" 509 293) ::
 (nat_lit 298,cO "_law_leaf" "_law_leaf" 576 577 578 227 3 3 295 true 181 296 .none .none .none 297 579 580) ::
 (nat_lit 299,fO "_law_leaf" "_law_leaf" eL "law_likefill_k24_kept_and_new_wishes" 509 298) ::
 (nat_lit 303,cO "_law_heads" "_law_heads" 582 583 584 231 2 3 300 true 181 301 .none .none .none 302 585 586) ::
 (nat_lit 304,fO "_law_heads" "_law_heads" dE "law_likefill_k24_kept_and_new_wishes" 509 303) ::
 (nat_lit 310,cO "_law_term" "_law_term" 588 589 590 236 5 3 305 true 181 306 .none (.ref 307) (.ref 308) 309 603 604) ::
 (nat_lit 311,fO "_law_term" "_law_term" dW "law_likefill_k24_kept_and_new_wishes" 509 310) ::
 (nat_lit 317,cO "_law_sort" "_law_sort" 606 607 608 250 1 3 312 true 181 313 .none (.ref 314) (.ref 315) 316 610 611) ::
 (nat_lit 318,fO "_law_sort" "_law_sort" fH "law_likefill_k24_kept_and_new_wishes" 509 317) ::
 (nat_lit 324,cO "_law_ahead" "_law_ahead" 613 614 615 254 2 3 319 true 181 320 .none (.ref 321) (.ref 322) 323 620 621) ::
 (nat_lit 325,fO "_law_ahead" "_law_ahead" dF "law_likefill_k24_kept_and_new_wishes" 509 324) ::
 (nat_lit 331,cO "_law_opened" "_law_opened" 623 624 625 267 3 3 326 true 181 327 .none (.ref 328) (.ref 329) 330 631 632) ::
 (nat_lit 332,fO "_law_opened" "_law_opened" d5 "law_likefill_k24_kept_and_new_wishes" 509 331) ::
 (nat_lit 336,cO "_law_flat" "_law_flat" 634 635 636 275 2 3 333 true 181 334 .none .none .none 335 637 638) ::
 (nat_lit 337,fO "_law_flat" "_law_flat" dJ "law_likefill_k24_kept_and_new_wishes" 509 336) ::
 (nat_lit 341,cO "_law_own" "_law_own" 640 641 642 291 3 3 338 true 181 339 .none .none .none 340 643 644) ::
 (nat_lit 342,fO "_law_own" "_law_own" fI "law_likefill_k24_kept_and_new_wishes" 509 341) ::
 (nat_lit 348,cO "_law_filling" "_law_filling" 646 647 648 300 3 3 343 true 181 344 .none (.ref 345) (.ref 346) 347 655 656) ::
 (nat_lit 349,fO "_law_filling" "_law_filling" dM "law_likefill_k24_kept_and_new_wishes" 509 348) ::
 (nat_lit 355,cO "_law_more" "_law_more" 658 659 660 309 1 3 350 true 181 351 .none (.ref 352) (.ref 353) 354 663 664) ::
 (nat_lit 356,fO "_law_more" "_law_more" fJ "law_likefill_k24_kept_and_new_wishes" 509 355) ::
 (nat_lit 362,cO "_law_looked" "_law_looked" 666 667 668 312 2 3 357 true 181 358 .none (.ref 359) (.ref 360) 361 674 675) ::
 (nat_lit 363,fO "_law_looked" "_law_looked" d8 "law_likefill_k24_kept_and_new_wishes" 509 362) ::
 (nat_lit 367,cO "_law_some" "_law_some" 677 678 679 319 2 3 364 true 181 365 .none .none .none 366 680 681) ::
 (nat_lit 368,fO "_law_some" "_law_some" eJ "law_likefill_k24_kept_and_new_wishes" 509 367) ::
 (nat_lit 372,cO "_law_near" "_law_near" 683 684 685 322 1 3 369 true 181 370 .none .none .none 371 686 687) ::
 (nat_lit 373,fO "_law_near" "_law_near" eK "law_likefill_k24_kept_and_new_wishes" 509 372) ::
 (nat_lit 377,cO "_law_new" "_law_new" 689 690 691 330 2 3 374 true 181 375 .none .none .none 376 692 693) ::
 (nat_lit 378,fO "_law_new" "_law_new" eS "law_likefill_k24_kept_and_new_wishes" 509 377) ::
 (nat_lit 384,cO "_law_are_new" "_law_are_new" 695 696 697 333 2 3 379 true 181 380 .none (.ref 381) (.ref 382) 383 703 704) ::
 (nat_lit 385,fO "_law_are_new" "_law_are_new" dN "law_likefill_k24_kept_and_new_wishes" 509 384) ::
 (nat_lit 389,cO "_law_is_kept" "_law_is_kept" 706 707 708 341 4 3 386 true 181 387 .none .none .none 388 709 710) ::
 (nat_lit 390,fO "_law_is_kept" "_law_is_kept" cQ "law_likefill_k24_kept_and_new_wishes" 509 389) ::
 (nat_lit 396,cO "law" "law" 712 713 714 352 1 3 391 true 181 392 .none (.ref 393) (.ref 394) 395 722 723) ::
 (nat_lit 397,fO "law" "law" nH "law_likefill_k24_kept_and_new_wishes" 509 396)::[]
noncomputable def as0:List Addr:=[3,23,24,36,37,48,49,60,61,67,68,74,75,79,80,86,87,93,94,100,101,105,106,112,113,119,120,126,127,131,132,138,139,145,146,150,151,155,156,160,161,167,168,179,180,200,201,207,208,210,211,219,220,226,227,231,232,236,237,241,242,246,247,253,254,260,261,267,268,274,275,281,282,286,287,293,294,298,299,303,304,310,311,317,318,324,325,331,332,336,337,341,342,348,349,355,356,362,363,367,368,372,373,377,378,384,385,389,390,396,397]
noncomputable def without (ks:List Nat):Nat->List Stmt->List Stmt
 | _,[]=>[]
 | i,s::r=>if i∈ks then without ks (i+1) r else s::without ks (i+1) r
noncomputable def q0:Program:={PySem.Challenge.pw_likefill_k24_kept_and_new_wishes with main:={PySem.Challenge.pw_likefill_k24_kept_and_new_wishes.main with body:=without [0,5,21,27,40] 0 PySem.Challenge.pw_likefill_k24_kept_and_new_wishes.main.body} }
noncomputable def TU:Shared->Bool:=λs=>xlAt q0 [] s && recOk (RowW.records PySem.Challenge.rw_likefill_k24_kept_and_new_wishes.row.toRowW) s
theorem OK {p q:Program}{Xt:Shared->Bool}{α:Type}{Yf:Shared->α}{Ya:World->α}{N:Nat}
  (e:opening p=plainProg p.main.scope.names) (n:Nat.ble 600 N=true) (a:∀s,fenceModules? p s=some s)
  (h:∀w os,(topFrom treeTable p w N ⟨boot_heap w.params,⟨[]⟩,boot_drawn,boot_toks,os⟩).map (λs=>(openSeen q [] (importedModules p.main.body) Xt true s,Yf s))=some (openGood q [],Ya w)):LeftO p q [] Xt Yf Ya N:=λw=>by
 obtain⟨s,c,b⟩:=Option.map_eq_some_iff.mp (boot_open e n a w);obtain⟨i,g,f,d,os⟩:=s;cases b;unfold openEnds;rw[c];exact h w os
theorem left0:LeftO PySem.Challenge.rw_likefill_k24_kept_and_new_wishes.row.prog q0 [] TU (λs=>as0.map s.heap.get?) (λw=>(K0 w.params).map λp=>some p.2) 5460 :=
 OK (by kernel_rfl) (by kernel_rfl) (λs=>by kernel_rfl) (λw os=>by unfold topFrom;rw[PySem.W.Fast.te14082659384304107361,PySem.W.Fast.te4187177175401517315,PySem.W.Fast.te14364793385576792824];kernel_rfl)
theorem keys0:∀P,as0=(K0 P).map (·.1):=λP=>by kernel_rfl
end Lw
namespace Lw
open PySem PySem.W PyProof.Rows
set_option maxRecDepth 100000 in
set_option maxHeartbeats 0 in
theorem red:∃d:DefRec,d.params.defaults=[]/\d.name=("law" : Str)/\(WalkO q0 [] (XL q0 []) (InK K0) PySem.Challenge.rw_likefill_k24_kept_and_new_wishes.row.toRowW d [] (λf vs=>PySem.call f vs)->PySem.Challenge.rw_likefill_k24_kept_and_new_wishes.Holds):=by
 refine' ⟨?d,?a,?b,λh=>?c⟩
 case c =>
  w_on
  refine holds_law (by kernel_rfl) λg=>?_;refine holds_open (q:=q0) (loose:=[]) (Xt:=TU) (XP:=XL q0 []) (YP:=InK K0) left0 (InK.of keys0) InK.keeps (λs e=>xl_of s (Bool.and_eq_true_iff.mp e).1) XL.keeps (by rfl) (by rfl) (by rfl) (λs e=>recFacts_of (Bool.and_eq_true_iff.mp e).2) (by rfl) g (by decide +kernel) ⟨rfl,rfl,rfl,rfl,rfl,by decide +kernel⟩ (by w_witness2) ?_
  k_fill
  exact h
 case a=>rfl
 case b=>rfl
end Lw
namespace L2
open PySem PySem.Spec PyProof.Rows
noncomputable abbrev bE:=Sum Int Str
noncomputable def keyIs:bE->Value->Bool
 | .inl k,v=>Value.isInt k v
 | .inr x,v=>Value.isStrOf x v
noncomputable def keyH (w:World):bE->Int
 | .inl k=>hashInt k
 | .inr x=>hashStr w x
theorem dL:∀{k:bE} {v:Value},keyIs k v=true->(∃i t,k=Sum.inl i/\v=Value.int i t)∨(∃x t,k=Sum.inr x/\v=Value.str x t)
 | .inl i,v,h=>by
  obtain⟨t,e⟩:=Value.isInt_shape (k:=i) (v:=v) h;exact .inl ⟨i,t,rfl,e⟩
 | .inr x,v,h=>by obtain⟨t,e⟩:=Value.isStrOf_shape (x:=x) (v:=v) h;exact .inr ⟨x,t,rfl,e⟩
theorem HZ (i:Int)(t:Tok):keyIs (.inl i) (.int i t)=true:=by simp[keyIs,Value.isInt]
theorem xA (x:Str)(t:Tok):keyIs (.inr x) (.str x t)=true:=by simp[keyIs,Value.isStrOf]
theorem RM (a b:Int):decide ((Sum.inl a:bE)=Sum.inl b)=(a == b):=by
 by_cases e:a=b
 ·subst e;simp
 ·have h:¬(Sum.inl a:bE)=Sum.inl b:=λq=>e (Sum.inl.inj q);rw[bi h];exact(cw.mpr e).symm
theorem RJ (a b:Str):decide ((Sum.inr a:bE)=Sum.inr b)=decide (a=b):=by
 by_cases e:a=b
 ·subst e;simp
 ·have h:¬(Sum.inr a:bE)=Sum.inr b:=λq=>e (Sum.inr.inj q);rw[bi h,bi e]
theorem RL (a:Int)(b:Str):decide ((Sum.inl a:bE)=Sum.inr b)=false:=bi (λq=>nomatch q)
theorem RK (a:Str)(b:Int):decide ((Sum.inr a:bE)=Sum.inl b)=false:=bi (λq=>nomatch q)
noncomputable def bK (prog:Program)(w:World):PySem.KeyKind prog w bE where
 is:=keyIs
 hash:=keyH w
 inj:=λv a b l f=>by
  rcases dL l with⟨i,t,rfl,rfl⟩|⟨x,t,rfl,rfl⟩
  ·rcases dL f with⟨j,u,rfl,e⟩|⟨y,u,rfl,e⟩
   ·injection e with c _;rw[c]
   ·exact nomatch e
  ·rcases dL f with⟨j,u,rfl,e⟩|⟨y,u,rfl,e⟩
   ·exact nomatch e
   ·injection e with c _;rw[c]
 byValue:=λk v h=>by rcases dL h with⟨i,t,rfl,rfl⟩|⟨x,t,rfl,rfl⟩ <;> rfl
 pyHash:=λd h=>by
  rcases dL d with⟨i,t,rfl,rfl⟩|⟨x,t,rfl,rfl⟩
  ·exact wpAny_pyHash_int h
  ·exact wpAny_pyHash_str h
 eqBool:=λg d h=>by
  rcases dL g with⟨i,t,rfl,rfl⟩|⟨x,t,rfl,rfl⟩
  ·rcases dL d with⟨j,u,rfl,rfl⟩|⟨y,u,rfl,rfl⟩
   ·rw[RM]at h;exact wpAny_eqBool_int h
   ·rw[RL]at h;exact SeqAt.EqAt.int_str i t y u _ _ _ _ h
  ·rcases dL d with⟨j,u,rfl,rfl⟩|⟨y,u,rfl,rfl⟩
   ·rw[RK]at h;exact SeqAt.EqAt.str_int x t j u _ _ _ _ h
   ·rw[RJ]at h;exact wpAny_eqBool_str h
 «strs»:=λk x t v h=>by
  rcases dL h with⟨i,u,rfl,e⟩|⟨y,u,rfl,e⟩
  ·exact nomatch e
  ·injection e with c _;subst c;cases v <;> rfl
theorem DV (prog:Program)(w:World)(k:bE)(v:Value):(bK prog w).is k v=keyIs k v:=rfl
theorem BG (prog:Program)(w:World)(i:Int)(t:Tok):(bK prog w).is (.inl i) (.int i t)=true:=HZ i t
theorem BF (prog:Program)(w:World)(x:Str)(t:Tok):(bK prog w).is (.inr x) (.str x t)=true:=xA x t
inductive V where
 | non|bl (b:Bool)|int (i:Int)|str (x:Str)|byt (b:Array UInt8)|flt (b:UInt64)|ref (a:Addr)|ty (n:String)
 deriving DecidableEq
noncomputable def aX:V->Value->Prop
 | .non,u=>u=Value.none
 | .bl b,u=>u=Value.bool b
 | .int i,u=>∃t,u=Value.int i t
 | .str x,u=>∃t,u=Value.str x t
 | .byt b,u=>∃t,u=Value.bytes b t
 | .flt b,u=>∃t,u=Value.float b t
 | .ref a,u=>u=Value.ref a
 | .ty n,u=>u=Value.type n
noncomputable abbrev aY:List V->bX->Prop:=Paired aX
theorem aY.length {xs:List V}{us:bX}(r:aY xs us):xs.length=us.length:=Paired.length r
theorem aY.get:∀{xs:List V} {us:bX} {i:Nat} {x:V},aY xs us->xs[i]?=some x->∃u,us[i]?=some u/\aX x u
 | _,_,_,_,.nil,e=>by simp at e
 | _,_,0,_,.cons r _,e=>by simp at e;subst e;exact⟨_,rfl,r⟩
 | _,_,i+1,x,.cons _ t,e=>by obtain⟨u,b,a⟩:=aY.get (i:=i) (x:=x) t (by simpa using e);exact⟨u,by simpa using b,a⟩
theorem aY.set {x:V}{u:Value}(r:aX x u):∀{xs:List V} {us:bX} (i:Nat),aY xs us->aY (xs.set i x) (us.set i u)
 | _,_,_,.nil=>.nil
 | _,_,0,.cons _ t=>.cons r t
 | _,_,i+1,.cons q t=>.cons q (aY.set r i t)
theorem aY.append:∀{xs ys:List V} {us ws:bX},aY xs us->aY ys ws->aY (xs++ys) (us++ws)
 | _,_,_,_,.nil,s=>s
 | _,_,_,_,.cons r t,s=>.cons r (aY.append t s)
theorem aY.take:∀{xs:List V} {us:bX} (n:Nat),aY xs us->aY (xs.take n) (us.take n)
 | _,_,0,_=>.nil
 | _,_,_+1,.nil=>.nil
 | _,_,n+1,.cons r t=>.cons r (aY.take n t)
theorem aY.drop:∀{xs:List V} {us:bX} (n:Nat),aY xs us->aY (xs.drop n) (us.drop n)
 | _,_,0,r=>r
 | _,_,_+1,.nil=>.nil
 | _,_,n+1,.cons _ t=>aY.drop n t
noncomputable def lF:Option V->Option Value->Prop
 | some v,some u=>aX v u
 | none,none=>True
 | _,_=>False
noncomputable def KV {κ:Type}:List (κ×V)->List (κ×Value)->Prop:=Paired λ(p:κ×V) (q:κ×Value)=>p.1=q.1/\aX p.2 q.2
noncomputable def kV:bE->V
 | .inl i=>.int i
 | .inr x=>.str x
inductive HO where
 /-- a list -/
 | lst (xs:List V)
 /-- a tuple (never changes) -/
 | tup (xs:List V)
 /-- a dict whose keys are ints and texts;one whose keys are tuples of ints and texts (the empty one is both) -/
 | dK (kvs:List (bE×V))|dT (kvs:List (List bE×V))
 /-- a set of ints: its members,its size -/
 | set (S:Int->Bool) (n:Nat)
 /-- an instance of the class at C,its dict at dx,its attributes -/
 | ins (C dx:Addr) (fs:List (Str×V))
 /-- the dict of the instance at x -/
 | own (x:Addr)
 /-- the dict of an exception -/
 | xd (fs:List (Str×V))
 /-- a bound method,f of x -/
 | met (f x:Addr)
 /-- a range object lo,lo+1,.. below hi -/
 | rng (lo hi:Int)
 /-- a thing that is known to the object (the script;a dict while a loop walks it): read,never written while it is so -/
 | frz (o:Obj) (u:HO)
 /-- a code object's table -/
 | tbl (ps:jK)
 /-- any other thing,by what is true of its one object (a def of one's own: SetO a S n:=HO.ext λh=>..) -/
 | ext (φ:Heap->Prop)
noncomputable abbrev Hp:=Addr->Option HO
noncomputable def upd (H:Hp)(a:Addr)(o:HO):Hp:=λb=>if b=a then some o else H b
theorem upd_same {H:Hp}{a:Addr}{o:HO}:upd H a o a=some o:=by unfold upd;rw[ai rfl]
theorem aC {H:Hp}{a b:Addr}{o:HO}(h:b≠a):upd H a o b=H b:=by unfold upd;rw[ab h]
theorem upd_upd {H:Hp}{a:Addr}{o u:HO}:upd (upd H a o) a u=upd H a u:=by funext b;unfold upd;split <;> rfl
theorem SM {H:Hp}{a b:Addr}{o u:HO}(h:H a=some o)(h':H b=some u)(d:o≠u):a≠b:=by intro e;subst e;rw[h]at h';exact d (Option.some.inj h')
theorem aF {H:Hp}{a b:Addr}{o:HO}(h:H a=some o)(h':H b=none):a≠b:=by intro e;subst e;rw[h]at h';cases h'
section
variable (P:Program)(w:World)
noncomputable def bZ (H:Hp)(h:Heap)(a:Addr):HO->Prop
 | .lst xs=>xs.length<=sizeLine/\∃(its:bX) (n:Nat),aY xs its/\h.get? a=some {cls:=.type "list",data:=.seq its.toArray n}
 | .tup xs=>xs.length<=sizeLine/\∃its:bX,aY xs its/\IsTup h a its.toArray
 | .dK b=>b.length<=sizeLine/\(a == sysModules)=false/\∃vs,KV b vs/\h.DictOf (bK P w) a vs
 | .dT b=>b.length<=sizeLine/\(a == sysModules)=false/\∃xs:List (List bE×Addr×Value),
   Paired (λ(p:List bE×V) (q:List bE×Addr×Value)=>p.1=q.1/\H q.2.1=some (.tup (p.1.map kV))/\aX p.2 q.2.2) b xs /\
   ∃o i m,h.get? a=some o/\o.ExactDict/\o.data = .dict i m/\i.toList=xs.map (entryOfKey (tupleKind (bK P w)))/\(xs.map (·.1)).Nodup
 | .set S n=>h.SetOf (intKind P w) a S n
 | .ins C d fs=>H d=some (.own a)/\fs.length<=1000/\d≠a/\h.get? a=some (PySem.W.instObj C d) /\
   ∃c,h.Ns1 d c/\(∀f,lF (fs.lookup f) (c f))/\PySem.Within c (fs.map (·.1))
 | .own _=>∃o,h.get? a=some o
 | .xd fs=>∃c,h.Ns1 a c/\∀f,lF (fs.lookup f) (c f)
 | .rng j l=>∃t u v,h.get? a=some {cls:=.type "range",data:=.fields #[.int j t,.int l u,.int 1 v]}
 | .frz o u=>h.get? a=some o/\bZ H h a u
 | .tbl ps=>h.get? a=some {cls:=.none,data:=.fields ps}
 | .met f x=>h.get? a=some (PySem.W.methodObj (.ref f) (.ref x))
 | .ext φ=>φ h/\(∃o,h.get? a=some o)/\∀g e:Heap,φ g->(∀o,g.get? a=some o->e.get? a=some o)->φ e
def hV (H:Hp)(h:Heap):Prop:=∀a o,H a=some o->bZ P w H h a o
end
section
variable {P:Program}{w:World}{H H':Hp}{h h':Heap}{a:Addr}{o:HO}
theorem bZ.lt (x:bZ P w H h a o):a<h.objs.size:=by
 cases o with
 | lst xs=>obtain⟨_,_,_,_,e⟩:=x;exact ba e
 | tup xs=>obtain⟨_,_,_,p⟩:=x;exact p.lt
 | dK b=>obtain⟨_,_,_,_,o,_,_,e,_⟩:=x;exact ba e
 | dT b=>obtain⟨_,_,_,_,o,_,_,e,_⟩:=x;exact ba e
 | set S n=>obtain⟨o,_,_,_,e,_⟩:=x;exact ba e
 | ins C i fs=>obtain⟨_,_,_,e,_⟩:=x;exact ba e
 | own y=>obtain⟨_,e⟩:=x;exact ba e
 | xd fs=>obtain⟨_,⟨_,_,_,e,_⟩,_⟩:=x;exact ba e
 | rng d g=>obtain⟨_,_,_,e⟩:=x;exact ba e
 | frz c u=>obtain⟨e,_⟩:=x;exact ba e
 | tbl ps=>exact ba (show h.get? a=some _ from x)
 | met f y=>exact ba (show h.get? a=some _ from x)
 | ext φ=>obtain⟨_,⟨_,e⟩,_⟩:=x;exact ba e
theorem Paired.mapP {α β:Type}{F G:α->β->Prop}{d:List α}{c:List β}(h:Paired F d c)(f:∀a b,F a b->G a b):Paired G d c:=by
 induction h with
 | nil=>exact .nil
 | cons r t e=>exact .cons (f _ _ r) e
theorem bZ.stay (x:bZ P w H h a o)(k:∀b u,(b=a∨H b=some (.own a))->h.get? b=some u->h'.get? b=some u)
  (ho:∀b,H b=some (.own a)->H' b=some (.own a)) (A:∀b xs,H b=some (.tup xs)->H' b=some (.tup xs)):bZ P w H' h' a o:=by
 induction o with
 | lst xs=>obtain⟨z,its,n,r,e⟩:=x;exact⟨z,its,n,r,k _ _ (.inl rfl) e⟩
 | tup xs=>obtain⟨z,its,r,g,e,c⟩:=x;exact⟨z,its,r,g,k _ _ (.inl rfl) e,c⟩
 | dK m=>obtain⟨z,y,vs,r,g,i,j,e,c⟩:=x;exact⟨z,y,vs,r,g,i,j,k _ _ (.inl rfl) e,c⟩
 | dT m =>
  obtain⟨z,y,xs,r,g,i,j,e,c⟩:=x;exact⟨z,y,xs,Paired.mapP r λp q z=>⟨z.1,A _ _ z.2.1,z.2.2⟩,g,i,j,k _ _ (.inl rfl) e,c⟩
 | set S n=>obtain⟨g,i,j,t,e,c⟩:=x;exact⟨g,i,j,t,k _ _ (.inl rfl) e,c⟩
 | ins C G fs =>
  obtain⟨d,z,ne,e,l,⟨od,i,j,B,c⟩,r⟩:=x;exact⟨ho _ d,z,ne,k _ _ (.inl rfl) e,l,⟨od,i,j,k _ _ (.inr d) B,c⟩,r⟩
 | own y=>obtain⟨g,e⟩:=x;exact⟨g,k _ _ (.inl rfl) e⟩
 | xd fs=>obtain⟨l,⟨od,i,j,e,c⟩,r⟩:=x;exact⟨l,⟨od,i,j,k _ _ (.inl rfl) e,c⟩,r⟩
 | rng E F=>obtain⟨t,u,v,e⟩:=x;exact⟨t,u,v,k _ _ (.inl rfl) e⟩
 | frz g u s=>obtain⟨e,q⟩:=x;exact⟨k _ _ (.inl rfl) e,s q⟩
 | tbl ps =>
  have e:h.get? a=some {cls:=.none,data:=.fields ps}:=x;show h'.get? a=some {cls:=.none,data:=.fields ps};exact k a _ (.inl rfl) e
 | met f y =>
  have e:h.get? a=some (PySem.W.methodObj (.ref f) (.ref y)):=x;show h'.get? a=some (PySem.W.methodObj (.ref f) (.ref y));exact k a _ (.inl rfl) e
 | ext φ=>obtain⟨p,⟨o,e⟩,st⟩:=x;exact⟨st _ _ p λo q=>k _ _ (.inl rfl) q,⟨o,k _ _ (.inl rfl) e⟩,st⟩
theorem hV.lt (x:hV P w H h)(e:H a=some o):a<h.objs.size:=(x a o e).lt
theorem hV.fresh (x:hV P w H h)(e:h.objs.size<=a):H a=none:=by
 cases q:H a with
 | none=>rfl
 | some u=>exact absurd (bd (x.lt q) e) (bI _)
theorem hV.kept (x:hV P w H h)(k:∀b u,h.get? b=some u->h'.get? b=some u):hV P w H h':=λa o e =>
 (x a o e).stay (λb u _ q=>k b u q) (λ_ q=>q) λ_ _ q=>q
theorem hV.laid (x:hV P w H h)(k:∀b u,h.get? b=some u->h'.get? b=some u)(g:h.objs.size<=a)(new:bZ P w (upd H a o) h' a o):hV P w (upd H a o) h':=λb u e=>by
 have d:=x.fresh g;by_cases f:b=a
 ·subst f;rw[upd_same]at e;cases e;exact new
 ·rw[aC f]at e;exact(x b u e).stay (λc v _ q=>k c v q) (λc q=>by rw[aC (aF q d)];exact q) λc xs q=>by rw[aC (aF q d)];exact q
end
def Rd (H:Hp)(a:Addr)(u:HO):Prop:=H a=some u∨∃o,H a=some (.frz o u)
theorem Rd.ok {P:Program}{w:World}{H:Hp}{h:Heap}{a:Addr}{u:HO}(r:Rd H a u)(x:hV P w H h):bZ P w H h a u:=by
 rcases r with r|⟨o,r⟩
 ·exact x a u r
 ·obtain⟨_,q⟩:=x a _ r;exact q
noncomputable def S0:Option HO->Prop
 | some (.lst _)=>True
 | some (.dK _)=>True
 | some (.dT _)=>True
 | some (.set _ _)=>True
 | some (.ins _ _ _)=>True
 | some (.ext _)=>True
 | _=>False
section
variable {P:Program}{w:World}{H:Hp}{h h':Heap}{x e:Addr}{o':HO}
theorem hV.write (ok:hV P w H h)(g:S0 (H x))(l:e=x∨H e=some (.own x))(k:∀b u,b≠e->h.get? b=some u->h'.get? b=some u)(j:∃u,h'.get? e=some u)
  (new:bZ P w (upd H x o') h' x o'):hV P w (upd H x o') h':=λb u q=>by
 have d:∀c y,H c=some (.own y)->c≠x:=λc y r z=>by subst z;rw[r]at g;exact g
 have f:∀c xs,H c=some (.tup xs)->c≠x:=λc xs r z=>by subst z;rw[r]at g;exact g
 by_cases i:b=x
 ·subst i;rw[upd_same]at q;cases q;exact new
 ·rw[aC i]at q;by_cases a:b=e
  ·have q':H b=some (.own x):=by
    rcases l with z|z
    ·exact absurd (a.trans z) i
    ·rw[a];exact z
   rw[q]at q';cases q';obtain⟨v,m⟩:=j;exact⟨v,by rw[a];exact m⟩
  ·refine(ok b u q).stay (λc v hc r=>k c v ?_ r) (λc r=>by rw[aC (d c b r)];exact r) λc xs r=>by rw[aC (f c xs r)];exact r
   rcases hc with rfl|hc
   ·exact a
   ·rintro rfl;rcases l with z|z
    ·exact d c b hc z
    ·rw[hc]at z;cases z;exact i rfl
end
structure Un (fs ex:List Addr)(H H':Hp)(h h':Heap):Prop where
 keep:∀b o,h.get? b=some o->H b=none->b∉fs->b∉ex->h'.get? b=some o
 slot:∀b o,h.get? b=some o->H b=none->b∈fs->b∉ex->∃sl,h'.get? b=some {o with slots:=sl}
 free:∀b o,h.get? b=some o->H b=none->b∉ex->H' b=none
 there:∀b o,h.get? b=some o->b∉ex->∃o',h'.get? b=some o'
 tups:∀b xs,H b=some (.tup xs)->H' b=some (.tup xs)
 frzs:∀b o u,H b=some (.frz o u)->H' b=some (.frz o u)
 tbls:∀b ps,H b=some (.tbl ps)->∃more,H' b=some (.tbl (ps++more))
section
variable {fs fs' ex ex':List Addr}{H H1 H2:Hp}{h h1 h2 h':Heap}{a x e:Addr}{o:HO}
theorem Un.any (u:Un fs ex H H1 h h1){b:Addr}{a:Obj}(q:h.get? b=some a)(n:H b=none)(c:b∉ex):∃e,h1.get? b=some {a with slots:=e}:=by
 by_cases d:b∈fs
 ·exact u.slot b a q n d c
 ·exact⟨a.slots,u.keep b a q n d c⟩
theorem Un.kept (k:∀b u,h.get? b=some u->h'.get? b=some u):Un fs ex H H h h' :=
 ⟨λb a q _ _ _=>k b a q,λb a q _ _ _=>⟨a.slots,k b a q⟩,λ_ _ _ n _=>n,λb a q _=>⟨a,k b a q⟩,λ_ _ q=>q,λ_ _ _ q=>q,λ_ ps q=>⟨#[],by rw[q];simp⟩⟩
theorem Un.refl:Un fs ex H H h h:=Un.kept λ_ _ q=>q
theorem Un.laid (k:∀b u,h.get? b=some u->h'.get? b=some u)(d:h.objs.size<=a)(c:H a=none):Un fs ex H (upd H a o) h h' where
 keep:=λb u q _ _ _=>k b u q
 slot:=λb u q _ _ _=>⟨u.slots,k b u q⟩
 free:=λb u q n _=>by rw[aC (bn (bd (ba q) d))];exact n
 there:=λb u q _=>⟨u,k b u q⟩
 tups:=λb xs q=>by rw[aC (aF q c)];exact q
 frzs:=λb u xs q=>by rw[aC (aF q c)];exact q
 tbls:=λb ps q=>⟨#[],by rw[aC (aF q c),q];simp⟩
theorem Un.write (c:S0 (H x))(j:e=x∨H e=some (.own x))(k:∀b u,b≠e->h.get? b=some u->h'.get? b=some u)(f:∃u,h'.get? e=some u):Un fs ex H (upd H x o) h h':=by
 have g:∀b,H b=none->b≠x:=λb n z=>by subst z;rw[n]at c;exact c
 have i:∀b,H b=none->b≠e:=λb n z=>by
  subst z;rcases j with r|r
  ·exact g b n r
  ·rw[n]at r;cases r
 have d:∀b u,H b=some u->¬S0 (some u)->b≠x:=λb u q nm z=>by subst z;rw[q]at c;exact nm c
 refine⟨λb u q n _ _=>k b u (i b n) q,λb u q n _ _=>⟨u.slots,k b u (i b n) q⟩,λb u q n _=>by rw[aC (g b n)];exact n,λb u q _=>?_,
  λb xs q=>by rw[aC (d b _ q λz=>z)];exact q,λb u xs q=>by rw[aC (d b _ q λz=>z)];exact q,λb ps q=>⟨#[],by rw[aC (d b _ q λz=>z),q];simp⟩⟩
 by_cases a:b=e
 ·subst a;exact f
 ·exact⟨u,k b u a q⟩
end
noncomputable def trk (h:Heap)(H:Hp):List Addr:=(List.range h.objs.size).filter λa=>(H a).isSome
noncomputable def hidT (h:Heap)(H:Hp):Heap:=PySem.W.hideAll h (trk h H)
theorem IC (h:Heap)(H:Hp):(hidT h H).objs.size=h.objs.size:=PySem.W.hideAll_size _ _
theorem uQ {h:Heap}{H:Hp}{b:Addr}{o:Obj}(e:h.get? b=some o)(n:H b=none):(hidT h H).get? b=some o :=
 PySem.W.hideAll_get _ e λa=>by have q:(H b).isSome=true:=(cy.mp a).2;rw[n]at q;simp at q
theorem OC {h:Heap}{H:Hp}{b:Addr}{o:Obj}(e:(hidT h H).get? b=some o):h.get? b=some o/\H b=none:=by
 have e':h.get? b=some o:=PySem.W.of_hideAll (trk h H) e;refine⟨e',?_⟩;cases q:H b with
 | none=>rfl
 | some x =>
  have a:b∈trk h H:=cy.mpr ⟨List.mem_range.mpr (ba e'),by simp[q]⟩;have z:(hidT h H).get? b=none:=PySem.W.hideAll_none (trk h H) a;rw[z]at e;cases e
noncomputable def O4 (g h:Heap)(L:Addr):cY:=(List.range h.objs.size).filterMap λa=>if a=L∨(g.get? a).isSome=true then none else(h.get? a).map λo=>(a,o)
noncomputable def rest (g h:Heap)(L d:Addr):cY:=(O4 g h L).filter λp=>decide (p.1≠d)
structure Mod (K:PySem.W.Frag)(mg:fR)(base:Heap):Prop where
 kin:K.In base
 glob:base.Ns mainGlobals mg
 blt:∃mb,base.Ns builtinsNs mb/\∀x:Str,x≠"__name__"->mb x=bootBuiltins x
 nolimit:base.NoLimit
structure Cx where
 prog:Program
 w:World
 K:PySem.W.Frag
 mg:fR
 base:Heap
 A:Around
 N:aQ
 s₀:Shared
 H₀:Hp
 env:Env
 outer:List Env
 stack:List Env
 ex:List Addr
 fn:Str->Bool
 calm:Bool
 pn:cY
 xe:cE
noncomputable def frs (l:List Env):List Addr:=l.filterMap (·.frame)
noncomputable abbrev Cx.fs (X:Cx):List Addr:=frs X.outer
def ST (a:Scope)(x:Str):Prop:=a.names.lookup x=some .local∨a.names.lookup x=some .cell∨a.names.lookup x=some .free
def S1 (a:Scope)(x:Str):Prop:=a.names.lookup x=some .local∨a.names.lookup x=some .cell
noncomputable def TL (env:Env)(h:Heap)(m:fR)(x:Str)(u:Value):Prop :=
 (env.kindOf x=some .local/\m x=some u)∨((env.kindOf x=some .cell∨env.kindOf x=some .free)/\∃c,env.cells.lookup x=some c/\h.IsCell c (some u))
structure Cx.Ok (X:Cx):Prop where
 mod:Mod X.K X.mg X.base
 kind:X.env.scope.kind = .function
 glob:X.env.globals=mainGlobals
 blt:X.env.builtins=builtinsNs
 above:X.s₀.heap.objs.size<=X.env.locals
 inj:∀x y c,X.env.cells.lookup x=some c->X.env.cells.lookup y=some c->x=y
 has:∀x,(X.env.kindOf x=some .cell∨X.env.kindOf x=some .free)->∃c,X.env.cells.lookup x=some c
 cab:∀x c,X.fn x=true->X.env.cells.lookup x=some c->X.s₀.heap.objs.size<=c
 hd:X.calm=true->X.A.handled=none
 frames:X.A.frames=some X.stack
 stk:X.stack=X.outer∨(X.stack=X.env::X.outer/\X.env.frame=some X.env.locals)
 exf:∀b∈X.ex,b≠X.env.locals/\∀x c,X.env.cells.lookup x=some c->c≠b
 bs:∀b o,X.base.get? b=some o->X.s₀.heap.get? b=some o/\X.H₀ b=none
 bsz:X.base.objs.size<=X.s₀.heap.objs.size
 noex:∀b o,X.base.get? b=some o->b∉X.ex
 exfs:∀b∈X.ex,b∉X.fs
 funs:X.s₀.heap.FunFrames X.base X.outer
 frf:∀b∈X.fs,X.H₀ b=none
structure aR (X:Cx)(pins:cY)(σ:List (Option V))(H:Hp)(s:Shared):Prop where
 ok:X.Ok
 os:s.os=X.s₀.os
 bare:AllBare s.gens
 base:Un X.fs X.ex X.H₀ H X.s₀.heap s.heap
 loc:∃m,s.heap.Ns X.env.locals m/\∀(i:Nat) (x:Str) (v:V),X.N[i]?=some x->σ[i]?=some (some v)->ST X.env.scope x->∃u,aX v u/\TL X.env s.heap m x u
 cell:∀x c,X.env.cells.lookup x=some c->∃v,s.heap.IsCell c v
 free:H X.env.locals=none
 freeC:∀x c,X.env.cells.lookup x=some c->H c=none
 pin:∀p∈X.pn++pins,s.heap.get? p.1=some p.2/\H p.1=none/\p.1≠X.env.locals/\p.1∉X.fs/\∀v,p.2.data≠.cell v
 hok:hV X.prog X.w H s.heap
 len:σ.length=X.N.length
section
variable {X:Cx}{pins:cY}{σ:List (Option V)}{H H':Hp}{s:Shared}{h':Heap}
theorem Cx.Ok.nofr (ok:X.Ok){b:Addr}{o:Obj}(e:X.base.get? b=some o):b∉X.fs:=λa=>by have:=(ok.funs.mem a).1;rw[e]at this;cases this
theorem aR.bs (I:aR X pins σ H s):∀b o,X.base.get? b=some o->s.heap.get? b=some o/\H b=none:=λb o e =>
 ⟨I.base.keep b o (I.ok.bs b o e).1 (I.ok.bs b o e).2 (I.ok.nofr e) (I.ok.noex b o e),I.base.free b o (I.ok.bs b o e).1 (I.ok.bs b o e).2 (I.ok.noex b o e)⟩
theorem aR.bk (I:aR X pins σ H s):∀b o,X.base.get? b=some o->s.heap.get? b=some o:=λb o e=>(I.bs b o e).1
theorem aR.mod (I:aR X pins σ H s):Mod X.K X.mg X.base:=I.ok.mod
theorem aR.kIn (I:aR X pins σ H s):X.K.In s.heap:=I.ok.mod.kin.keeps I.bk
theorem aR.lt (I:aR X pins σ H s):X.env.locals<s.heap.objs.size:=let⟨_,hn,_⟩:=I.loc;hn.lt
theorem aR.sz (I:aR X pins σ H s):X.s₀.heap.objs.size<=s.heap.objs.size:=ao I.ok.above (Nat.le_of_lt I.lt)
theorem aR.nofs (I:aR X pins σ H s){a:Addr}(h:s.heap.objs.size<=a):a∉X.fs:=λb=>by obtain⟨_,o,ho,_⟩:=I.ok.funs.mem b;exact absurd (bd (ba ho) (ao I.sz h)) (bI _)
theorem aR.cne (I:aR X pins σ H s):∀x c,X.env.cells.lookup x=some c->c≠X.env.locals:=λx c e z=>by obtain⟨v,o,ho,hd⟩:=I.cell x c e;obtain⟨m,⟨d,f,g,a,b,_⟩,_⟩:=I.loc;rw[z,a]at ho;cases ho;rw[b]at hd;cases hd
theorem aR.funs (I:aR X pins σ H s):s.heap.FunFrames X.base X.outer:=by
 have all:∀(l:List Env),(∀b∈frs l,b∈X.fs)->X.s₀.heap.FunFrames X.base l->s.heap.FunFrames X.base l:=by
  intro l
  induction l with
  | nil=>intro _ _;trivial
  | cons env r g =>
   intro f j;obtain⟨m,⟨L,o,a,i,ho,hd⟩,h⟩:=j;have d:L∈X.fs:=f L (by unfold frs;rw[List.filterMap_cons,a];exact aw);obtain⟨p,e⟩:=I.base.slot L o ho (I.ok.frf L d) d λz=>I.ok.exfs L z d;exact⟨m,⟨L,_,a,i,e,hd⟩,g (λb c=>f b (by unfold frs;rw[List.filterMap_cons,a];exact az _ c)) h⟩
 exact all X.outer (λ_ c=>c) I.ok.funs
theorem aR.stack (I:aR X pins σ H s):s.heap.FunFrames X.base X.stack:=by
 rcases I.ok.stk with e|⟨e,b⟩
 ·rw[e];exact I.funs
 ·rw[e];obtain⟨m,a,_⟩:=I.loc;refine .cons (by rw[I.ok.kind];decide) b a ?_ I.funs;exact Heap.get?_none_of_le (ao I.ok.bsz I.ok.above)
theorem aR.stkSub (I:aR X pins σ H s):∀b∈frs X.stack,b∈X.env.locals::X.fs:=λb a=>by
 rcases I.ok.stk with e|⟨e,c⟩
 ·rw[e]at a;exact az _ a
 ·rw[e]at a;unfold frs at a;rw[List.filterMap_cons,c]at a;exact a
theorem aR.stkFree (I:aR X pins σ H s):∀b∈frs X.stack,H b=none:=λb a=>by
 rcases cr.mp (I.stkSub b a)with e|a
 ·rw[e];exact I.free
 ·obtain⟨_,o,ho,_⟩:=I.ok.funs.mem a;exact I.base.free b o ho (I.ok.frf b a) λz=>I.ok.exfs b z a
theorem aR.step {g':Array GenState}{t':Nat}{d':Drawn}{ch:List Addr}(I:aR X pins σ H s)
  (g:∀b∈ch,(b∈X.ex∨X.s₀.heap.objs.size<=b)/\b≠X.env.locals/\(∀x c,X.env.cells.lookup x=some c->c≠b)/\∀p∈X.pn++pins,p.1≠b)
  (keep:∀b o,b≠X.env.locals->b∉X.fs->b∉ch->s.heap.get? b=some o->H b=none->h'.get? b=some o)
  (slot:∀b o,b≠X.env.locals->b∈X.fs->b∉ch->s.heap.get? b=some o->H b=none->∃G,h'.get? b=some {o with slots:=G}) (free:∀b o,b∉ch->s.heap.get? b=some o->H b=none->H' b=none)
  (there:∀b o,b∉ch->s.heap.get? b=some o->∃B,h'.get? b=some B)
  (tups:∀b xs,H b=some (.tup xs)->H' b=some (.tup xs)) (frzs:∀b o u,H b=some (.frz o u)->H' b=some (.frz o u)) (tbls:∀b ps,H b=some (.tbl ps)->∃more,H' b=some (.tbl (ps++more)))
  (ns:∀m,s.heap.Ns X.env.locals m->h'.Ns X.env.locals m) (hok:hV X.prog X.w H' h') (Q:AllBare g') :
  aR X pins σ H' {s with heap:=h',gens:=g',drawn:=d',toks:=t'}:=by
 have C:∀b o,X.s₀.heap.get? b=some o->b≠X.env.locals:=λb o e=>bn (bd (ba e) I.ok.above);have j:∀b o,X.s₀.heap.get? b=some o->b∉X.ex->b∉ch:=λb o e a A=>by
  rcases(g b A).1 with z|z
  ·exact a z
  ·exact absurd (bd (ba e) z) (bI _)
 have h:∀x c,X.env.cells.lookup x=some c->∀v,s.heap.IsCell c v->h'.IsCell c v:=λx c e v ⟨o,ho,hd⟩=>by
  have f:c∉ch:=λz=>(g c z).2.2.1 x c e rfl;by_cases hc:c∈X.fs
  ·obtain⟨G,q⟩:=slot c o (I.cne x c e) hc f ho (I.freeC x c e);exact⟨_,q,hd⟩
  ·exact⟨o,keep c o (I.cne x c e) hc f ho (I.freeC x c e),hd⟩
 refine⟨I.ok,I.os,Q,⟨λb o e n A a=>?_,λb o e n A a=>?_,λb o e n a=>?_,λb o e a=>?_,λb xs e=>tups b xs (I.base.tups b xs e),λb o xs e=>frzs b o xs (I.base.frzs b o xs e),λb ps e=>?_⟩,?_,λx c e=>?_,?_,λx c e=>?_,λp K=>?_,hok,I.len⟩
 ·exact keep b o (C b o e) A (j b o e a) (I.base.keep b o e n A a) (I.base.free b o e n a)
 ·obtain⟨G,t⟩:=I.base.slot b o e n A a;obtain⟨F,E⟩:=slot b _ (C b o e) A (j b o e a) t (I.base.free b o e n a);exact⟨F,E⟩
 ·obtain⟨B,t⟩:=I.base.there b o e a;exact free b B (j b o e a) t (I.base.free b o e n a)
 ·obtain⟨B,t⟩:=I.base.there b o e a;exact there b B (j b o e a) t
 ·obtain⟨N,t⟩:=I.base.tbls b ps e;obtain⟨L,E⟩:=tbls b _ t;exact⟨N++L,by rw[E,Array.append_assoc]⟩
 ·obtain⟨m,O,P⟩:=I.loc;refine⟨m,ns m O,λi x v t E R=>?_⟩;obtain⟨u,r,l⟩:=P i x v t E R;refine⟨u,r,?_⟩;rcases l with l|⟨k,c,e,z⟩
  ·exact .inl l
  ·exact .inr ⟨k,c,e,h x c e _ z⟩
 ·obtain⟨v,z⟩:=I.cell x c e;exact⟨v,h x c e v z⟩
 ·obtain⟨m,⟨o,_,_,ho,_⟩,_⟩:=I.loc;exact free _ o (λz=>(g _ z).2.1 rfl) ho I.free
 ·obtain⟨v,o,ho,hd⟩:=I.cell x c e;exact free c o (λz=>(g c z).2.2.1 x c e rfl) ho (I.freeC x c e)
 ·obtain⟨e,n,ne,J,d⟩:=I.pin p K;have f:p.1∉ch:=λz=>(g p.1 z).2.2.2 p K rfl;exact⟨keep p.1 p.2 ne J f e n,free p.1 p.2 f e n,ne,J,d⟩
theorem aR.un {t':Nat}(I:aR X pins σ H s)(u:Un X.fs [] H H' s.heap h')(hok:hV X.prog X.w H' h'):aR X pins σ H' {s with heap:=h',toks:=t'}:=by
 obtain⟨m,⟨o,q,t,ho,r⟩,_⟩:=id I.loc;obtain⟨j,i⟩:=u.any ho I.free (by simp)
 exact I.step (g':=s.gens) (d':=s.drawn) (ch:=[]) (λ_ z=>nomatch z) (λb o _ c _ e n=>u.keep b o e n c (by simp)) (λb o _ c _ e n=>u.slot b o e n c (by simp)) (λb o _ e n=>u.free b o e n (by simp)) (λb o _ e=>u.there b o e (by simp)) u.tups u.frzs u.tbls (λp h=>by
  obtain⟨l,d,f,a,g⟩:=h;rw[ho]at a;cases a
  exact⟨_,d,f,i,g⟩) hok I.bare
theorem aR.call {g':Array GenState}{t':Nat}{d':Drawn}{ch:List Addr}(I:aR X pins σ H s)(u:Un (frs X.stack) ch H H' s.heap h')(hok:hV X.prog X.w H' h')(l:AllBare g')
  (d:∀b∈ch,(b∈X.ex∨X.s₀.heap.objs.size<=b)/\b≠X.env.locals/\(∀x c,X.env.cells.lookup x=some c->c≠b)/\∀p∈X.pn++pins,p.1≠b) :
  aR X pins σ H' {s with heap:=h',gens:=g',drawn:=d',toks:=t'}:=by
 obtain⟨m,⟨o,B,C,ho,r⟩,_⟩:=id I.loc;obtain⟨t,f⟩:=u.any ho I.free λz=>(d _ z).2.1 rfl
 exact I.step (ch:=ch) d (λb o f q hc e n=>u.keep b o e n (λz=>(cr.mp (I.stkSub b z)).elim f q) hc) (λb o _ _ hc e n=>u.any e n hc) (λb o hc e n=>u.free b o e n hc) (λb o hc e=>u.there b o e hc) u.tups u.frzs u.tbls (λA j=>by
  obtain⟨v,g,h,a,i⟩:=j;rw[ho]at a;cases a
  exact⟨_,g,h,f,i⟩) hok l
theorem aR.turned {t':Nat}{it:Addr}(I:aR X pins σ H s)(k:∀b o,b≠it->s.heap.get? b=some o->h'.get? b=some o)(f:H it=none)(d:it≠X.env.locals)
  (l:it∈X.ex∨X.s₀.heap.objs.size<=it) (j:∀x c,X.env.cells.lookup x=some c->c≠it) (i:∀p∈X.pn++pins,p.1≠it):aR X pins σ H {s with heap:=h',toks:=t'}:=by
 have a:∀b u,H b=some u->b≠it:=λb u e z=>by rw[z,f]at e;cases e
 refine I.step (g':=s.gens) (d':=s.drawn) (ch:=[it]) (λb h=>?_) (λb o _ _ hc e _=>k b o (λz=>hc (by simp[z])) e) (λb o _ _ hc e _=>⟨o.slots,k b o (λz=>hc (by simp[z])) e⟩) (λ_ _ _ _ n=>n)
  (λb o hc e=>⟨o,k b o (λz=>hc (by simp[z])) e⟩) (λ_ _ e=>e) (λ_ _ _ e=>e) (λb ps e=>⟨#[],by rw[e];simp⟩) (λm g=>?_) (λb u e=>?_) I.bare
 ·have e:b=it:=by simpa using h
  subst e;exact⟨l,d,j,i⟩
 ·obtain⟨o,t,w,ho,r⟩:=g;exact⟨o,t,w,k _ o (Ne.symm d) ho,r⟩
 ·refine(I.hok b u e).stay (λc v hc q=>k c v ?_ q) (λ_ q=>q) λ_ _ q=>q;rcases hc with z|z
  ·rw[z];exact a b u e
  ·exact a c _ z
theorem aR.tok (I:aR X pins σ H s)(t:Nat):aR X pins σ H {s with toks:=t}:=I.un (h':=s.heap) (t':=t) Un.refl I.hok
theorem aR.kept {t':Nat}(I:aR X pins σ H s)(k:∀b u,s.heap.get? b=some u->h'.get? b=some u):aR X pins σ H {s with heap:=h',toks:=t'}:=I.un (Un.kept k) (I.hok.kept k)
theorem aR.laid {a:Addr}{o:HO}{t':Nat}(I:aR X pins σ H s)(k:∀b u,s.heap.get? b=some u->h'.get? b=some u)(c:s.heap.objs.size<=a)(new:bZ X.prog X.w (upd H a o) h' a o) :
  aR X pins σ (upd H a o) {s with heap:=h',toks:=t'}:=I.un (Un.laid k c (I.hok.fresh c)) (I.hok.laid k c new)
theorem aR.write {x e:Addr}{o:HO}{t':Nat}(I:aR X pins σ H s)(c:S0 (H x))(d:e=x∨H e=some (.own x))(k:∀b u,b≠e->s.heap.get? b=some u->h'.get? b=some u)(a:∃u,h'.get? e=some u)
  (new:bZ X.prog X.w (upd H x o) h' x o):aR X pins σ (upd H x o) {s with heap:=h',toks:=t'}:=I.un (Un.write c d k a) (I.hok.write c d k a new)
theorem aR.pins_of {a:cY}(I:aR X pins σ H s)(h:∀p∈a,s.heap.get? p.1=some p.2/\H p.1=none/\p.1≠X.env.locals/\p.1∉X.fs/\∀v,p.2.data≠.cell v):aR X a σ H s :=
 ⟨I.ok,I.os,I.bare,I.base,I.loc,I.cell,I.free,I.freeC,λp b=>(cs.mp b).elim (λz=>I.pin p (cb _ z)) (h p),I.hok,I.len⟩
theorem BC {N:aQ}(c:N.Nodup){i j:Nat}{x:Str}(a:N[i]?=some x)(b:N[j]?=some x):i=j:=by obtain⟨g,e⟩:=cm.mp a;obtain⟨f,d⟩:=cm.mp b;exact(List.getElem_inj c).mp (e.trans d.symm)
theorem wK {M:Model}{A:Around}{E:cE}{i:Nat}{x:Str}{v:V}{u:Value}{Q:Unit->Shared->Prop}(I:aR X pins σ H s)(hN:X.N.Nodup)(R:X.N[i]?=some x)(t:S1 X.env.scope x)(r:aX v u)
  (h:∀s',aR X pins (σ.set i (some v)) H s'->(∃a,Heap.SameBut a s.heap s'.heap/\(a=X.env.locals∨X.env.cells.lookup x=some a))->Q () s') (hf:X.fn x=true∨X.env.scope.names.lookup x=some .local:=by first|exact .inl rfl|exact .inr rfl|assumption):wpAny M A (storeName X.env x u) Q E s:=by
 obtain⟨m,hn,hl⟩:=id I.loc;have S:(X.env.scope.kind == .class || (X.env.scope.kind == .module && X.env.locals != X.env.globals))=false:=by rw[I.ok.kind];rfl
 have P:i<σ.length:=by rw[I.len];exact(cm.mp R).1
 have cne:=I.cne;have g:∀{a:Addr} {h':Heap},(∃o,s.heap.get? a=some o/\H a=none)->Heap.SameBut a s.heap h'->hV X.prog X.w H h':=λ{a h'} ha f b ob e=>by
  obtain⟨_,_,B⟩:=ha;refine(I.hok b ob e).stay (λc W hc q=>(f.2 c ?_).trans q) (λ_ q=>q) λ_ _ q=>q;rintro rfl;rcases hc with rfl|hc
  ·rw[B]at e;cases e
  ·rw[B]at hc;cases hc
 rcases t with F|F
 ·refine wpAny_storeName_local F hn (λh' hn' f=>?_) S;obtain⟨oL,_,_,hoL,_⟩:=id hn;refine h _ ⟨I.ok,I.os,I.bare,⟨λb o e n K t=>?_,λb o e n K t=>?_,I.base.free,λb o e t=>?_,I.base.tups,I.base.frzs,I.base.tbls⟩,⟨_,hn',λj y Z l C e3=>?_⟩,λy c e=>?_,I.free,I.freeC,λp hp=>?_,g ⟨oL,hoL,I.free⟩ f,by simpa using I.len⟩ ⟨_,f,.inl rfl⟩
  ·exact(f.2 b (bn (bd (ba e) I.ok.above))).trans (I.base.keep b o e n K t)
  ·obtain⟨sl,l⟩:=I.base.slot b o e n K t;exact⟨sl,(f.2 b (bn (bd (ba e) I.ok.above))).trans l⟩
  ·obtain⟨o',l⟩:=I.base.there b o e t;exact⟨o',(f.2 b (bn (bd (ba e) I.ok.above))).trans l⟩
  ·by_cases G:j=i
   ·subst G;rw[R]at l;cases l;rw[List.getElem?_set_self P]at C;cases C;exact⟨u,r,.inl ⟨F,by simp⟩⟩
   ·rw[List.getElem?_set_ne (Ne.symm G)]at C;obtain⟨u',r',q⟩:=hl j y Z l C e3;refine⟨u',r',?_⟩;rcases q with⟨k,e⟩|⟨k,c,e,z⟩
    ·refine .inl ⟨k,?_⟩;have:y≠x:=λe=>G (BC hN l (e ▸ R));simp[this,e]
    ·exact .inr ⟨k,c,e,z.sameBut f (cne y c e)⟩
  ·obtain⟨W,z⟩:=I.cell y c e;exact⟨W,z.sameBut f (cne y c e)⟩
  ·obtain⟨e,n,ne,nf,d⟩:=I.pin p hp;exact⟨(f.2 p.1 ne).trans e,n,ne,nf,d⟩
 ·have J:X.fn x=true:=by
   rcases hf with z|z
   ·exact z
   ·rw[z]at F;cases F
  obtain⟨c,hc⟩:=I.ok.has x (.inl F);obtain⟨W,z⟩:=I.cell x c hc;refine wpAny_storeName_cell I.ok.kind F hc z (λh' U f=>?_);obtain⟨oc,O,L⟩:=id z;refine h {s with heap:=h'} ⟨I.ok,I.os,I.bare,⟨λb o e n K t=>?_,λb o e n K t=>?_,I.base.free,λb o e t=>?_,I.base.tups,I.base.frzs,I.base.tbls⟩,⟨m,hn.sameBut f (Ne.symm (cne x c hc)),λj y Z l C e3=>?_⟩,λy Y e=>?_,I.free,I.freeC,λp hp=>?_,g ⟨oc,O,I.freeC x c hc⟩ f,by simpa using I.len⟩ ⟨c,f,.inr hc⟩
  ·exact(f.2 b (bn (bd (ba e) (I.ok.cab x c J hc)))).trans (I.base.keep b o e n K t)
  ·obtain⟨sl,l⟩:=I.base.slot b o e n K t;exact⟨sl,(f.2 b (bn (bd (ba e) (I.ok.cab x c J hc)))).trans l⟩
  ·obtain⟨o',l⟩:=I.base.there b o e t;exact⟨o',(f.2 b (bn (bd (ba e) (I.ok.cab x c J hc)))).trans l⟩
  ·by_cases G:j=i
   ·subst G;rw[R]at l;cases l;rw[List.getElem?_set_self P]at C;cases C;exact⟨u,r,.inr ⟨.inl F,c,hc,U⟩⟩
   ·rw[List.getElem?_set_ne (Ne.symm G)]at C;obtain⟨u',r',q⟩:=hl j y Z l C e3;refine⟨u',r',?_⟩;rcases q with q|⟨k,Y,e,z'⟩
    ·exact .inl q
    ·refine .inr ⟨k,Y,e,z'.sameBut f ?_⟩;rintro rfl;exact G (BC hN l (I.ok.inj _ _ _ e hc ▸ R))
  ·by_cases T:Y=c
   ·subst T;exact⟨_,U⟩
   ·obtain⟨w2,z2⟩:=I.cell y Y e;exact⟨w2,z2.sameBut f T⟩
  ·obtain⟨e,n,ne,nf,d⟩:=I.pin p hp;refine⟨(f.2 p.1 ?_).trans e,n,ne,nf,d⟩;intro q;rw[q,O]at e;have q':oc=p.2:=Option.some.inj e;exact d W (by rw[←q'];exact L)
theorem tH {M:Model}{A:Around}{E:cE}{i:Nat}{x:Str}{v:V}{u:Value}{Q:Unit->Shared->Prop}(I:aR X pins σ H s)(e:X.N.Nodup)(c:X.N[i]?=some x)(b:S1 X.env.scope x)(r:aX v u)
  (h:∀a,aR X pins (σ.set i (some v)) H a->Q () a) (d:X.fn x=true∨X.env.scope.names.lookup x=some .local:=by first|exact .inl rfl|exact .inr rfl|assumption):wpAny M A (storeName X.env x u) Q E s :=
 wK I e c b r (λa f _=>h a f) d
theorem aR.call' {a:Shared}{ch:List Addr}(I:aR X pins σ H s)(ho:a.os=s.os)(u:Un (frs X.stack) ch H H' s.heap a.heap)(hok:hV X.prog X.w H' a.heap)(g:AllBare a.gens)
  (d:∀b∈ch,(b∈X.ex∨X.s₀.heap.objs.size<=b)/\b≠X.env.locals/\(∀x c,X.env.cells.lookup x=some c->c≠b)/\∀p∈X.pn++pins,p.1≠b):aR X pins σ H' a:=by
 obtain⟨h',g',d',t',f⟩:=a;have e:f=s.os:=ho;subst e;exact I.call (g':=g') (t':=t') (d':=d') u hok g d
end
noncomputable abbrev XK:=Value->Option Addr->Hp->Prop
noncomputable abbrev St:=List (Option V)
noncomputable abbrev VK:=V->Hp->Prop
noncomputable abbrev TE:=St->Hp->VK->Prop
noncomputable abbrev TT:=St->Hp->(Bool->Hp->Prop)->Prop
noncomputable abbrev TA:=St->Hp->(List V->Hp->Prop)->Prop
structure iJ where
 nx:St->Hp->Prop
 rt:VK
 bk:St->Hp->Prop:=λ_ _=>False
 ct:St->Hp->Prop:=λ_ _=>False
noncomputable abbrev TS:=iJ->St->Hp->Prop
def EP (X:Cx)(a:cY)(σ:St)(Q:VK)(u:Value)(b:Shared):Prop:=∃v H',aR X a σ H' b/\aX v u/\Q v H'
def TP (X:Cx)(a:cY)(σ:St)(Q:Bool->Hp->Prop)(b:Bool)(c:Shared):Prop:=∃H',aR X a σ H' c/\Q b H'
def AP (X:Cx)(a:cY)(σ:St)(Q:List V->Hp->Prop)(us:bX)(b:Shared):Prop:=∃vs H',aR X a σ H' b/\aY vs us/\Q vs H'
noncomputable def SP (X:Cx)(a:cY)(D:iJ)(f:Flow)(c:Shared):Prop :=
 match f with
 | .next=>∃b H',aR X a b H' c/\D.nx b H'
 | .brk=>∃b H',aR X a b H' c/\D.bk b H'
 | .cont=>∃b H',aR X a b H' c/\D.ct b H'
 | .ret u=>∃v b H',aR X a b H' c/\aX v u/\D.rt v H'
noncomputable def PE (X:Cx)(e:Expr)(t:TE):Prop :=
 ∀(a:cY) (s:Shared) (σ:St) (H:Hp) (Q:VK),aR X a σ H s->t σ H Q->wpAny (model X.prog X.w) X.A (eval e X.env) (EP X a σ Q) X.xe s
noncomputable def PT (X:Cx)(e:Expr)(t:TT):Prop :=
 ∀(a:cY) (s:Shared) (σ:St) (H:Hp) (Q:Bool->Hp->Prop),aR X a σ H s->t σ H Q->wpAny (model X.prog X.w) X.A (isTrue e X.env (eval e X.env)) (TP X a σ Q) X.xe s
noncomputable def PW (X:Cx)(e:Expr)(t:TT):Prop :=
 ∀(a:Sem Value) (pins:cY) (s:Shared) (σ:St) (H:Hp) (Q:Bool->Hp->Prop),aR X pins σ H s->t σ H Q->wpAny (model X.prog X.w) X.A (isTrue e X.env a) (TP X pins σ Q) X.xe s
theorem PW.pt {X:Cx}{e:Expr}{t:TT}(h:PW X e t):PT X e t:=h _
noncomputable def PA (X:Cx)(b:lR)(t:TA):Prop :=
 ∀(a:Pos) (pins:cY) (s:Shared) (σ:St) (H:Hp) (Q:List V->Hp->Prop),aR X pins σ H s->t σ H Q->wpAny (model X.prog X.w) X.A (spliced (backTo a (starEach b X.env))) (AP X pins σ Q) X.xe s
noncomputable def PS (X:Cx)(st:Stmt)(t:TS):Prop :=
 ∀(a:cY) (s:Shared) (σ:St) (H:Hp) (D:iJ),aR X a σ H s->t D σ H->wpAny (model X.prog X.w) X.A (exec st X.env) (SP X a D) X.xe s
noncomputable def CO (X:Cx)(st:List Stmt)(t:TS):Prop :=
 ∀(a:cY) (s:Shared) (σ:St) (H:Hp) (D:iJ),aR X a σ H s->t D σ H->wpAny (model X.prog X.w) X.A (execs st X.env) (SP X a D) X.xe s
theorem thn {α:Type}{t:Sem α}{Q b:α->Shared->Prop}{M:Model}{A:Around}{E:cE}{s:Shared}(h:wpAny M A t Q E s)(c:∀a s,Q a s->b a s):wpAny M A t b E s:=wpAny_mono h c λ_ _ x=>x
section
variable {X:Cx}
theorem bin {a b:Expr}{i g:TE}(z:PE X a i)(t:PE X b g){c:cY}{s:Shared}{σ:St}{H:Hp}{R:V->V->Hp->Prop}(I:aR X c σ H s)(h:i σ H λx e=>g σ e λy d=>R x y d)
  {α:Type} {Q:α->Shared->Prop} {f:Value->Value->Sem α}
  (r:∀v u s2 x y d,aR X c σ d s2->aX x v->aX y u->R x y d->wpAny (model X.prog X.w) X.A (f v u) Q X.xe s2) :
  wpAny (model X.prog X.w) X.A (eval a X.env) (λv l=>wpAny (model X.prog X.w) X.A (eval b X.env) (λu j=>wpAny (model X.prog X.w) X.A (f v u) Q X.xe j) X.xe l) X.xe s:=by
 refine thn (z c s σ H _ I h) λv m ⟨x,e,C,r1,q⟩=>?_;refine thn (t c m σ e _ C q) λu s2 ⟨y,d,B,o,p⟩=>?_;exact r v u s2 x y d B r1 o p
noncomputable def tVar (i:Nat):TE:=λσ H Q=>∃v,σ[i]?=some (some v)/\Q v H
noncomputable def tC (v:V):TE:=λ_ H Q=>Q v H
theorem J9 {i:Nat}{x:Str}{f:Pos}(t:X.N[i]?=some x)(j:ST X.env.scope x)(hd:(x == ("__debug__" : Str))=false:=by decide)(g:(x == ("__classdict__" : Str))=false:=by decide):PE X (.Name x f) (tVar i):=by
 intro d s σ H Q I h;obtain⟨v,e,h⟩:=h;obtain⟨m,o,q⟩:=I.loc;obtain⟨u,r,l⟩:=q i x v t e j;have fin:EP X d σ Q u s:=⟨v,H,I,r,h⟩
 rcases l with⟨b,p⟩|⟨b,c,hc,a⟩
 ·exact wpAny_Name (wpAny_loadName_local I.ok.kind b o p fin) hd
 ·rcases b with b|b
  ·exact wpAny_Name (wpAny_loadName_cell I.ok.kind b hc a fin) hd
  ·exact wpAny_Name (wpAny_loadName_free I.ok.kind b hc a fin g) hd
theorem aJ {i j pos}:PE X (.Constant (.int i) j pos) (tC (.int i)):=λ_ _ _ H _ I h=>wpAny_Constant_int ⟨.int i,H,I.tok _,⟨_,rfl⟩,h⟩
theorem lP {b j pos}:PE X (.Constant (.bool b) j pos) (tC (.bl b)):=λ_ _ _ H _ I h=>Constant_bool ⟨.bl b,H,I,rfl,h⟩
theorem y6 {j pos}:PE X (.Constant .none j pos) (tC .non):=λ_ _ _ H _ I h=>Constant_none ⟨.non,H,I,rfl,h⟩
theorem dR {x j pos}:PE X (.Constant (.str x) j pos) (tC (.str x)):=λ_ _ _ H _ I h=>Calls.Constant_str ⟨.str x,H,I.tok _,⟨_,rfl⟩,h⟩
def Gl (X:Cx)(x:Str):Prop:=X.env.kindOf x=some .globalImplicit
theorem pE {E:cE}{a:cY}{s:Shared}{σ:St}{H:Hp}{x:Str}{u:Value}{b:Pos}{Q:cE}(I:aR X a σ H s)(d:Gl X x)(c:X.mg x=some u)(h:Q u s)
  (hd:(x == ("__debug__" : Str))=false:=by decide):wpAny (model X.prog X.w) X.A (eval (.Name x b) X.env) Q E s :=
 Calls.Name_function_global I.ok.kind d (Calls.loadGlobal_global (by rw[I.ok.glob];exact I.mod.glob.keeps I.bk) c h) hd
theorem nY {E:cE}{a:cY}{s:Shared}{σ:St}{H:Hp}{x:Str}{u:Value}{b:Pos}{Q:cE}(I:aR X a σ H s)(f:Gl X x)(e:X.mg x=none)(c:bootBuiltins x=some u)(h:Q u s)
  (d:x≠"__name__":=by decide) (hd:(x == ("__debug__" : Str))=false:=by decide):wpAny (model X.prog X.w) X.A (eval (.Name x b) X.env) Q E s:=by
 obtain⟨j,i,g⟩:=I.mod.blt;exact Calls.Name_function_global I.ok.kind f (Calls.loadGlobal_builtin (by rw[I.ok.glob];exact I.mod.glob.keeps I.bk) e (by rw[I.ok.blt];exact i.keeps I.bk) ((g x d).trans c) h) hd
theorem NG {x:Str}{v:V}{u:Value}{a:Pos}(c:Gl X x)(b:X.mg x=some u)(r:aX v u)(hd:(x == ("__debug__" : Str))=false:=by decide):PE X (.Name x a) (tC v) :=
 λ_ _ _ H _ I h=>pE I c b ⟨v,H,I,r,h⟩ hd
theorem bV {x:Str}{v:V}{u:Value}{a:Pos}(e:Gl X x)(d:X.mg x=none)(b:bootBuiltins x=some u)(r:aX v u)(c:x≠"__name__":=by decide)(hd:(x == ("__debug__" : Str))=false:=by decide):PE X (.Name x a) (tC v) :=
 λ_ _ _ H _ I h=>nY I e d b ⟨v,H,I,r,h⟩ c hd
variable {a b:Expr}{ta tb:TE}{pos:Pos}
variable {tA tB':TT}{rest:lR}
noncomputable def tAnd (t u:TT):TT:=λσ H Q=>t σ H λc a=>if c=true then u σ a Q else Q false a
noncomputable def tOr (t u:TT):TT:=λσ H Q=>t σ H λc a=>if c=true then Q true a else u σ a Q
noncomputable def tNot (t:TT):TT:=λσ H Q=>t σ H λc a=>Q (!c) a
theorem oW (d:PT X a tA):PW X (.BoolOp .And [a] pos) tA:=by
 intro f b s σ H Q I h;refine isTrue_and (thn (d b s σ H Q I h) λc g e=>?_);cases c with
 | true=>exact isTrue_and_nil e
 | false=>exact e
theorem iK (d:PT X a tA):PW X (.BoolOp .Or [a] pos) tA:=by
 intro f b s σ H Q I h;refine isTrue_or (thn (d b s σ H Q I h) λc g e=>?_);cases c with
 | false=>exact isTrue_or_nil e
 | true=>exact e
theorem tU (m:PT X a tA)(l:PW X (.BoolOp .And (b::rest) pos) tB'):PW X (.BoolOp .And (a::b::rest) pos) (tAnd tA tB'):=by
 intro i d s σ H Q I h;refine isTrue_and (thn (m d s σ H _ I h) λc j ⟨g,f,e⟩=>?_);cases c with
 | true=>exact l i d j σ g Q f e
 | false=>exact⟨g,f,e⟩
theorem i9 (m:PT X a tA)(l:PW X (.BoolOp .Or (b::rest) pos) tB'):PW X (.BoolOp .Or (a::b::rest) pos) (tOr tA tB'):=by
 intro i d s σ H Q I h;refine isTrue_or (thn (m d s σ H _ I h) λc j ⟨g,f,e⟩=>?_);cases c with
 | true=>exact⟨g,f,e⟩
 | false=>exact l i d j σ g Q f e
theorem cR (d:PT X a tA):PT X (.UnaryOp .Not a pos) (tNot tA):=by intro b s σ H Q I h;exact isTrue_not (d b s σ H (λc e=>Q (!c) e) I h)
noncomputable def tAndV (d b:TE):TE:=λσ H Q=>d σ H λx a=>∃c,x = .bl c/\if c=true then b σ a Q else Q (.bl false) a
noncomputable def tOrV (d b:TE):TE:=λσ H Q=>d σ H λx a=>∃c,x = .bl c/\if c=true then Q (.bl true) a else b σ a Q
noncomputable def tNotV (a:TE):TE:=λσ H Q=>a σ H λx b=>∃c,x = .bl c/\Q (.bl (!c)) b
theorem y0 {op}{t:TE}(h:PE X a t):PE X (.BoolOp op [a] pos) t:=λb s σ H Q I c=>BoolOp_one (h b s σ H Q I c)
theorem DK (l:PE X a ta)(j:PE X (.BoolOp .And (b::rest) pos) tb):PE X (.BoolOp .And (a::b::rest) pos) (tAndV ta tb):=by
 intro d s σ H Q I h;refine BoolOp_and (thn (l d s σ H _ I h) λv i ⟨x,g,f,r1,e⟩=>?_);obtain⟨c,rfl,e⟩:=e;cases r1;refine wpAny_truthy_bool ?_;cases c with
 | true=>exact j d i σ g Q f e
 | false=>exact⟨.bl false,g,f,rfl,e⟩
theorem SG (l:PE X a ta)(j:PE X (.BoolOp .Or (b::rest) pos) tb):PE X (.BoolOp .Or (a::b::rest) pos) (tOrV ta tb):=by
 intro d s σ H Q I h;refine BoolOp_or (thn (l d s σ H _ I h) λv i ⟨x,g,f,r1,e⟩=>?_);obtain⟨c,rfl,e⟩:=e;cases r1;refine wpAny_truthy_bool ?_;cases c with
 | false=>exact j d i σ g Q f e
 | true=>exact⟨.bl true,g,f,rfl,e⟩
theorem QX (e:PE X a ta):PE X (.UnaryOp .Not a pos) (tNotV ta):=by intro b s σ H Q I h;refine UnaryOp_ (thn (e b s σ H _ I h) λv i ⟨x,g,f,r1,d⟩=>?_);obtain⟨c,rfl,d⟩:=d;cases r1;exact not_of (wpAny_truthy_bool ⟨.bl (!c),g,f,rfl,d⟩)
noncomputable def tIf (t:TT)(d b:TE):TE:=λσ H Q=>t σ H λc a=>if c=true then d σ a Q else b σ a Q
theorem tX {c:Expr}(hc:PT X c tA)(m:PE X a ta)(l:PE X b tb):PE X (.IfExp c a b pos) (tIf tA ta tb):=by
 intro e s σ H Q I h;refine wpAny_IfExp (thn (hc e s σ H _ I h) λd f ⟨j,i,g⟩=>?_);cases d with
 | true=>exact m e f σ j Q i g
 | false=>exact l e f σ j Q i g
end
noncomputable def fQ (K:PySem.W.Frag)(H:Hp)(a:Addr)(xs:List V):Prop :=
 Rd H a (.lst xs) ∨
  ∃(o:Obj) (its:jK) (n:Nat),K.lookup a=some o/\o.cls = .type "list"/\o.dict=none/\o.data = .seq its n/\its.size<=sizeLine/\aY xs its.toList
noncomputable def iE (K:PySem.W.Frag)(H:Hp)(a:Addr)(xs:List V):Prop :=
 Rd H a (.tup xs) ∨
  ∃(o:Obj) (its:jK) (n:Nat),K.lookup a=some o/\o.cls = .type "tuple"/\o.data = .seq its n/\its.size<=sizeLine/\aY xs its.toList
noncomputable def absV:Value->Option V
 | .none=>some .non
 | .bool b=>some (.bl b)
 | .int i _=>some (.int i)
 | .str x _=>some (.str x)
 | .bytes b _=>some (.byt b)
 | .float b _=>some (.flt b)
 | .ref a=>some (.ref a)
 | .type n=>some (.ty n)
 | _=>none
theorem aX.abs {x:V}{u:Value}(r:aX x u):absV u=some x:=by
 cases x with
 | non=>cases r;rfl
 | bl _=>cases r;rfl
 | int _=>obtain⟨t,rfl⟩:=r;rfl
 | str _=>obtain⟨t,rfl⟩:=r;rfl
 | byt _=>obtain⟨t,rfl⟩:=r;rfl
 | flt _=>obtain⟨t,rfl⟩:=r;rfl
 | ref _=>cases r;rfl
 | ty _=>cases r;rfl
theorem aX.inj {x y:V}{u:Value}(r:aX x u)(q:aX y u):x=y:=Option.some.inj (r.abs.symm.trans q.abs)
theorem aY.inj {xs ys:List V}{us:bX}(h:aY xs us)(g:aY ys us):xs=ys:=by
 induction h generalizing ys with
 | nil=>cases g;rfl
 | cons r t a=>cases g with|cons r' t'=>rw[r.inj r',a t']
section
variable {X:Cx}{pins:cY}{σ:St}{H:Hp}{s:Shared}{a:Addr}{xs ys:List V}
theorem fQ.of {K:PySem.W.Frag}(h:H a=some (.lst xs)):fQ K H a xs:=.inl (.inl h)
theorem iE.of {K:PySem.W.Frag}(h:H a=some (.tup xs)):iE K H a xs:=.inl (.inl h)
theorem aR.list (I:aR X pins σ H s)(h:fQ X.K H a xs):∃its:bX,aY xs its/\PlainL s.heap a its.toArray/\xs.length<=sizeLine:=by
 rcases h with h|⟨o,its,n,c,hc,hd,b,hz,r⟩
 ·obtain⟨z,its,n,r,e⟩:=h.ok I.hok;exact⟨its,r,⟨_,n,e,rfl,rfl,rfl⟩,z⟩
 ·refine⟨its.toList,r,⟨o,n,I.kIn a o c,hc,hd,by simpa using b⟩,?_⟩;have e:=r.length;simp only[bo]at e;omega
theorem aR.tuple (I:aR X pins σ H s)(h:iE X.K H a xs):∃its:bX,aY xs its/\IsTup s.heap a its.toArray/\xs.length<=sizeLine:=by
 rcases h with h|⟨o,its,n,c,hc,b,hz,r⟩
 ·obtain⟨z,its,r,p⟩:=h.ok I.hok;exact⟨its,r,p,z⟩
 ·refine⟨its.toList,r,⟨o,I.kIn a o c,hc,n,by simpa using b⟩,?_⟩;have e:=r.length;simp only[bo]at e;omega
theorem aR.list_inj (I:aR X pins σ H s)(h:fQ X.K H a xs)(h':fQ X.K H a ys):xs=ys:=by
 obtain⟨its,r,⟨o,n,e,_,_,d⟩,_⟩:=I.list h;obtain⟨its',c,⟨g,i,b,_,_,d'⟩,_⟩:=I.list h';rw[e]at b;cases b;rw[d]at d';injection d' with f _;have:its=its':=by simpa using congrArg Array.toList f
 subst this;exact r.inj c
theorem aR.tuple_inj (I:aR X pins σ H s)(h:iE X.K H a xs)(h':iE X.K H a ys):xs=ys:=by
 obtain⟨its,r,⟨o,e,_,n,d⟩,_⟩:=I.tuple h;obtain⟨its',c,⟨g,b,_,i,d'⟩,_⟩:=I.tuple h';rw[e]at b;cases b;rw[d]at d';injection d' with f _;have:its=its':=by simpa using congrArg Array.toList f
 subst this;exact r.inj c
end
noncomputable abbrev Cx.wish (X:Cx)(E:cE):Cx:={X with xe:=E}
noncomputable abbrev Cx.nox (X:Cx):Cx:=X.wish λ_ _=>False
theorem Cx.Ok.wish {X:Cx}(ok:X.Ok)(E:cE):(X.wish E).Ok :=
 ⟨ok.mod,ok.kind,ok.glob,ok.blt,ok.above,ok.inj,ok.has,ok.cab,ok.hd,ok.frames,ok.stk,ok.exf,ok.bs,ok.bsz,ok.noex,ok.exfs,ok.funs,ok.frf⟩
theorem Cx.Ok.unwish {X:Cx}{E:cE}(ok:(X.wish E).Ok):X.Ok :=
 ⟨ok.mod,ok.kind,ok.glob,ok.blt,ok.above,ok.inj,ok.has,ok.cab,ok.hd,ok.frames,ok.stk,ok.exf,ok.bs,ok.bsz,ok.noex,ok.exfs,ok.funs,ok.frf⟩
section
variable {X:Cx}{pins:cY}{σ:St}{H:Hp}{s:Shared}{E:cE}
theorem aR.wish (I:aR X pins σ H s)(E:cE):aR (X.wish E) pins σ H s:=⟨I.ok.wish E,I.os,I.bare,I.base,I.loc,I.cell,I.free,I.freeC,I.pin,I.hok,I.len⟩
theorem aR.unwish (I:aR (X.wish E) pins σ H s):aR X pins σ H s:=⟨I.ok.unwish,I.os,I.bare,I.base,I.loc,I.cell,I.free,I.freeC,I.pin,I.hok,I.len⟩
theorem SP.unwish {D:iJ}{f:Flow}{b:Shared}(h:SP (X.wish E) pins D f b):SP X pins D f b:=by
 cases f with
 | next=>obtain⟨a,H',I,q⟩:=h;exact⟨a,H',I.unwish,q⟩
 | brk=>obtain⟨a,H',I,q⟩:=h;exact⟨a,H',I.unwish,q⟩
 | cont=>obtain⟨a,H',I,q⟩:=h;exact⟨a,H',I.unwish,q⟩
 | ret u=>obtain⟨v,a,H',I,r,q⟩:=h;exact⟨v,a,H',I.unwish,r,q⟩
theorem CO.nox {st:List Stmt}{t:TS}(h:CO X.nox st t):CO X st t:=λa s σ H D I b =>
 wpAny_mono (h a s σ H D (I.wish _) b) (λ_ _ q=>q.unwish) λ_ _ z=>False.elim z
end
section
variable {X:Cx}{st:Stmt}{rest:List Stmt}{t u:TS}{e:Expr}{te:TE}{pos:Pos}
noncomputable def tNext:TS:=λD σ H=>D.nx σ H
noncomputable def tSeq (t u:TS):TS:=λD σ H=>t {D with nx:=u D} σ H
theorem aV:CO X [] tNext:=λ_ _ σ H _ I h=>wpAny_execs_nil ⟨σ,H,I,h⟩
theorem aE (e:PS X st t)(d:CO X rest u):CO X (st::rest) (tSeq t u):=by
 intro a s σ H D I h;refine wpAny_execs_cons (thn (e a s σ H {D with nx:=u D} I h) λf c q=>?_);cases f with
 | next =>
  obtain⟨b,H',g,q⟩:=q;exact d a c b H' D g q
 | ret v=>exact q
 | brk=>exact q
 | cont=>exact q
theorem aG (b:PS X st t):CO X [st] t:=by
 intro a s σ H D I h;refine wpAny_execs_cons (thn (b a s σ H D I h) λf c q=>?_);cases f with
 | next=>exact wpAny_execs_nil q
 | ret v=>exact q
 | brk=>exact q
 | cont=>exact q
theorem aR.quiet {a:cY}{σ:St}{H:Hp}{s:Shared}(I:aR X a σ H s):interactive X.env=false:=by simp[interactive,I.ok.kind]
noncomputable def tDrop (a:TE):TS:=λD σ H=>a σ H λ_ b=>D.nx σ b
theorem cN (d:PE X e te)(c:swapsWith e none pos.line X.env=pure false:=by rfl):PS X (.Expr e pos) (tDrop te):=by intro a s σ H D I h;exact wpAny_Expr_any (thn (d a s σ H _ I h) λv i ⟨x,g,f,r1,b⟩=>⟨σ,g,f,b⟩) I.quiet c
noncomputable def tRet (a:TE):TS:=λD σ H=>a σ H D.rt
theorem aP (c:PE X e te):PS X (.Return (some e) pos) (tRet te):=by intro a s σ H D I h;exact wpAny_Return_some (thn (c a s σ H _ I h) λv g ⟨x,f,d,r1,b⟩=>⟨x,σ,f,d,r1,b⟩)
noncomputable def tIfS (c:TT)(t u:TS):TS:=λD σ H=>c σ H λb a=>if b=true then t D σ a else u D σ a
theorem bN {c:Expr}{a b:List Stmt}{f:TT}(hc:PT X c f)(o:CO X a t)(m:CO X b u):PS X (.If c a b pos) (tIfS f t u):=by
 intro e s σ H D I h;refine wpAny_If (thn (hc e s σ H _ I h) λd g ⟨l,j,i⟩=>?_);cases d with
 | true=>exact o e g σ l D j i
 | false=>exact m e g σ l D j i
noncomputable def tNever:TS:=λ_ _ _=>False
theorem eZ:PS X st tNever:=λ_ _ _ _ _ _ h=>h.elim
end
noncomputable abbrev TG:=V->St->Hp->(St->Hp->Prop)->Prop
noncomputable abbrev R1:=List V->St->Hp->(St->Hp->Prop)->Prop
noncomputable def PG (X:Cx)(a:Expr)(t:TG):Prop :=
 ∀(b:cY) (s:Shared) (σ:St) (H:Hp) (v:V) (u:Value) (Q:St->Hp->Prop),aR X b σ H s->aX v u->t v σ H Q ->
  wpAny (model X.prog X.w) X.A (assign a X.env u) (λ_ d=>∃c H',aR X b c H' d/\Q c H') X.xe s
noncomputable def S7 (X:Cx)(ts:lR)(t:R1):Prop :=
 ∀(a:cY) (s:Shared) (σ:St) (H:Hp) (vs:List V) (us:bX) (Q:St->Hp->Prop),aR X a σ H s->aY vs us->t vs σ H Q ->
  wpAny (model X.prog X.w) X.A (assignInOrder ((assignEach ts X.env).map (·.2)) us) (λ_ c=>∃b H',aR X a b H' c/\Q b H') X.xe s
noncomputable abbrev R0:=V->V->V->Hp->(Hp->Prop)->Prop
noncomputable def SX (X:Cx)(t:R0):Prop :=
 ∀(a:cY) (s:Shared) (σ:St) (H:Hp) (o i v:V) (ov iv u:Value) (Q:Hp->Prop),aR X a σ H s->aX o ov->aX i iv->aX v u->t o i v H Q ->
  wpAny (model X.prog X.w) X.A (setItem ov iv u) (λ_ b=>∃H',aR X a σ H' b/\Q H') X.xe s
noncomputable abbrev S6:=V->V->Hp->VK->Prop
noncomputable def TV (X:Cx)(op:Operator)(t:S6):Prop :=
 ∀(a:cY) (s:Shared) (σ:St) (H:Hp) (x y:V) (v u:Value) (Q:VK),aR X a σ H s->aX x v->aX y u->t x y H Q ->
  wpAny (model X.prog X.w) X.A (inplaceOp op v u) (EP X a σ Q) X.xe s
section
variable {X:Cx}{pos:Pos}
noncomputable def gName (i:Nat):TG:=λv σ H Q=>Q (σ.set i (some v)) H
theorem bO {i:Nat}{x:Str}(e:X.N.Nodup)(c:X.N[i]?=some x)(b:S1 X.env.scope x)(d:X.fn x=true∨X.env.scope.names.lookup x=some .local:=by first|exact .inl rfl|exact .inr rfl|assumption):PG X (.Name x pos) (gName i):=by intro a s σ H v u Q I r h;exact wpAny_assign_Name (tH I e c b r (λg f=>⟨_,H,f,h⟩) d)
noncomputable def gNil:R1:=λvs σ H Q=>vs=[]/\Q σ H
noncomputable def gCons (t:TG)(u:R1):R1:=λvs σ H Q=>∃v r,vs=v::r/\t v σ H λa H'=>u r a H' Q
theorem FC:S7 X [] gNil:=by intro a s σ H vs us Q I r h;obtain⟨e,h⟩:=h;subst e;cases r;exact assignInOrder_nil ⟨σ,H,I,h⟩
theorem oY {e:Expr}{b:lR}{t:TG}{u:R1}(l:PG X e t)(j:S7 X b u)
  (i:(assignEach (e::b) X.env).map (·.2)=assign e X.env::(assignEach b X.env).map (·.2):=by rfl):S7 X (e::b) (gCons t u):=by
 intro a s σ H vs us Q I r h;obtain⟨v,q,m,h⟩:=h;subst m;cases r with
 | cons r f =>
  rw[i];refine assignInOrder_cons (thn (l a s σ H _ _ _ I r h) λ_ d ⟨c,p,o,g⟩=>?_);exact j a d c p _ _ Q o f g
noncomputable def gTup (K:PySem.W.Frag)(n:Nat)(t:R1):TG:=λv σ H Q=>∃a xs,v = .ref a/\iE K H a xs/\xs.length=n/\t xs σ H Q
theorem J7 {d:lR}{k:Nat}{t:R1}{n:Nat}(hc:X.calm=true)(h:S7 X d t)
  (p:(assignEach d X.env).length=n:=by rfl) (g:(assignEach d X.env).findIdx? (·.1)=none:=by rfl):PG X (.Tuple d k pos) (gTup X.K n t):=by
 intro c s σ H v u Q I r f;obtain⟨a,xs,w,m,q,f⟩:=f;subst w;cases r;obtain⟨its,i,l,hz⟩:=I.tuple m;refine assign_Tuple_tuple (I.ok.hd hc) l (by simp[p,←q,i.length]) g λh' j=>?_;have x:aR X c σ H {s with heap:=h'}:=I.kept (t':=s.toks) λb o e=>j b o (bn (ba e)) e;exact h c _ σ H xs _ Q x (by simpa using i) f
noncomputable def gSub (a b:TE)(t:R0):TG:=λv σ H Q=>a σ H λo e=>b σ e λi d=>t o i v d λc=>Q σ c
theorem J8 {o i:Expr}{d e:TE}{t:R0}(ho:PE X o d)(q:PE X i e)(p:SX X t)
  (w:∀v,assign (.Subscript o i pos) X.env v=(do
   let b ←holding [v] (eval o X.env)
   let c ←holding [v,b] (eval i X.env)
   standAt pos
   holding [v,b,c] (setItem b c v)
   release [v,b,c] []):=by intro _;rfl):PG X (.Subscript o i pos) (gSub d e t):=by
 intro a s σ H v u Q I r h;rw[w];refine aa (cf (thn (ho a s σ H _ I h) λb f ⟨x,F,B,r1,m⟩=>?_));refine aa (cf (thn (q a f σ F _ B m) λc s2 ⟨y,E,A,g,l⟩=>?_));refine aa (wpAny_standAt (aa (cf (thn (p a s2 σ E x y v b c u _ A r1 g r l) λ_ G ⟨C,z,j⟩=>?_))));exact wpAny_release ⟨σ,C,z,j⟩
noncomputable def tAsg (a:TE)(g:TG):TS:=λD σ H=>a σ H λx b=>g x σ b D.nx
theorem tV {b e:Expr}{c:TE}{g:TG}(m:PE X e c)(l:PG X b g)(j:swapsWithSole [b] e pos.line X.env=pure false:=by rfl)(i:swappedStores [b] e X.env=pure none:=by rfl)
  (o:(assignEach [b] X.env).map (·.2)=[assign b X.env]:=by rfl):PS X (.Assign [b] e pos) (tAsg c g):=by
 intro a s σ H D I h;refine wpAny_Assign_stores (thn (m a s σ H _ I h) λv d ⟨x,r,p,r1,f⟩=>?_) j i;rw[o];exact thn (l a d σ r x v _ p r1 f) λ_ s2 q=>q
theorem aU {i:Nat}{x:Str}{e:Expr}{c:TE}{a:Pos}(o:X.N.Nodup)(j:X.N[i]?=some x)(f:S1 X.env.scope x)(m:PE X e c)(g:swapsWith e (some (.Name x a)) pos.line X.env=pure false:=by rfl)(l:X.fn x=true∨X.env.scope.names.lookup x=some .local:=by first|exact .inl rfl|exact .inr rfl|assumption) :
  PS X (.Assign [.Name x a] e pos) (tAsg c (gName i)):=by
 intro b s σ H D I h;refine wpAny_Assign_Name (thn (m b s σ H _ I h) λv t ⟨y,r,q,r1,d⟩=>?_) g;exact tH q o j f r1 (λs2 p=>⟨_,r,p,d⟩) l
noncomputable def tAug (i:Nat)(b:TE)(a:S6):TS:=λD σ H=>∃x,σ[i]?=some (some x)/\b σ H λy d=>a x y d λz c=>D.nx (σ.set i (some z)) c
theorem QT {i:Nat}{x:Str}{e:Expr}{p:TE}{op:Operator}{o:S6}{f:Pos}(Q:X.N.Nodup)(q:X.N[i]?=some x)(j:S1 X.env.scope x)(P:PE X e p)(ho:TV X op o)(O:X.fn x=true∨X.env.scope.names.lookup x=some .local:=by first|exact .inl rfl|exact .inr rfl|assumption) :
  PS X (.AugAssign (.Name x f) op e pos) (tAug i p o):=by
 intro a s σ H D I h;obtain⟨v,R,h⟩:=h;obtain⟨m,J,L⟩:=I.loc;have g:ST X.env.scope x:=by rcases j with k|k;exact .inl k;exact .inr (.inl k)
 obtain⟨u,r,l⟩:=L i x v q R g;refine wpAny_AugAssign_Name ?_;have go:wpAny (model X.prog X.w) X.A (eval e X.env) (λw B=>wpAny (model X.prog X.w) X.A (inplaceOp op u w) (λr t=>wpAny (model X.prog X.w) X.A (storeName X.env x r) (λ_=>SP X a D .next) X.xe t) X.xe B) X.xe s:=by refine thn (P a s σ H _ I h) λw C ⟨y,Y,U,r1,G⟩=>?_;refine thn (ho a C σ Y v y u w _ U r r1 G) λz s2 ⟨Z,W,T,E,F⟩=>?_;exact tH T Q q j E (λs3 S=>⟨_,W,S,F⟩) O
 rcases l with⟨b,K⟩|⟨b,c,hc,d⟩
 ·exact wpAny_loadName_local I.ok.kind b J K go
 ·rcases b with b|b
  ·exact wpAny_loadName_cell I.ok.kind b hc d go
  ·rcases j with k|k
   ·have:X.env.scope.names.lookup x=some .free:=b;rw[k]at this;cases this
   ·have:X.env.scope.names.lookup x=some .free:=b;rw[k]at this;cases this
noncomputable def ipI (f:Int->Int->Int):S6:=λx y H Q=>∃i j,x = .int i/\y = .int j/\Q (.int (f i j)) H
theorem RT:TV X .Add (ipI λi j=>i+j):=by intro a s σ H x y v u Q I r1 b h;obtain⟨i,j,d,c,q⟩:=h;subst d;subst c;obtain⟨t,rfl⟩:=r1;obtain⟨t',rfl⟩:=b;exact iadd_int ⟨.int _,H,I.tok _,⟨_,rfl⟩,q⟩
noncomputable def yC (c:TT)(f:TS):TS:=λD σ H=>∃W:Nat->St->Hp->Prop,(∃m,W m σ H)/\∀m σ H,W m σ H ->
 c σ H λb e=>if b=true then ∃N:St->Hp->Prop,(∀a H',N a H'->∃d,d<m/\W d a H')/\f {D with nx:=N,ct:=N,bk:=D.nx} σ e else D.nx σ e
theorem mE {c:Expr}{body:List Stmt}{r:TT}{t:TS}(u:PassesOwn (model X.prog X.w) X.A X.env X.xe)(hc:PT X c r)(K:CO X body t):PS X (.While c body [] pos) (yC r t):=by
 intro a s σ H D I h;obtain⟨W,⟨J,w0⟩,turn⟩:=h;refine wpAny_While (codeAny_whileLoop (λn G=>∃q H',aR X a q H' G/\W n q H') ?_ J ⟨σ,H,I,w0⟩);rintro n F ⟨g,C,L,E⟩;refine wpAny_passesOwn u (thn (hc a F g C _ L (turn n g C E)) λb s2 ⟨B,z,j⟩=>?_);cases b with
 | true =>
  obtain⟨N,x,j⟩:=j;rw[ai rfl];refine wpAny_passesOwn u (thn (K a s2 g B _ z j) λf O i=>?_);cases f with
  | next =>
   obtain⟨d,e,p,n3⟩:=i;obtain⟨m,o,l⟩:=x d e n3;exact⟨m,o,d,e,p,l⟩
  | cont =>
   obtain⟨d,e,p,n3⟩:=i;obtain⟨m,o,l⟩:=x d e n3;exact⟨m,o,d,e,p,l⟩
  | brk=>exact i
  | ret v=>exact i
 | false =>
  rw[ab Bool.false_ne_true];exact wpAny_execs_nil ⟨g,B,z,j⟩
end
structure It where
 go:Nat->Hp->Prop
 yld:Nat->Hp->V->Hp->Prop
 stop:Nat->Hp->Prop
noncomputable def fV (X:Cx)(a:cY)(H:Hp)(b:Addr):Prop :=
 H b=none/\b≠X.env.locals/\b∉X.fs/\(b∈X.ex∨X.s₀.heap.objs.size<=b)/\(∀x c,X.env.cells.lookup x=some c->c≠b)/\∀p∈X.pn++a,p.1≠b
theorem aR.fpOk {X:Cx}{a:cY}{σ:St}{H H':Hp}{s:Shared}{b:Addr}(I:aR X a σ H s)(d:s.heap.objs.size<=b)(g:H' b=none):fV X a H' b:=by
 refine⟨g,Nat.ne_of_gt (bd I.lt d),I.nofs d,.inr (ao I.sz d),λx c e z=>?_,λp f z=>?_⟩
 ·obtain⟨v,q⟩:=I.cell x c e;exact absurd (bd q.lt (by rw[z];exact d)) (bI _)
 ·exact absurd (bd (ba (I.pin p f).1) (by rw[z];exact d)) (bI _)
structure n9 (P:Program)(w:World)(K:PySem.W.Frag)(tg:Expr)(J:It)(fp:List Addr)(it:Addr)(tn:MD):Prop where
 mem:it∈fp
 obj:∀i h,tn i h->∀b∈fp,∃o,h.get? b=some o/\∀v,o.data≠.cell v
 keep:∀i h h',tn i h->(∀b∈fp,∀o,h.get? b=some o->h'.get? b=some o)->tn i h'
 item:∀(X:Cx),X.prog=P->X.w=w->X.K=K->X.calm=true->∀(i:Nat) (pins:cY) (s:Shared) (σ:St) (H:Hp) (E:cE),aR X pins σ H s->(∀b∈fp,fV X pins H b)->tn i s.heap->J.go i H ->
  wpAny (model P w) X.A (pyNext (.ref it)) (λr s1=>∃u,r=some u /\
   wpAny (model P w) X.A (letOwnedTupleGo tg (.ref it) u) (λ_ s2=>∃x H',aR X pins σ H' s2/\aX x u/\J.yld i H x H'/\tn (i+1) s2.heap/\∀b∈fp,H' b=none) E s1) E s
 done:∀(X:Cx),X.prog=P->X.w=w->X.K=K->X.calm=true->∀(i:Nat) (pins:cY) (s:Shared) (σ:St) (H:Hp) (E:cE),aR X pins σ H s->(∀b∈fp,fV X pins H b)->tn i s.heap->J.stop i H ->
  wpAny (model P w) X.A (pyNext (.ref it)) (λr s1=>r=none/\aR X pins σ H s1) E s
 self:∀(A:Around) (i:Nat) (s:Shared) (Q:cE) (E:cE),tn i s.heap->Q (.ref it) s->wpAny (model P w) A (pyIter (.ref it)) Q E s
noncomputable abbrev TI:=St->Hp->(It->Hp->Prop)->Prop
noncomputable def TW (X:Cx)(a:cY)(σ:St)(d:Expr)(R:It->Hp->Prop)(c:Value)(s2:Shared):Prop :=
 ∃(it:Addr) (fp:List Addr) (tn:MD) (J:It) (H':Hp),c = .ref it/\aR X a σ H' s2/\n9 X.prog X.w X.K d J fp it tn/\tn 0 s2.heap/\(∀b∈fp,fV X a H' b)/\R J H'
noncomputable def PI (X:Cx)(c iter:Expr)(b:TI):Prop :=
 ∀(a:cY) (s:Shared) (σ:St) (H:Hp) (R:It->Hp->Prop),aR X a σ H s->b σ H R ->
  wpAny (model X.prog X.w) X.A (eval iter X.env) (λv d=>wpAny (model X.prog X.w) X.A (pyIter v) (TW X a σ c R) X.xe d) X.xe s
theorem xF {M:Model}{A:Around}{E:cE}{s:Shared}{b:Expr}{it:Addr}{u:Value}{o:Obj}{n:String}{vs:jK}{Q:Unit->Shared->Prop}(ho:s.heap.get? it=some o)(hc:o.cls = .type n)(hd:o.data = .fields vs)
  (c:["enumerate","zip","dict_itemiterator","dict_reverseitemiterator","odict_iterator","itertools.zip_longest","itertools.pairwise"].contains n=false) (a:Q () s):wpAny M A (letOwnedTupleGo b (.ref it) u) Q E s:=by
 unfold letOwnedTupleGo;cases b <;> first
  | exact al a
  | (cases u <;> first
    | exact al a
    | (refine aa (wpAny_load ho ?_);rw[hc,hd];show wpAny M A (if (["enumerate","zip","dict_itemiterator","dict_reverseitemiterator","odict_iterator","itertools.zip_longest","itertools.pairwise"].contains n && vs[0]? == some (rawInt _))=true then _ else _) Q E s;rw[ab (by intro h;rw[c,Bool.false_and]at h;cases h)];exact al a))
noncomputable def P3 (K:PySem.W.Frag)(a:Addr):It :=
 ⟨λi H=>∃xs x,fQ K H a xs/\xs[i]?=some x,λi H x H'=>H'=H/\∀xs,fQ K H a xs->xs[i]?=some x,λi H=>∃xs,fQ K H a xs/\xs.length<=i⟩
noncomputable def P2 (K:PySem.W.Frag)(a:Addr):It :=
 ⟨λi H=>∃xs x,iE K H a xs/\xs[i]?=some x,λi H x H'=>H'=H/\∀xs,iE K H a xs->xs[i]?=some x,λi H=>∃xs,iE K H a xs/\xs.length<=i⟩
noncomputable def ML (a:Int)(n:Nat):It:=⟨λi _=>i<n,λi H x H'=>H'=H/\x = .int (a+i),λi _=>n<=i⟩
theorem GP {P:Program}{w:World}{K:PySem.W.Frag}{G:Expr}(a it:Addr):n9 P w K G (P3 K a) [it] it (λi h=>h.IsListIter it a i) where
 mem:=by simp
 obj:=λi h st b g=>by
  have e:b=it:=by simpa using g
  subst e;obtain⟨o,e,c,d⟩:=st;exact⟨o,e,λv z=>by rw[d]at z;cases z⟩
 keep:=λi h h' st k=>st.at λo e=>k it (by simp) o e
 item:=by intro X B t C hc i f s σ H E I m st A;subst B t C;obtain⟨xs,x,l,r⟩:=A;obtain⟨its,q,p,hz⟩:=I.list l;obtain⟨u,O,L⟩:=q.get r;obtain⟨f0,f1,f2,f3,f4,F⟩:=m it (by simp);refine wpAny_pyNext_list_item st p.isList (x:=u) (by simpa using O) λh' j J=>?_;have R:aR X f σ H {s with heap:=h'}:=I.turned (t':=s.toks) (λb o g e=>(J.2 b g).trans e) f0 f1 f3 f4 F;obtain⟨o,e,c,d⟩:=id j;exact⟨u,rfl,xF (s:={s with heap:=h'}) e c d (by decide) ⟨x,H,R,L,⟨rfl,λys N=>by rw[I.list_inj N l];exact r⟩,j,λb g=>(m b g).1⟩⟩
 done:=by intro X B t C hc i f s σ H E I m st A;subst B t C;obtain⟨xs,l,r⟩:=A;obtain⟨its,q,p,hz⟩:=I.list l;obtain⟨f0,f1,f2,f3,f4,F⟩:=m it (by simp);have S:=q.length;exact wpAny_pyNext_list_end (I.ok.hd hc) st p.isList (by simp;omega) λh' Q=>⟨rfl,I.turned (t':=s.toks) (λb o g e=>Q b o g e) f0 f1 f3 f4 F⟩
 self:=λ_ _ _ _ _ st h=>wpAny_pyIter_listiter st h
theorem CT {P:Program}{w:World}{K:PySem.W.Frag}{G:Expr}(a it:Addr):n9 P w K G (P2 K a) [it] it (λi h=>h.IsTupleIter it a i) where
 mem:=by simp
 obj:=λi h st b g=>by
  have e:b=it:=by simpa using g
  subst e;obtain⟨o,e,c,d⟩:=st;exact⟨o,e,λv z=>by rw[d]at z;cases z⟩
 keep:=λi h h' st k=>st.at λo e=>k it (by simp) o e
 item:=by intro X B t C hc i f s σ H E I m st A;subst B t C;obtain⟨xs,x,l,r⟩:=A;obtain⟨its,q,p,hz⟩:=I.tuple l;obtain⟨u,O,L⟩:=q.get r;obtain⟨f0,f1,f2,f3,f4,F⟩:=m it (by simp);refine wpAny_pyNext_tuple_item st (show s.heap.IsTuple a its.toArray from p) (x:=u) (by simpa using O) λh' j J=>?_;have R:aR X f σ H {s with heap:=h'}:=I.turned (t':=s.toks) (λb o g e=>(J.2 b g).trans e) f0 f1 f3 f4 F;obtain⟨o,e,c,d⟩:=id j;exact⟨u,rfl,xF (s:={s with heap:=h'}) e c d (by decide) ⟨x,H,R,L,⟨rfl,λys N=>by rw[I.tuple_inj N l];exact r⟩,j,λb g=>(m b g).1⟩⟩
 done:=by intro X B t C hc i f s σ H E I m st A;subst B t C;obtain⟨xs,l,r⟩:=A;obtain⟨its,q,p,hz⟩:=I.tuple l;obtain⟨f0,f1,f2,f3,f4,F⟩:=m it (by simp);have S:=q.length;exact wpAny_pyNext_tuple_end (I.ok.hd hc) st (show s.heap.IsTuple a its.toArray from p) (by simp;omega) λh' Q=>⟨rfl,I.turned (t':=s.toks) (λb o g e=>Q b o g e) f0 f1 f3 f4 F⟩
 self:=λ_ _ _ _ _ st h=>wpAny_pyIter_tupleiter st h
theorem CU {P:Program}{w:World}{K:PySem.W.Frag}{r:Expr}(it:Addr)(f:Int)(n:Nat):n9 P w K r (ML f n) [it] it (λi h=>IsRangeIter h it (f+(i:Nat) * 1) ((n:Int) - (i:Nat)) 1) where
 mem:=by simp
 obj:=λi h st b c=>by
  have e:b=it:=by simpa using c
  subst e
  exact⟨_,st,λv z=>by
   have z':Data.fields _=Data.cell v:=z
   cases z'⟩
 keep:=λi h h' st k=>k it (by simp) _ st
 item:=by intro X m j p hc i a s σ H E I g st l;subst m j p;obtain⟨f0,f1,f2,f3,f4,q⟩:=g it (by simp);have W:=Walks.range (prog:=X.prog) (w:=X.w) (I.ok.hd hc) it f 1 n;refine W.item i s _ _ l st λv h' tk x d u=>?_;obtain⟨t,rfl⟩:=x;have B:aR X a σ H {s with heap:=h',toks:=tk}:=I.turned (λb o c e=>u b o (by simpa using c) e) f0 f1 f3 f4 q;refine⟨_,rfl,xF (s:={s with heap:=h',toks:=tk}) (n:="range_iterator") d rfl rfl (by decide) ⟨.int (f+i),H,B,⟨t,?_⟩,⟨rfl,rfl⟩,d,λb c=>(g b c).1⟩⟩;rw[Int.mul_one]
 done:=by intro X m j p hc i a s σ H E I g st l;subst m j p;obtain⟨f0,f1,f2,f3,f4,q⟩:=g it (by simp);exact wpAny_pyNext_range_end (I.ok.hd hc) st (by have:n<=i:=l;omega) λh' A=>⟨rfl,I.turned (t':=s.toks) (λb o c e=>A b o c e) f0 f1 f3 f4 q⟩
 self:=λ_ _ _ _ _ st h=>wpAny_pyIter_rangeiter st h
section
variable {X:Cx}{tg:Expr}
theorem J3 {d:cY}{σ:St}{H:Hp}{s:Shared}{R:It->Hp->Prop}{E:cE}{a c:Int}{t u v:Tok}{tk:Nat}(I:aR X d σ H s)(l : -(2 ^ 62)<=a)(j:a<2 ^ 62)(i : -(2 ^ 62)<=c)(h:c<2 ^ 62)
  (q:R (ML a (c - a).toNat) H):wpAny (model X.prog X.w) X.A (pyIter (.ref s.heap.objs.size)) (TW X d σ tg R) E {s with heap:=s.heap.push {cls:=.type "range",data:=.fields #[.int a t,.int c u,.int 1 v]},toks:=tk}:=by
 refine wpAny_pyIter_range (IsRange.new ..) (small_one l j i h) ?_;have f:aR X d σ H {s with heap:=s.heap.push {cls:=.type "range",data:=.fields #[.int a t,.int c u,.int 1 v]},toks:=tk}:=I.kept λb o e=>af _ e
 refine⟨(s.heap.push {cls:=.type "range",data:=.fields #[.int a t,.int c u,.int 1 v]}).objs.size,[(s.heap.push {cls:=.type "range",data:=.fields #[.int a t,.int c u,.int 1 v]}).objs.size],_,_,H,rfl,
  f.kept (t':=tk) λb o e=>af _ e,CU _ a (c - a).toNat,?_,λb g=>?_,q⟩
 ·have p:a+((0:Nat):Int) * 1=a:=by simp
  have m:(((c - a).toNat:Nat):Int) - ((0:Nat):Int)=Builtin.Range.rangeSize a c 1:=by rw[rangeSize_one];split <;> omega
  show IsRangeIter _ _ (a+((0:Nat):Int) * 1) ((((c - a).toNat:Nat):Int) - ((0:Nat):Int)) 1;rw[p,m];exact au _ rfl
 ·have e:b=(s.heap.push {cls:=.type "range",data:=.fields #[.int a t,.int c u,.int 1 v]}).objs.size:=by simpa using g
  subst e;exact f.fpOk (ac _) (f.hok.fresh (ac _))
noncomputable def iRng1 (a:TA):TI:=λσ H R=>a σ H λvs b=>∃j:Int,vs=[.int j]/\-(2 ^ 62)<=j/\j<2 ^ 62/\R (ML 0 j.toNat) b
noncomputable def iRng2 (a:TA):TI:=λσ H R=>a σ H λvs b=>∃i j:Int,vs=[.int i,.int j]/\(-(2 ^ 62)<=i/\i<2 ^ 62/\-(2 ^ 62)<=j/\j<2 ^ 62)/\R (ML i (j - i).toNat) b
theorem dS {a:Expr}{f:TA}{p b:Pos}(o:Gl X "range")(m:X.mg "range" = none)(u:PA X [a] f)(l:starEach [a] X.env=[(false,eval a X.env)]:=by rfl):PI X tg (.Call (.Name "range" p) [a] [] b) (iRng1 f):=by
 intro c s σ H R I h;refine Call_ (nY I o m boot_range (PyProof.Rows.callWith_type1 (thn (u b c s σ H _ I h) λus w ⟨vs,x,v,r1,d⟩=>?_) l rfl));obtain⟨j,e,d,i,q⟩:=d;subst e;cases r1 with
 | cons r g =>
  cases g;obtain⟨t,rfl⟩:=r;exact call_range_1 (J3 v (by omega) (by omega) d i (by simpa using q))
noncomputable def tFor (d:TI)(g:TG)(e:TS):TS:=λD σ H=>d σ H λJ h=>∃W:Nat->Nat->St->Hp->Prop,(∃m,W 0 m σ h)/\∀i m σ H,W i m σ H ->
 (J.stop i H/\D.nx σ H)∨(J.go i H/\∃N:St->Hp->Prop,(∀a H',N a H'->∃b,b<m/\W (i+1) b a H')/\∀x H',J.yld i H x H'->g x σ H' λc f=>e {D with nx:=N,ct:=N,bk:=D.nx} c f)
noncomputable def tW (fp:List Addr)(h:Heap):cY:=fp.filterMap λb=>(h.get? b).map λo=>(b,o)
theorem nX {fp:List Addr}{h:Heap}{b:Addr}{o:Obj}(a:b∈fp)(e:h.get? b=some o):(b,o)∈tW fp h:=List.mem_filterMap.mpr ⟨b,a,by rw[e];rfl⟩
theorem wR {fp:List Addr}{h:Heap}{p:Addr×Obj}(a:p∈tW fp h):p.1∈fp/\h.get? p.1=some p.2:=by
 obtain⟨b,c,e⟩:=List.mem_filterMap.mp a;cases q:h.get? b with
 | none=>rw[q]at e;cases e
 | some o =>
  rw[q]at e;have e':(b,o)=p:=Option.some.inj e;subst e';exact⟨c,q⟩
theorem aR.pinned {a:cY}{σ:St}{H:Hp}{s:Shared}{fp:List Addr}(I:aR X a σ H s)(h:∀b∈fp,fV X a H b)(ho:∀b∈fp,∃o,s.heap.get? b=some o/\∀v,o.data≠.cell v):aR X (a++tW fp s.heap) σ H s :=
 I.pins_of λp g=>(cs.mp g).elim (λz=>I.pin p (bv _ z)) λz=>by obtain⟨c,e⟩:=wR z;obtain⟨f0,f1,f2,_⟩:=h p.1 c;obtain⟨o,f,d⟩:=ho p.1 c;rw[e]at f;cases f;exact⟨e,f0,f1,f2,d⟩
theorem aR.unpinned {a pl:cY}{σ:St}{H:Hp}{s:Shared}(I:aR X (a++pl) σ H s):aR X a σ H s:=I.pins_of λp b=>I.pin p (bv _ (cb _ b))
theorem eV {iter:Expr}{body:List Stmt}{Y:TI}{g:TG}{tb:TS}{R:Pos}(K:PassesOwn (model X.prog X.w) X.A X.env X.xe)(hc:X.calm=true)(hi:PI X tg iter Y)(hg:PG X tg g)(l:CO X body tb)
  (hs:∀x,foldedSetIterable iter X.env x=pure x:=by intro _;rfl):PS X (.For tg iter body [] R) (tFor Y g tb):=by
 intro a s σ H D I h;refine wpAny_For (thn (hi a s σ H _ I h) λv s1 h1=>thn h1 λitv s2 h2=>?_) hs;obtain⟨it,fp,Z,J,H2,e,I2,T,P,f2,W,⟨m0,w0⟩,turn⟩:=h2;subst e
 -- what stays true of the iterator's objects through the loop
 have j:∀{H':Hp},(∀b∈fp,H' b=none)->∀b∈fp,fV X a H' b:=λhn b l=>⟨hn b l,(f2 b l).2⟩
 refine codeAny_forLoop_any (λn s'=>∃i E H',aR X a E H' s'/\Z i s'.heap/\(∀b∈fp,H' b=none)/\W i n E H') ?_ m0 ⟨0,σ,H2,I2,P,λb l=>(f2 b l).1,w0⟩;rintro n s3 ⟨i,C,O,I3,F,L,w3⟩;rcases turn i n C O w3 with⟨stop,qn⟩|⟨go,N,hN,step⟩
 ·refine wpAny_passesOwn K (thn (T.done X rfl rfl rfl hc i a s3 C O X.xe I3 (j L) F stop) λr s4 ⟨S,I4⟩=>?_);subst S;exact wpAny_execs_nil ⟨C,O,I4,qn⟩
 ·refine wpAny_passesOwn K (thn (T.item X rfl rfl rfl hc i a s3 C O X.xe I3 (j L) F go) λr s4 ⟨u,S,h4⟩=>?_);subst S;refine wpAny_passesOwn K (thn h4 λ_ s5 ⟨x,H5,I5,r5,y5,B,U⟩=>?_);have I5':=I5.pinned (j U) (T.obj _ _ B);refine wpAny_passesOwn K (thn (hg _ s5 C H5 x u _ I5' r5 (step x H5 y5)) λ_ s6 ⟨σ6,H6,I6,q6⟩=>?_);refine wpAny_passesOwn K (thn (l _ s6 σ6 H6 _ I6 q6) λf Q z=>?_);have p:∀{c:St} {t:Hp},aR X (a++tW fp s5.heap) c t Q->N c t->∃m,m<n/\∃i E H',aR X a E H' Q/\Z i Q.heap/\(∀b∈fp,H' b=none)/\W i m E H':=λ{c t} q G=>by obtain⟨m',hm,w7⟩:=hN c t G;refine⟨m',hm,i+1,c,t,q.unpinned,T.keep _ _ _ B λb l o e=>(q.pin (b,o) (bv _ (bv _ (nX l e)))).1,λb l=>?_,w7⟩;obtain⟨o,e,d⟩:=T.obj _ _ B b l;exact(q.pin (b,o) (bv _ (bv _ (nX l e)))).2.1
  cases f with
  | next=>obtain⟨c,t,q,G⟩:=z;exact p q G
  | cont=>obtain⟨c,t,q,G⟩:=z;exact p q G
  | brk=>obtain⟨c,t,q,z⟩:=z;exact⟨c,t,q.unpinned,z⟩
  | ret v=>obtain⟨x7,c,t,q,r7,z⟩:=z;exact⟨x7,c,t,q.unpinned,r7,z⟩
end
theorem LL {K:PySem.W.Frag}{a:Addr}{xs:List V}{g:TG}{h:TS}{D:iJ}{σ:St}{H:Hp}(Pv:Nat->St->Hp->Prop)(t:Pv 0 σ H)(r:∀i σ H,i<=xs.length->Pv i σ H->fQ K H a xs)
  (o:∀i x σ H,xs[i]?=some x->Pv i σ H->g x σ H λc f=>h {D with nx:=Pv (i+1),ct:=Pv (i+1),bk:=D.nx} c f) (hd:∀σ H,Pv xs.length σ H->D.nx σ H) :
  ∃W:Nat->Nat->St->Hp->Prop,(∃m,W 0 m σ H)/\∀i m σ H,W i m σ H ->
   ((P3 K a).stop i H/\D.nx σ H)∨((P3 K a).go i H/\∃N:St->Hp->Prop,(∀d H',N d H'->∃j,j<m/\W (i+1) j d H')/\∀x H',(P3 K a).yld i H x H'->g x σ H' λc f=>h {D with nx:=N,ct:=N,bk:=D.nx} c f):=by
 refine⟨λi m σ H=>m=xs.length - i/\i<=xs.length/\Pv i σ H,⟨xs.length,by simp,av _,t⟩,?_⟩;rintro i m σ H ⟨rfl,s,p⟩;have q:=r i σ H s p;by_cases b:i<xs.length
 ·refine .inr ⟨⟨xs,xs[i],q,by simp[b]⟩,Pv (i+1),λd H' l=>⟨xs.length - (i+1),by omega,rfl,b,l⟩,λx H' y=>?_⟩;obtain⟨e,y⟩:=y;subst e;exact o i x σ _ (y xs q) p
 ·have e:i=xs.length:=by omega
  subst e;exact .inl ⟨⟨xs,q,ac _⟩,hd σ H p⟩
theorem OS {K:PySem.W.Frag}{a:Addr}{xs:List V}{g:TG}{h:TS}{D:iJ}{σ:St}{H:Hp}(Pv:Nat->St->Hp->Prop)(t:Pv 0 σ H)(r:∀i σ H,i<=xs.length->Pv i σ H->iE K H a xs)
  (o:∀i x σ H,xs[i]?=some x->Pv i σ H->g x σ H λc f=>h {D with nx:=Pv (i+1),ct:=Pv (i+1),bk:=D.nx} c f) (hd:∀σ H,Pv xs.length σ H->D.nx σ H) :
  ∃W:Nat->Nat->St->Hp->Prop,(∃m,W 0 m σ H)/\∀i m σ H,W i m σ H ->
   ((P2 K a).stop i H/\D.nx σ H)∨((P2 K a).go i H/\∃N:St->Hp->Prop,(∀d H',N d H'->∃j,j<m/\W (i+1) j d H')/\∀x H',(P2 K a).yld i H x H'->g x σ H' λc f=>h {D with nx:=N,ct:=N,bk:=D.nx} c f):=by
 refine⟨λi m σ H=>m=xs.length - i/\i<=xs.length/\Pv i σ H,⟨xs.length,by simp,av _,t⟩,?_⟩;rintro i m σ H ⟨rfl,s,p⟩;have q:=r i σ H s p;by_cases b:i<xs.length
 ·refine .inr ⟨⟨xs,xs[i],q,by simp[b]⟩,Pv (i+1),λd H' l=>⟨xs.length - (i+1),by omega,rfl,b,l⟩,λx H' y=>?_⟩;obtain⟨e,y⟩:=y;subst e;exact o i x σ _ (y xs q) p
 ·have e:i=xs.length:=by omega
  subst e;exact .inl ⟨⟨xs,q,ac _⟩,hd σ H p⟩
theorem IG {b:Int}{n:Nat}{g:TG}{h:TS}{D:iJ}{σ:St}{H:Hp}(Pv:Nat->St->Hp->Prop)(q:Pv 0 σ H)
  (o:∀i σ H,i<n->Pv i σ H->g (.int (b+i)) σ H λc f=>h {D with nx:=Pv (i+1),ct:=Pv (i+1),bk:=D.nx} c f) (hd:∀σ H,Pv n σ H->D.nx σ H) :
  ∃W:Nat->Nat->St->Hp->Prop,(∃m,W 0 m σ H)/\∀i m σ H,W i m σ H ->
   ((ML b n).stop i H/\D.nx σ H)∨((ML b n).go i H/\∃N:St->Hp->Prop,(∀d H',N d H'->∃j,j<m/\W (i+1) j d H')/\∀x H',(ML b n).yld i H x H'->g x σ H' λc f=>h {D with nx:=N,ct:=N,bk:=D.nx} c f):=by
 refine⟨λi m σ H=>m=n - i/\i<=n/\Pv i σ H,⟨n,by simp,av _,q⟩,?_⟩;rintro i m σ H ⟨rfl,r,p⟩;by_cases a:i<n
 ·refine .inr ⟨a,Pv (i+1),λd H' l=>⟨n - (i+1),by omega,rfl,a,l⟩,λx H' y=>?_⟩;obtain⟨e,y⟩:=y;subst e y;exact o i σ _ a p
 ·have e:i=n:=by omega
  subst e;exact .inl ⟨ac _,hd σ H p⟩
noncomputable abbrev R2:=V->V->Hp->VK->Prop
noncomputable def jL (X:Cx)(f:Value->Value->Sem Value)(r:R2):Prop :=
 ∀(a:cY) (s:Shared) (σ:St) (H:Hp) (x y:V) (v u:Value) (Q:VK),aR X a σ H s->aX x v->aX y u->r x y H Q ->
  wpAny (model X.prog X.w) X.A (f v u) (EP X a σ Q) X.xe s
noncomputable def TC (X:Cx)(f:Value->Sem Value)(r:V->Hp->VK->Prop):Prop :=
 ∀(a:cY) (s:Shared) (σ:St) (H:Hp) (x:V) (v:Value) (Q:VK),aR X a σ H s->aX x v->r x H Q ->
  wpAny (model X.prog X.w) X.A (f v) (EP X a σ Q) X.xe s
noncomputable def cL (X:Cx)(f:Value)(r:List V->Hp->VK->Prop):Prop :=
 ∀(a:cY) (s:Shared) (σ:St) (H:Hp) (xs:List V) (us:bX) (Q:VK),aR X a σ H s->aY xs us->r xs H Q ->
  wpAny (model X.prog X.w) X.A (call f us) (EP X a σ Q) X.xe s
noncomputable def TD (X:Cx)(r:V->Hp->(Bool->Hp->Prop)->Prop):Prop :=
 ∀(a:cY) (s:Shared) (σ:St) (H:Hp) (x:V) (v:Value) (Q:Bool->Hp->Prop),aR X a σ H s->aX x v->r x H Q ->
  wpAny (model X.prog X.w) X.A (truthy v) (TP X a σ Q) X.xe s
noncomputable def tOp (r:R2)(b a:TE):TE:=λσ H Q=>b σ H λx d=>a σ d λy c=>r x y c Q
noncomputable def tUn (r:V->Hp->VK->Prop)(a:TE):TE:=λσ H Q=>a σ H λx b=>r x b Q
noncomputable def rI (C:Int->Int->Prop)(g:Int->Int->V):R2:=λx y H Q=>∃i j,x = .int i/\y = .int j/\C i j/\Q (g i j) H
noncomputable def rI0 (g:Int->Int->V):R2:=λx y H Q=>∃i j,x = .int i/\y = .int j/\Q (g i j) H
noncomputable def rU (g:Int->V):V->Hp->VK->Prop:=λx H Q=>∃i,x = .int i/\Q (g i) H
section
variable {X:Cx}{a b c:Expr}{ta tb tc:TE}{pos:Pos}
theorem binT (r:PE X a ta)(q:PE X b tb){c:cY}{s:Shared}{σ:St}{H:Hp}{R:V->V->Hp->Prop}(I:aR X c σ H s)
  (h:ta σ H λx e=>tb σ e λy d=>R x y d) {Q:cE} {f:Value->Value->Sem Value}
  (p:∀v u s2 x y d,aR X c σ d s2->aX x v->aX y u->R x y d->wpAny (model X.prog X.w) X.A (f v u) Q X.xe s2) :
  wpAny (model X.prog X.w) X.A (eval a X.env) (λv i=>wpAny (model X.prog X.w) X.A (eval b X.env) (λu g=>wpAny (model X.prog X.w) X.A (f v u) Q X.xe g) X.xe i) X.xe s:=by
 refine thn (r c s σ H _ I h) λv j ⟨x,e,z,r1,o⟩=>?_;refine thn (q c j σ e _ z o) λu s2 ⟨y,d,t,l,m⟩=>?_;exact p v u s2 x y d t r1 l m
theorem bP {op:Operator}{r:R2}(ho:jL X (binaryOp op) r)(g:PE X a ta)(f:PE X b tb):PE X (.BinOp a op b pos) (tOp r ta tb):=by intro c s σ H Q I h;exact wpAny_BinOp (binT g f I h λv u s2 x y j i e d q=>ho c s2 σ j x y v u Q i e d q)
theorem PN {op:UnaryOp}{r:V->Hp->VK->Prop}(ho:TC X (unaryOp op) r)(e:PE X a ta):PE X (.UnaryOp op a pos) (tUn r ta):=by intro b s σ H Q I h;exact UnaryOp_ (thn (e b s σ H _ I h) λv c ⟨x,g,f,r1,d⟩=>ho b c σ g x v Q f r1 d)
theorem opI {f:Value->Value->Sem Value}{C:Int->Int->Prop}{g:Int->Int->Int}
  (a:∀(i j:Int) (t u:Tok) (s:Shared) (Q:cE) (E:cE),C i j->Q (.int (g i j) s.toks) {s with toks:=s.toks+1}->wpAny (model X.prog X.w) X.A (f (.int i t) (.int j u)) Q E s) :
  jL X f (rI C λi j=>.int (g i j)):=by
 intro b s σ H x y v u Q I d c h;obtain⟨i,j,rfl,rfl,hc,q⟩:=h;obtain⟨t,rfl⟩:=d;obtain⟨t',rfl⟩:=c;exact a i j t t' s _ _ hc ⟨.int (g i j),H,I.tok _,⟨_,rfl⟩,q⟩
theorem opI0 {f:Value->Value->Sem Value}{g:Int->Int->Int}
  (a:∀(i j:Int) (t u:Tok) (s:Shared) (Q:cE) (E:cE),Q (.int (g i j) s.toks) {s with toks:=s.toks+1}->wpAny (model X.prog X.w) X.A (f (.int i t) (.int j u)) Q E s) :
  jL X f (rI0 λi j=>.int (g i j)):=by
 intro b s σ H x y v u Q I d c h;obtain⟨i,j,rfl,rfl,q⟩:=h;obtain⟨t,rfl⟩:=d;obtain⟨t',rfl⟩:=c;exact a i j t t' s _ _ ⟨.int (g i j),H,I.tok _,⟨_,rfl⟩,q⟩
theorem opB0 {f:Value->Value->Sem Value}{g:Int->Int->Bool}
  (a:∀(i j:Int) (t u:Tok) (s:Shared) (Q:cE) (E:cE),Q (.bool (g i j)) s->wpAny (model X.prog X.w) X.A (f (.int i t) (.int j u)) Q E s) :
  jL X f (rI0 λi j=>.bl (g i j)):=by
 intro b s σ H x y v u Q I d c h;obtain⟨i,j,rfl,rfl,q⟩:=h;obtain⟨t,rfl⟩:=d;obtain⟨t',rfl⟩:=c;exact a i j t t' s _ _ ⟨.bl (g i j),H,I,rfl,q⟩
def TR (i j:Int):Prop:=0<j/\j<1073741824
def S3 (i j:Int):Prop:=0<=j/\j<=1000000/\i.natAbs<2 ^ 64
def JE (i j:Int):Prop:=(-(2 ^ 64)<i/\i<2 ^ 64)∨(-(2 ^ 64)<j/\j<2 ^ 64)
theorem JE.ok {i j:Int}(h:JE i j):IntMulOk i j:=by
 rcases h with⟨b,a⟩|⟨b,a⟩
 ·exact .of_left (intBits_le_64 b a)
 ·exact .of_right (intBits_le_64 b a)
theorem Q6:jL X (binaryOp .Add) (rI0 λi j=>.int (i+j)):=opI0 λ_ _ _ _ _ _ _ q=>add_int q
theorem qE:jL X (binaryOp .Sub) (rI0 λi j=>.int (i - j)):=opI0 λ_ _ _ _ _ _ _ q=>sub_int q
theorem qG:jL X (binaryOp .Mult) (rI JE λi j=>.int (i * j)):=opI λ_ _ _ _ _ _ _ hc q=>mul_int q hc.ok
theorem zF:jL X (binaryOp .FloorDiv) (rI TR λi j=>.int (i / j)):=opI λi j _ _ _ _ _ hc q=>by have b:(0:Int)<j:=hc.1;have a:j<1073741824:=hc.2;exact floordiv_int (by omega) (by rw[Int.fdiv_eq_ediv_of_nonneg i (by omega)];exact q) (.inl (PyProof.noPylong_small (by omega)))
theorem t8:jL X (binaryOp .Mod) (rI (λ_ j=>0<j) λi j=>.int (i % j)):=opI λi j _ _ _ _ _ hc q=>by have a:(0:Int)<j:=hc;exact mod_int' (by omega) (by rw[Int.fmod_eq_emod_of_nonneg i (by omega)];exact q)
theorem Q2:jL X (binaryOp .Pow) (rI S3 λi j=>.int (i ^ j.toNat)):=opI λ_ _ _ _ _ _ _ hc q=>pow_int_small hc.1 hc.2.1 hc.2.2 q
theorem unI {f:Value->Sem Value}{g:Int->Int}
  (a:∀(i:Int) (t:Tok) (s:Shared) (Q:cE) (E:cE),Q (.int (g i) s.toks) {s with toks:=s.toks+1}->wpAny (model X.prog X.w) X.A (f (.int i t)) Q E s) :
  TC X f (rU λi=>.int (g i)):=by
 intro b s σ H x v Q I c h;obtain⟨i,rfl,q⟩:=h;obtain⟨t,rfl⟩:=c;exact a i t s _ _ ⟨.int (g i),H,I.tok _,⟨_,rfl⟩,q⟩
theorem JK:TC X (unaryOp .USub) (rU λi=>.int (-i)):=unI λ_ _ _ _ _ q=>neg_int q
theorem AB {a:cY}{σ:St}{H:Hp}{s:Shared}{Q:VK}{k b:Bool}(I:aR X a σ H s)(q:Q (.bl k) H)(e:k=b):EP X a σ Q (.bool b) s:=by subst e;exact⟨.bl k,H,I,rfl,q⟩
theorem SK:jL X (compareOp .Lt) (rI0 λi j=>.bl (decide (i<j))):=opB0 λ_ _ _ _ _ _ _ q=>lt_int q
theorem pB:jL X (compareOp .LtE) (rI0 λi j=>.bl (decide (i<=j))):=opB0 λ_ _ _ _ _ _ _ q=>le_int q
theorem A8:jL X (compareOp .Gt) (rI0 λi j=>.bl (decide (j<i))):=opB0 λ_ _ _ _ _ _ _ q=>gt_int q
theorem PP:jL X (compareOp .GtE) (rI0 λi j=>.bl (decide (j<=i))):=opB0 λ_ _ _ _ _ _ _ q=>ge_int q
theorem G8:jL X (compareOp .Lt) (λx y H Q=>∃i j,x = .str i/\y = .str j/\Q (.bl (decide (i.cps.toList<j.cps.toList))) H):=by intro a s σ H x y v u Q I c b h;obtain⟨i,j,rfl,rfl,q⟩:=h;obtain⟨t,rfl⟩:=c;obtain⟨t',rfl⟩:=b;exact lt_str (AB I q rfl)
theorem qH:jL X (compareOp .In) (λx y H Q=>∃i j,x = .str i/\y = .str j/\Q (.bl (!(Builtin.Str.occurrences j i 0 j.length 1).isEmpty)) H):=by intro a s σ H x y v u Q I c b h;obtain⟨i,j,rfl,rfl,q⟩:=h;obtain⟨t,rfl⟩:=c;obtain⟨t',rfl⟩:=b;exact in_str (AB I q rfl)
theorem Q4:jL X (compareOp .Is) (λx y H Q=>y = .non/\Q (.bl (decide (x = .non))) H):=by
 intro b s σ H x y v u Q I a c h;obtain⟨rfl,q⟩:=h;cases c;refine is_none_gen (AB I q ?_);cases x <;> first
  | (cases a;rfl)
  | (obtain⟨t,rfl⟩:=a;rfl)
theorem NP:jL X (compareOp .IsNot) (λx y H Q=>y = .non/\Q (.bl (!decide (x = .non))) H):=by
 intro b s σ H x y v u Q I a c h;obtain⟨rfl,q⟩:=h;cases c;refine isnot_none_gen (AB I q ?_);cases x <;> first
  | (cases a;rfl)
  | (obtain⟨t,rfl⟩:=a;rfl)
theorem jL.or {f:Value->Value->Sem Value}{r d:R2}(h:jL X f r)(h':jL X f d):jL X f (λx y H Q=>r x y H Q∨d x y H Q):=by
 intro a s σ H x y v u Q I c b q;rcases q with q|q
 ·exact h a s σ H x y v u Q I c b q
 ·exact h' a s σ H x y v u Q I c b q
theorem nomark (b:Expr){op:CmpOp}(h:op≠.In:=by decide)(a:op≠.NotIn:=by decide):behindInMarks op b=false:=by
 have d:(op == CmpOp.In)=false:=by cases op <;> first|rfl|exact absurd rfl h
 have c:(op == CmpOp.NotIn)=false:=by cases op <;> first|rfl|exact absurd rfl a
 cases b <;> simp[behindInMarks,d,c]
theorem dX {op:CmpOp}{r:R2}(ho:jL X (compareOp op) r)(i:PE X a ta)(g:PE X b tb)(f:behindInMarks op b=false):PE X (.Compare a [op] [b] pos) (tOp r ta tb):=by intro c s σ H Q I h;exact wpAny_Compare1 (binT i g I h λv u s2 x y l j e d q=>ho c s2 σ l x y v u Q j e d q) f
noncomputable def tTest (t:TE):TT:=λσ H Q=>t σ H λx H'=>∃k,x = .bl k/\Q k H'
theorem aS {op:CmpOp}{r:R2}(ho:jL X (compareOp op) r)(q:PE X a ta)(p:PE X b tb)(o:behindInMarks op b=false):PT X (.Compare a [op] [b] pos) (tTest (tOp r ta tb)):=by
 intro d s σ H Q I h
 refine wpAny_isTrue_Compare1 (thn (q d s σ H _ I h) λv f ⟨x,E,A,r1,m⟩=>thn (p d f σ E _ A m) λu s2 ⟨y,C,w,i,l⟩ =>
  thn (ho d s2 σ C x y v u _ w r1 i l) λc F ⟨z,B,t,g,k,e,j⟩=>?_) o
 subst e;cases g;exact wpAny_truthy_bool ⟨B,t,j⟩
noncomputable def tChain (r f:R2)(e d c:TE):TE:=λσ H Q=>e σ H λx i=>d σ i λy h=>r x y h λz a=>∃k,z = .bl k /\
 (if k=true then c σ a λb g=>f y b g Q else Q (.bl false) a)
theorem mC {op g:CmpOp}{r l:R2}(ho:jL X (compareOp op) r)(i:jL X (compareOp g) l)(R:PE X a ta)(P:PE X b tb)(hc:PE X c tc)
  (O:lastMarks [op,g] [b,c]=false:=by with_unfolding_all rfl):PT X (.Compare a [op,g] [b,c] pos) (tTest (tChain r l ta tb tc)):=by
 intro f s σ H Q I h
 refine isTrue_chain (thn (R f s σ H _ I h) λv B ⟨x,H1,Z,r1,L⟩=>test_link (thn (P f B σ H1 _ Z L) λu s2 ⟨y,H2,Y,j,K⟩ =>
  thn (ho f s2 σ H2 x y v u _ Y r1 j K) λd A ⟨z,p,o,F,k,e,m⟩=>?_)) O
 subst e;cases F;refine wpAny_truthy_bool ?_;cases k with
 | false =>
  obtain⟨k',T,N⟩:=m;cases T;exact ite_ff ⟨p,o,N⟩
 | true =>
  refine ite_tt (test_last (thn (hc f A σ p _ o m) λt w ⟨q,H4,W,E,J⟩=>thn (i f w σ H4 y q u t _ W j E J) λd' s5 ⟨z2,H5,U,C,k2,S,G⟩=>?_));subst S;cases C;exact wpAny_truthy_bool ⟨H5,U,G⟩
noncomputable def O7 (K:PySem.W.Frag)(x:V)(H:Hp)(k:Bool):Prop :=
 match x with
 | .non=>k=false
 | .bl b=>k=b
 | .int i=>k=(i != 0)
 | .str y=>y.length<=sizeLine/\k=((y.length:Int) != 0)
 | .byt y=>y.size<=sizeLine/\k=((y.size:Int) != 0)
 | .ref p=>(∃xs,fQ K H p xs/\k=!xs.isEmpty)∨(∃xs,iE K H p xs/\k=!xs.isEmpty)∨∃a,H p=some (.dK a)/\k=!a.isEmpty
 | _=>False
theorem EB {κ:Type}{a:List (κ×V)}{vs:List (κ×Value)}(r:KV a vs):(!vs.isEmpty)=!a.isEmpty:=by cases r <;> rfl
theorem uM {xs:List V}{its:bX}(r:aY xs its):(!its.toArray.isEmpty)=!xs.isEmpty:=by cases r <;> simp
theorem line63:(sizeLine:Nat)<2 ^ 63:=by rw[sizeLine_eq];decide
theorem QE:TD X (λx H Q=>∃k,O7 X.K x H k/\Q k H):=by
 intro j s σ H x v Q I f h;obtain⟨k,e,q⟩:=h;have o:=line63;have l:sizeLine=16777216:=sizeLine_eq;cases x with
 | non =>
  cases f;have a:k=false:=e;subst a;exact truthy_none ⟨H,I,q⟩
 | bl b =>
  cases f;have a:k=b:=e;subst a;exact wpAny_truthy_bool ⟨H,I,q⟩
 | int i =>
  obtain⟨t,rfl⟩:=f;have a:k=(i != 0):=e;subst a;exact PySem.P.truthy_int ⟨H,I,q⟩
 | str y =>
  obtain⟨t,rfl⟩:=f;obtain⟨hy,a⟩:y.length<=sizeLine/\k=((y.length:Int) != 0):=e;subst a;exact PySem.P.truthy_str (by omega) ⟨H,I.tok _,q⟩
 | byt y =>
  obtain⟨t,rfl⟩:=f;obtain⟨hy,a⟩:y.size<=sizeLine/\k=((y.size:Int) != 0):=e;subst a;exact PySem.W.truthy_bytes (by omega) ⟨H,I.tok _,q⟩
 | ref p =>
  cases f;have a:(∃xs,fQ X.K H p xs/\k=!xs.isEmpty)∨(∃xs,iE X.K H p xs/\k=!xs.isEmpty)∨∃c,H p=some (.dK c)/\k=!c.isEmpty:=e;rcases a with⟨xs,g,a⟩|⟨xs,g,a⟩|⟨c,g,a⟩
  ·subst a;obtain⟨its,r,pl,hz⟩:=I.list g;have d:=r.length;exact wpAny_truthy_list pl.isList (by simp only[ag];omega) ⟨H,I.tok _,by rw[uM r];exact q⟩
  ·subst a;obtain⟨its,r,pl,hz⟩:=I.tuple g;have d:=r.length;exact truthy_tuple pl (by simp only[ag];omega) ⟨H,I.tok _,by rw[uM r];exact q⟩
  ·subst a;obtain⟨hz,hS,vs,r,m⟩:c.length<=sizeLine/\(p == sysModules)=false/\∃vs,KV c vs/\s.heap.DictOf (bK X.prog X.w) p vs:=I.hok p _ g;have d:c.length=vs.length:=Paired.length r;exact wpAny_truthy_dict hS m (by omega) ⟨H,I.tok _,by rw[EB r];exact q⟩
 | _=>exact(show False from e).elim
theorem J4 (g:PE X a ta)(f:∀b,isTrue a X.env b=(do let v ←b;standAt a.pos;holding [v] (truthy v))) :
  PT X a (λσ H Q=>ta σ H λx H'=>∃k,O7 X.K x H' k/\Q k H'):=by
 intro c s σ H Q I h;exact isTrue_plain (thn (g c s σ H _ I h) λv d ⟨x,j,i,r1,e⟩=>QE c d σ j x v Q i r1 e) (f _)
theorem DM:jL X (binaryOp .Add) (λx y H Q=>∃i j,x = .str i/\y = .str j/\i.length+j.length<=sizeLine/\Q (.str (i++j)) H):=by intro a s σ H x y v u Q I c b h;obtain⟨i,j,rfl,rfl,hz,q⟩:=h;obtain⟨t,rfl⟩:=c;obtain⟨t',rfl⟩:=b;exact add_str (λt' tk=>⟨.str (i++j),H,I.tok _,⟨_,rfl⟩,q⟩) hz
theorem vals1 {x:V}{us:bX}(r:aY [x] us):∃u,us=[u]/\aX x u:=by
 cases r with
 | cons r1 a=>cases a;exact⟨_,rfl,r1⟩
theorem vals2 {x y:V}{us:bX}(r:aY [x,y] us):∃u a,us=[u,a]/\aX x u/\aX y a:=by
 cases r with
 | cons r1 d =>
  cases d with
  | cons c b=>cases b;exact⟨_,_,rfl,r1,c⟩
theorem L7:cL X (.builtin "abs") (λxs H Q=>∃i,xs=[.int i]/\Q (.int (if i<0 then -i else i)) H):=by intro a s σ H xs us Q I r h;obtain⟨i,rfl,q⟩:=h;obtain⟨u,rfl,t,rfl⟩:=vals1 r;exact call_abs_int λu tk=>⟨.int (if i<0 then -i else i),H,I.tok _,⟨_,rfl⟩,q⟩
theorem IV (hc:X.calm=true):cL X (.builtin "max") (λxs H Q=>∃i j,xs=[.int i,.int j]/\Q (.int (if j > i then j else i)) H):=by
 intro b s σ H xs us Q I r h;obtain⟨i,j,rfl,q⟩:=h;obtain⟨u,c,rfl,⟨t,rfl⟩,⟨t',rfl⟩⟩:=vals2 r;refine max_two_ints (I.ok.hd hc) λh' tk k=>⟨_,H,I.kept k,?_,q⟩
 by_cases a:j > i
 ·rw[ai a,ai a];exact⟨_,rfl⟩
 ·rw[ab a,ab a];exact⟨_,rfl⟩
theorem IT (hc:X.calm=true):cL X (.builtin "min") (λxs H Q=>∃i j,xs=[.int i,.int j]/\Q (.int (if j<i then j else i)) H):=by
 intro b s σ H xs us Q I r h;obtain⟨i,j,rfl,q⟩:=h;obtain⟨u,c,rfl,⟨t,rfl⟩,⟨t',rfl⟩⟩:=vals2 r;refine min_two_ints (I.ok.hd hc) λh' tk k=>⟨_,H,I.kept k,?_,q⟩
 by_cases a:j<i
 ·rw[ai a,ai a];exact⟨_,rfl⟩
 ·rw[ab a,ab a];exact⟨_,rfl⟩
theorem IX:cL X (.type "int") (λxs H Q=>(∃i,xs=[.int i]/\Q (.int i) H)∨∃k,xs=[.bl k]/\Q (.int (if k then 1 else 0)) H):=by
 intro a s σ H xs us Q I r h;rcases h with⟨i,rfl,q⟩|⟨k,rfl,q⟩
 ·obtain⟨u,rfl,t,rfl⟩:=vals1 r;exact call_int_int ⟨.int i,H,I,⟨_,rfl⟩,q⟩
 ·obtain⟨u,rfl,r1⟩:=vals1 r;cases r1;exact call_int_bool ⟨.int (if k then 1 else 0),H,I.tok _,⟨_,rfl⟩,q⟩
end
structure EQ (h:Heap)(x dx C:Addr)(mA:fR):Prop where
 obj:h.get? x=some (PySem.W.instObj C dx)
 ns:h.Ns1 dx mA
 ne:dx≠x
theorem HR {h:Heap}{f:Addr}{c:fR}(n:h.Ns1 f c):∃od,h.get? f=some od/\∀name,PySem.W.lookIn name od=some (c name):=by
 obtain⟨o,d,l,ho,hd,j,_,i⟩:=n;refine⟨o,ho,λname=>?_⟩;have e:=i name;unfold nsFind findBy at e;rw[←Array.find?_toList]at e;unfold PySem.W.lookIn;rw[hd];dsimp only;split
 ·rename_i y q;rw[q]at e;exact congrArg some e
 ·rename_i q;rw[q]at e;have a:d.toList.any (·.refKey)=false:=by rw[List.any_eq_false];intro y g;obtain⟨z,t,b⟩:=j y (Array.mem_toList_iff.mp g);simp[DictEntry.refKey,b]
  have a':¬d.toList.any (·.refKey)=true:=by rw[a];exact Bool.false_ne_true
  rw[ab a'];exact congrArg some e
theorem EQ.look {h:Heap}{x b C:Addr}{a:fR}(I:EQ h x b C a):∃od,PySem.W.InstAt h x (PySem.W.instObj C b) C (some od)/\∀name,PySem.W.lookIn name od=some (a name) :=
 let⟨od,ho,hl⟩:=HR I.ns
 ⟨od,⟨I.obj,rfl,rfl,ho⟩,hl⟩
section
variable {prog:Program}{w:World}{A:Around}{E:cE}{s:Shared}{K:PySem.W.Frag}{x dx C f:Addr}{mA:fR}{name:Str}{v:Value}
theorem OQ {a:Bool}{Q:cE}(X:K.In s.heap)(I:EQ s.heap x dx C mA)(f:PySem.W.plainGet K C name=true)(e:PySem.W.hasDictIn K C=true)
  (g:PySem.W.findIn K (.ref C) name=some none) (c:mA name=some v) (b:PySem.W.handedIn v=true) (h:Q v {s with toks:=s.toks+1}) :
  wpAny (model prog w) A (getAttr (.ref x) name a) Q E s:=by
 obtain⟨od,J,d⟩:=I.look;exact PySem.W.get_value X J (PySem.W.plainGet_of f).1 (PySem.W.findObj_own e g rfl (by rw[d,c])) b h
theorem LK {pl:Sem Bool}{Q:Value×bX->Shared->Prop}(X:K.In s.heap)(I:EQ s.heap x dx C mA)(a:PySem.W.plainGet K C name=true)
  (e:PySem.W.findIn K (.ref C) name=some (some (.ref f))) (c:PySem.W.isFn K (.ref f)=true) (b:mA name=none) (h:Q (.ref f,[.ref x]) s) :
  wpAny (model prog w) A (getMethod (.ref x) name pl) Q E s:=by
 obtain⟨od,J,d⟩:=I.look;exact PySem.W.method_fn X J (PySem.W.plainGet_of a).1 (PySem.W.plainGet_of a).2 e (beq_iff_eq.mp c) (by show(PySem.W.lookIn name od).map (·.isSome)=some false;rw[d,b];rfl) h
theorem MW {ns:aQ}{Q:Unit->Shared->Prop}(X:K.In s.heap)(I:EQ s.heap x dx C mA)
  (o:PySem.W.findIn K (.ref C) "__setattr__" = some (some (.builtin "object.__setattr__"))) (p:PySem.W.plainOver K C=true) (m:PySem.W.takerIn K C name=some none) (q:PySem.W.hasDictIn K C=true)
  (l:PySem.Within mA ns) (hsz:ns.length<=sizeLine)
  (h:∀h',EQ h' x dx C (λy=>if y=name then some v else mA y)->Heap.SameBut dx s.heap h'->Q () {s with heap:=h',toks:=s.toks+2}) :
  wpAny (model prog w) A (setAttr (.ref x) name v) Q E s:=by
 obtain⟨od,J,B⟩:=I.look;refine PySem.W.set_plain X J o (PySem.W.osa_open (s:={s with toks:=s.toks+1}) (r:=none) X J p m λb=>?_);obtain⟨F,hc,g⟩:=PySem.W.any_some q;have j:s.heap.get? x=some ⟨.ref C,some dx,.plain,#[]⟩:=I.obj;refine aa (al (aa (aa (wpAny_loadPart j (aa (PySem.W.Looks.here (s:={s with toks:=s.toks+1}) (PySem.W.looks_clsIn X hc) ?_))))));rw[g];refine al (a:=some dx) (aa (al (aa ?_)));refine wpAny_nsSet1 (s:={s with toks:=s.toks+1}) I.ns λh' d c=>?_;obtain⟨z,t,u,e,f,i⟩:=d.count (PySem.Within.cons name v l);refine aa (wpAny_lookBehind e (by rw[f];exact pastItsLine_dict (ao i (by rw[aq];omega))) ?_);exact al (h _ ⟨(c.2 _ (Ne.symm I.ne)).trans I.obj,d,I.ne⟩ c)
theorem K8 {R:Result->Shared->Prop}{vs:bX}{a:List (Str×Value)}(X:K.In s.heap)(b:PySem.W.makesIn K C=true)
  (c:PySem.W.findIn K (.ref C) "__init__" = some (some (.ref f))) (e:PySem.W.typeIn K (.ref f)=some (.type "function"))
  (h:codeAny (model prog w) (A.under (.builtin "type.__call__" ⟨.ref C::vs,a⟩)) (.call (.ref f) ⟨.ref (s.heap.objs.size+1)::vs,a⟩) (PySem.W.InitBack (s.heap.objs.size+1) R)
   {s with heap:=(s.heap.push PySem.W.emptyDict).push (PySem.W.instObj C s.heap.objs.size)}) :
  codeAny (model prog w) A (.call (.ref C) ⟨vs,a⟩) R s:=by
 obtain⟨i,g,d,t,os⟩:=s;exact PySem.W.make_core (PySem.W.makes_of X b) (PySem.W.looks_findIn X c) (λself=>PySem.W.bind_fn X self e) (.inl rfl) h
end
noncomputable def putF (f:Str)(v:V):List (Str×V)->List (Str×V)
 | []=>[(f,v)]
 | (g,x)::r=>if g=f then(g,v)::r else(g,x)::putF f v r
theorem cB (f g:Str)(v:V):∀fs:List (Str×V),(putF f v fs).lookup g=if g=f then some v else fs.lookup g
 | []=>by
  show List.lookup g [(f,v)]=_;by_cases h:g=f
  ·have a:(g == f)=true:=beq_iff_eq.mpr h;simp only[List.lookup,a,ai h]
  ·have a:(g == f)=false:=cw.mpr h;simp only[List.lookup,a,ab h]
 | (k,x)::r=>by
  have c:=cB f g v r;rw[show putF f v ((k,x)::r)=(if k=f then(k,v)::r else(k,x)::putF f v r)from rfl];by_cases b:k=f
  ·rw[ai b];by_cases h:g=k
   ·have a:(g == k)=true:=beq_iff_eq.mpr h;simp only[List.lookup,a,ai (h.trans b)]
   ·have a:(g == k)=false:=cw.mpr h;simp only[List.lookup,a,ab (λe:g=f=>h (e.trans b.symm))]
  ·rw[ab b];by_cases h:g=k
   ·have a:(g == k)=true:=beq_iff_eq.mpr h;simp only[List.lookup,a,ab (λe:g=f=>b (h.symm.trans e))]
   ·have a:(g == k)=false:=cw.mpr h;simp only[List.lookup,a];exact c
theorem qN (f:Str)(v:V):∀fs:List (Str×V),f∈(putF f v fs).map (·.1)/\∀g,g∈fs.map (·.1)->g∈(putF f v fs).map (·.1)
 | []=>⟨by simp[putF],λg h=>by simp at h⟩
 | (k,x)::r=>by
  obtain⟨c,b⟩:=qN f v r;rw[show putF f v ((k,x)::r)=(if k=f then(k,v)::r else(k,x)::putF f v r)from rfl];by_cases a:k=f
  ·rw[ai a];subst a;exact⟨by simp,λg h=>by simpa using h⟩
  ·rw[ab a];refine⟨?_,λg h=>?_⟩
   ·rw[bc];exact az _ c
   ·rw[bc]at h⊢;rcases cr.mp h with e|e
    ·exact cr.mpr (.inl e)
    ·exact az _ (b g e)
theorem gN (f:Str)(v:V):∀fs:List (Str×V),(putF f v fs).length<=fs.length+1
 | []=>by simp[putF]
 | (k,x)::r=>by
  have b:=gN f v r;rw[show putF f v ((k,x)::r)=(if k=f then(k,v)::r else(k,x)::putF f v r)from rfl];by_cases a:k=f
  ·rw[ai a,aq,aq];omega
  ·rw[ab a,aq,aq];omega
theorem lF.some_of {v:V}{o:Option Value}(r:lF (some v) o):∃u,o=some u/\aX v u:=by
 cases o with
 | none=>exact(show False from r).elim
 | some u=>exact⟨u,rfl,r⟩
theorem lF.none_of {o:Option Value}(r:lF none o):o=none:=by
 cases o with
 | none=>rfl
 | some u=>exact(show False from r).elim
theorem IE {v:V}{u:Value}(r:aX v u):PySem.W.handedIn u=true:=by
 cases v with
 | non=>cases (show u=Value.none from r);rfl
 | bl b=>cases (show u=Value.bool b from r);rfl
 | int i=>obtain⟨t,e⟩:=(show ∃t,u=Value.int i t from r);cases e;rfl
 | str x=>obtain⟨t,e⟩:=(show ∃t,u=Value.str x t from r);cases e;rfl
 | byt b=>obtain⟨t,e⟩:=(show ∃t,u=Value.bytes b t from r);cases e;rfl
 | flt b=>obtain⟨t,e⟩:=(show ∃t,u=Value.float b t from r);cases e;rfl
 | ref a=>cases (show u=Value.ref a from r);rfl
 | ty n=>cases (show u=Value.type n from r);rfl
section
variable {P:Program}{w:World}{H H':Hp}{h h':Heap}{a C dx:Addr}{fs fs':List (Str×V)}
theorem zV (hok:hV P w H h)(e:H a=some (.ins C dx fs)):∃b,EQ h a dx C b/\(∀f,lF (fs.lookup f) (b f))/\PySem.Within b (fs.map (·.1))/\fs.length<=1000/\H dx=some (.own a):=by
 obtain⟨d,z,ne,c,b,n,r,q⟩:=(show bZ P w H h a (.ins C dx fs)from hok a _ e)
 exact⟨b,⟨c,n,ne⟩,r,q,z,d⟩
end
structure JD (K:PySem.W.Frag)(C:Addr):Prop where
 pg:PySem.W.plainGet K C Str.empty=true
 hd:PySem.W.hasDictIn K C=true
 po:PySem.W.plainOver K C=true
 sa:PySem.W.findIn K (.ref C) "__setattr__" = some (some (.builtin "object.__setattr__"))
theorem JD.get {K:PySem.W.Frag}{C:Addr}(c:JD K C)(f:Str):PySem.W.plainGet K C f=true:=c.pg
def iQ (K:PySem.W.Frag)(C:Addr)(f:Str):Prop:=PySem.W.findIn K (.ref C) f=some none
theorem iQ.taker {K:PySem.W.Frag}{C:Addr}{f:Str}(n:iQ K C f):PySem.W.takerIn K C f=some none:=by unfold PySem.W.takerIn;rw[show PySem.W.findIn K (.ref C) f=some none from n];rfl
structure PC (K:PySem.W.Frag)(C:Addr)(m:Str)(f:Addr):Prop where
 at_:PySem.W.findIn K (.ref C) m=some (some (.ref f))
 fn:PySem.W.isFn K (.ref f)=true
 kp:PySem.W.keepIn K (.ref f)=true
section
variable {X:Cx}{pins:cY}{σ:St}{H:Hp}{s:Shared}{a C dx:Addr}{fs:List (Str×V)}{f:Str}{v:V}{A:Around}{E:cE}
theorem EC {b:Bool}{Q:cE}(I:aR X pins σ H s)(e:H a=some (.ins C dx fs))(c:JD X.K C)(n:iQ X.K C f)(l:fs.lookup f=some v)
  (h:∀u d,aR X pins σ H d->aX v u->Q u d):wpAny (model X.prog X.w) A (getAttr (.ref a) f b) Q E s:=by
 obtain⟨i,O,r,_,_,_⟩:=zV I.hok e;obtain⟨u,j,g⟩:=lF.some_of (v:=v) (o:=i f) (by rw[←l];exact r f);exact OQ I.kIn O (c.get f) c.hd n j (IE g) (h u _ (I.tok _) g)
theorem uR {m:Str}{g:Addr}{pl:Sem Bool}{Q:Value×bX->Shared->Prop}(I:aR X pins σ H s)(e:H a=some (.ins C dx fs))(c:JD X.K C)(k:PC X.K C m g)(l:fs.lookup m=none)
  (h:Q (.ref g,[.ref a]) s):wpAny (model X.prog X.w) A (getMethod (.ref a) m pl) Q E s:=by
 obtain⟨b,O,r,_,_,_⟩:=zV I.hok e;have d:b m=none:=lF.none_of (by rw[←l];exact r m);exact LK I.kIn O (c.get m) k.at_ k.fn d h
theorem DB {y:V}{u:Value}{Q:Unit->Shared->Prop}(I:aR X pins σ H s)(e:H a=some (.ins C dx fs))(c:JD X.K C)(n:iQ X.K C f)(B:fs.length<1000)(p:aX y u)
  (h:∀j,aR X pins σ (upd H a (.ins C dx (putF f y fs))) j->Q () j):wpAny (model X.prog X.w) A (setAttr (.ref a) f u) Q E s:=by
 obtain⟨l,O,r,i,_,ho⟩:=zV I.hok e;have hz:(fs.map (·.1)).length<=sizeLine:=by rw[ae,sizeLine_eq];omega
 refine MW I.kIn O c.sa c.po n.taker c.hd i hz λh' d m=>h _ ?_;have hd:∃o,h'.get? dx=some o:=let⟨o,_,_,e',_⟩:=d.ns;⟨o,e'⟩;refine I.write (x:=a) (e:=dx) (by rw[e];exact True.intro) (.inr ho) (λb q v z=>(m.2 b v).trans z) hd ?_;refine⟨by rw[aC O.ne];exact ho,?_,O.ne,d.obj,_,d.ns,λg=>?_,λg t=>?_⟩
 ·have:=gN f y fs;omega
 ·show lF ((putF f y fs).lookup g) (if g=f then some u else l g);rw[cB];by_cases q:g=f
  ·rw[ai q,ai q];exact p
  ·rw[ab q,ab q];exact r g
 ·by_cases q:g=f
  ·rw[q];exact(qN f y fs).1
  ·refine(qN f y fs).2 g (i g λz=>t ?_);show(if g=f then some u else l g)=none;rw[ab q];exact z
theorem aR.made (I:aR X pins σ H s):aR X pins σ (upd (upd H s.heap.objs.size (.own (s.heap.objs.size+1))) (s.heap.objs.size+1) (.ins C s.heap.objs.size []))
  {s with heap:=(s.heap.push PySem.W.emptyDict).push (PySem.W.instObj C s.heap.objs.size)}:=by
 have c:(s.heap.push PySem.W.emptyDict).get? s.heap.objs.size=some PySem.W.emptyDict:=au s.heap rfl;have h:((s.heap.push PySem.W.emptyDict).push (PySem.W.instObj C s.heap.objs.size)).get? (s.heap.objs.size+1)=some (PySem.W.instObj C s.heap.objs.size):=by
  have:=au (s.heap.push PySem.W.emptyDict) (o:=PySem.W.instObj C s.heap.objs.size) rfl
  rwa [Heap.size_push]at this
 have g:(s.heap.push PySem.W.emptyDict).Ns s.heap.objs.size (λ_=>none):=⟨PySem.W.emptyDict,#[],_,c,rfl,(λe f=>absurd f (by simp)),λ_=>rfl⟩
 have i:=I.laid (a:=s.heap.objs.size) (o:=.own (s.heap.objs.size+1)) (h':=s.heap.push PySem.W.emptyDict) (t':=s.toks) (λb u q=>af _ q) (ac _) ⟨_,c⟩;refine i.laid (a:=s.heap.objs.size+1) (o:=.ins C s.heap.objs.size []) (t':=s.toks) (λb u q=>af _ q) (Nat.le_of_eq (Heap.size_push _ _)) ?_;have ne:s.heap.objs.size≠s.heap.objs.size+1:=bn (Nat.lt_succ_self _);refine⟨by rw[aC ne,upd_same],av _,ne,h,λ_=>none,(Heap.Ns1.of_empty g).at λo q=>af _ q,λ_=>True.intro,λy d=>absurd rfl d⟩
theorem O2 {prog:Program}{w:World}{env:Env}{e:Expr}{f:Str}{a:Pos}{s:Shared}{Q:cE}(c:attributeBase e f env (eval e env)=eval e env)
  (h:wpAny (model prog w) A (eval e env) (λo b=>wpAny (model prog w) A (getAttr o f true) Q E b) E s):wpAny (model prog w) A (eval (.Attribute e f a) env) Q E s :=
 Attribute_any_ h (by rw[arm_eval_Attribute,c])
end
noncomputable def tFld (K:PySem.W.Frag)(c:TE)(f:Str):TE:=λσ H Q=>c σ H λx b=>∃a C d fs v,x = .ref a/\b a=some (.ins C d fs)/\JD K C/\iQ K C f/\fs.lookup f=some v/\Q v b
noncomputable def sFld (K:PySem.W.Frag)(e d:TE)(f:Str):TS:=λD σ H=>d σ H λy g=>e σ g λx c=>∃a C b fs,x = .ref a/\c a=some (.ins C b fs)/\JD K C/\iQ K C f/\fs.length<1000 /\
 D.nx σ (upd c a (.ins C b (putF f y fs)))
section
variable {X:Cx}{o e value:Expr}{f:Str}{pos pos' tpos:Pos}{ta tv:TE}
theorem KB (i:PE X e ta)(j:attributeBase e f X.env (eval e X.env)=eval e X.env):PE X (.Attribute e f pos) (tFld X.K ta f):=by intro b s σ H Q I h;refine O2 j (thn (i b s σ H _ I h) λu w ⟨x,r,p,d,a,C,z,fs,v,ex,m,c,n,l,q⟩=>?_);subst ex;obtain rfl:u=Value.ref a:=d;exact EC p m c n l λt s2 o g=>⟨v,r,o,g,q⟩
theorem yW (r:PE X o ta)(m:PE X value tv)(p:swapsWith value (some (.Attribute o f pos')) pos.line X.env=pure false):PS X (.Assign [.Attribute o f pos'] value pos) (sFld X.K ta tv f):=by intro b s σ H D I h;refine plainObj_wpAny_Assign_Attribute (thn (m b s σ H _ I h) λu d ⟨y,A,z,e,q⟩=>thn (r b d σ A _ z q) λj s2 ⟨x,F,w,g,a,C,E,fs,ex,t,c,n,l,i⟩=>?_) p;subst ex;obtain rfl:j=Value.ref a:=g;exact DB w t c n l e λB v=>⟨σ,_,v,i⟩
theorem PR {pl:Sem Bool}{m:Str}{d:Pos}{args:lR}{b:cY}{s:Shared}{σ:St}{H:Hp}{Q:cE}{o:TE}(z:PE X e o)(I:aR X b σ H s)
  (h:o σ H λx j=>∃a C p fs g,x = .ref a/\j a=some (.ins C p fs)/\JD X.K C/\PC X.K C m g/\fs.lookup m=none /\
   ∀i,aR X b σ j i->wpAny (model X.prog X.w) X.A (callWith pos (.ref g) [.ref a] (backTo pos (starEach args X.env)) (backToKw pos (keywordEach [] X.env))) Q X.xe i)
  (v:eval (.Call (.Attribute e m d) args [] pos) X.env=(do
   let ov ←eval e X.env
   standAt d.atName
   let(f,first) ←holding [ov] (getMethod ov m pl)
   callWith pos f first (backTo pos (starEach args X.env)) (backToKw pos (keywordEach [] X.env)))) :
  wpAny (model X.prog X.w) X.A (eval (.Call (.Attribute e m d) args [] pos) X.env) Q X.xe s:=by
 refine PySem.W.methodCall_KW (pl:=pl) (thn (z b s σ H _ I h) λu i ⟨x,j,r,t,a,C,p,fs,g,ex,B,c,k,l,q⟩=>?_) v;subst ex;obtain rfl:u=Value.ref a:=t;exact uR r B c k l (q i r)
end
structure eX (k:Nat)(A:Around):Prop where
 hd:A.handled=none
 dp:A.depth+3 * k+5<recursionLimit
 un:A.units+16 * k+200<cLine
theorem eX.mono {j k:Nat}{A:Around}(r:eX k A)(h:j<=k):eX j A:=⟨r.hd,by have:=r.dp;omega,by have:=r.un;omega⟩
theorem eX.deeper {k:Nat}{A:Around}(r:eX (k+1) A)(env:Env):eX k (A.deeper env) :=
 ⟨r.hd,by have:=r.dp;show A.depth+1+3 * k+5<_;omega,by have:=r.un;show A.units+3+16 * k+200<_;omega⟩
theorem eX.in1 {k:Nat}{A:Around}(r:eX (k+1) A):eX k A.in1 :=
 ⟨r.hd,by have:=r.dp;show A.depth+3 * k+5<_;omega,by have:=r.un;show A.units+1+16 * k+200<_;omega⟩
theorem D1 {A:Around}{C:Addr}{us:bX}{a:List (Str×Value)}:(A.under (.builtin "type.__call__" ⟨.ref C::us,a⟩)).depth=A.depth+1:=by
 first|rfl|simp[Around.under,Code.weight,Code.isCreation,Code.isGuard,Code.isCaller,Code.frames,Code.isFrame,guardIds]
theorem DZ {A:Around}{C:Addr}{us:bX}{a:List (Str×Value)}:(A.under (.builtin "type.__call__" ⟨.ref C::us,a⟩)).units=A.units+1:=by
 first|rfl|simp[Around.under,Code.cUnits,Code.frames,Code.isFrame]
theorem eX.make {k:Nat}{A:Around}(r:eX (k+1) A)(C:Addr)(us:bX)(a:List (Str×Value)):eX k (A.under (.builtin "type.__call__" ⟨.ref C::us,a⟩)) :=
 ⟨r.hd,by have:=r.dp;rw[D1];omega,by have:=r.un;rw[DZ];omega⟩
theorem eX.depth {k:Nat}{A:Around}(r:eX k A):A.depth<recursionLimit:=by have:=r.dp;omega
theorem eX.units {k:Nat}{A:Around}(r:eX k A):A.units+64<cLine:=by have:=r.un;omega
noncomputable def tNil:TA:=λ_ H Q=>Q [] H
noncomputable def tCons (a:TE)(tr:TA):TA:=λσ H Q=>a σ H λx c=>tr σ c λxs b=>Q (x::xs) b
section
variable {X:Cx}{e:Expr}{es:lR}{te:TE}{t:TA}{pos:Pos}
theorem aB:PA X [] tNil:=λ_ _ _ _ H Q I h=>Calls.spliced_nil ⟨[],H,I,.nil,h⟩
theorem aA (l:PE X e te)(j:PA X es t)(i:starEach (e::es) X.env=(false,eval e X.env)::starEach es X.env:=by rfl):PA X (e::es) (tCons te t):=by intro b a s σ H Q I h;rw[i];show wpAny _ _ (spliced ((false,eval e X.env)::backTo b (starEach es X.env))) _ _ s;refine Calls.spliced_cons (thn (l a s σ H _ I h) λu c ⟨x,q,o,r1,g⟩=>?_);exact thn (j b a c σ q _ o g) λus s2 ⟨xs,p,m,d,f⟩=>⟨x::xs,p,m,.cons r1 d,f⟩
noncomputable def tTup (t:TA):TE:=λσ H Q=>t σ H λxs a=>xs.length<=sizeLine/\∀p,a p=none->Q (.ref p) (upd a p (.tup xs))
noncomputable def tLst (t:TA):TE:=λσ H Q=>t σ H λxs a=>xs.length<=sizeLine/\∀p,a p=none->Q (.ref p) (upd a p (.lst xs))
theorem fL {x1}(h:PA X es t):PE X (.Tuple es x1 pos) (tTup t):=by intro a s σ H Q I g;refine wpAny_Tuple_spliced (thn (h pos a s σ H _ I g) λus c ⟨xs,f,d,r,z,q⟩=>⟨by rw[←r.length];exact z,?_⟩);have i:f c.heap.objs.size=none:=d.hok.fresh (ac _);refine⟨.ref c.heap.objs.size,upd f c.heap.objs.size (.tup xs),d.laid (t':=c.toks) (λb u e=>af _ e) (ac _) ?_,rfl,q _ i⟩;exact⟨z,us,r,⟨_,au _ rfl,rfl,_,rfl⟩⟩
theorem bR (h:PA X es t):PE X (.List es pos) (tLst t):=by intro a s σ H Q I g;refine wpAny_List_spliced (thn (h pos a s σ H _ I g) λus c ⟨xs,f,d,r,z,q⟩=>⟨by rw[←r.length];exact z,?_⟩);have i:f c.heap.objs.size=none:=d.hok.fresh (ac _);refine⟨.ref c.heap.objs.size,upd f c.heap.objs.size (.lst xs),d.laid (t':=c.toks) (λb u e=>af _ e) (ac _) ?_,rfl,q _ i⟩;exact⟨z,us,0,r,au _ rfl⟩
end
noncomputable abbrev Sp:=List V->Hp->VK->XK->Prop
noncomputable abbrev AO:=List Env->Hp->Shared->XK->cE
structure vZ (P:Program)(w:World)(K:PySem.W.Frag)(mg:fR)(base:Heap)(A:Around)(outer:List Env)(s:Shared)(H:Hp):Prop where
 frames:A.frames=some outer
 mod:Mod K mg base
 bs:∀b o,base.get? b=some o->s.heap.get? b=some o/\H b=none
 bsz:base.objs.size<=s.heap.objs.size
 funs:s.heap.FunFrames base outer
 frf:∀b∈frs outer,H b=none
 hok:hV P w H s.heap
 bare:AllBare s.gens
noncomputable def CE (outer:List Env)(P:Program)(w:World)(H:Hp)(s:Shared)(Q:VK)(u:Value)(a:Shared):Prop :=
 ∃v H',a.os=s.os/\AllBare a.gens/\Un (frs outer) [] H H' s.heap a.heap/\hV P w H' a.heap/\aX v u/\Q v H'
noncomputable def CR (CX:AO)(outer:List Env)(P:Program)(w:World)(H:Hp)(s:Shared)(Q:VK)(E:XK)(r:Result)(a:Shared):Prop :=
 match r with
 | .ok (.ret u)=>CE outer P w H s Q u a
 | .ok _=>False
 | .error e=>CX outer H s E e a
structure bW (P:Program)(w:World)(K:PySem.W.Frag)(mg:fR)(base:Heap)(CX:AO)(k:Nat)(f:Addr)(fd:FuncData)(ps:aQ)(sp:Sp):Prop where
 len:∀vs H Q E,sp vs H Q E->vs.length=ps.length
 run:∀(A:Around) (outer:List Env) (s:Shared) (H:Hp) (args:Args) (us:bX) (vs:List V) (Q:VK) (E:XK),eX k A->vZ P w K mg base A outer s H->BindsTo s fd args (ps.zip us)->aY vs us->sp vs H Q E ->
  codeAny (model P w) A (.call (.ref f) args) (CR CX outer P w H s Q E) s
theorem bW.mono {P:Program}{w:World}{K:PySem.W.Frag}{mg:fR}{base:Heap}{CX:AO}{j k:Nat}{f:Addr}{a:FuncData}{ps:aQ}{sp:Sp}(F:bW P w K mg base CX j f a ps sp)(h:j<=k) :
  bW P w K mg base CX k f a ps sp:=⟨F.len,λA outer s H args us vs Q E b=>F.run A outer s H args us vs Q E (b.mono h)⟩
theorem vZ.make {P:Program}{w:World}{K:PySem.W.Frag}{mg:fR}{base:Heap}{A:Around}{outer:List Env}{s:Shared}{H:Hp}(e:vZ P w K mg base A outer s H)(C:Addr)(us:bX)(a:List (Str×Value)) :
  vZ P w K mg base (A.under (.builtin "type.__call__" ⟨.ref C::us,a⟩)) outer s H:=⟨by first|exact e.frames|(simpa [Around.under,Code.envs,Code.isFrame,pushEnvs] using e.frames),e.mod,e.bs,e.bsz,e.funs,e.frf,e.hok,e.bare⟩
section
variable {X:Cx}{pins:cY}{σ:St}{H:Hp}{s s':Shared}
theorem aR.env0 (I:aR X pins σ H s):vZ X.prog X.w X.K X.mg X.base X.A X.stack s H :=
 ⟨I.ok.frames,I.ok.mod,I.bs,ao I.ok.bsz I.sz,I.stack,I.stkFree,I.hok,I.bare⟩
theorem aR.after {Q:VK}{u:Value}(I:aR X pins σ H s)(h:CE X.stack X.prog X.w H s Q u s'):EP X pins σ Q u s':=by obtain⟨v,H',os,bare,un,hok,r,q⟩:=h;obtain⟨c,g,d,t,a⟩:=s';obtain rfl:a=s.os:=os;exact⟨v,H',I.call (h':=c) (g':=g) (d':=d) (t':=t) (ch:=[]) un hok bare (λb z=>absurd z (by simp)),r,q⟩
end
noncomputable def tCall (sp:Sp)(a:List V)(E:XK)(t:TA):TE:=λσ H Q=>t σ H λvs b=>sp (vs++a) b Q E
def tMeth (C:Addr)(m:Str)(sp:Sp)(b:List V)(E:XK)(d:TE)(t:TA):TE:=λσ H Q=>d σ H λx c=>∃a e fs,x = .ref a/\c a=some (.ins C e fs)/\fs.lookup m=none /\
 t σ c λvs f=>sp (x::(vs++b)) f Q E
def tMake (C:Addr)(sp:Sp)(b:List V)(E:XK)(t:TA):TE:=λσ H Q=>t σ H λvs c=>∀x a,c x=none->c a=none->a≠x ->
 sp (.ref x::(vs++b)) (upd (upd c a (.own x)) x (.ins C a [])) (λv d=>v = .non/\Q (.ref x) d) E
noncomputable def gA (K:PySem.W.Frag)(a:FuncData)(ps:aQ)(ds:bX):Prop :=
 ∀(s:Shared) (us:bX),K.In s.heap->(us++ds).length=ps.length->BindsTo s a ⟨us,[]⟩ (ps.zip (us++ds))
theorem gA.all {K:PySem.W.Frag}{b:FuncData}{ps:aQ}(h:∀us:bX,us.length=ps.length->bindArgs b ⟨us,[]⟩=pure (ps.zip us)):gA K b ps []:=λs us _ a=>by rw[bj]at a⊢;exact .of_eq (h us a)
def jY (CX:AO)(X:Cx)(E:XK):Prop:=∀(a:cY) (σ:St) (H:Hp) (s:Shared) (e:Value) (s':Shared),aR X a σ H s->CX X.stack H s E e s'->X.xe e s'
section
variable {X:Cx}{CX:AO}{k:Nat}{f C:Addr}{fd:FuncData}{ps:aQ}{sp:Sp}{dvs:List V}{ds:bX}{E:XK}{x m:Str}{p pos apos:Pos}{e o:Expr}{es:lR}{ta:TE}{t:TA}
theorem J1 {a:cY}{σ:St}{H:Hp}{s:Shared}{Q:VK}{us:bX}{vs:List V}(F:bW X.prog X.w X.K X.mg X.base CX k f fd ps sp)(i:eX k X.A)(l:gA X.K fd ps ds)(hd:aY dvs ds)(g:jY CX X E)
  (I:aR X a σ H s) (r:aY vs us) (h:sp (vs++dvs) H Q E):wpAny (model X.prog X.w) X.A (call (.ref f) us) (EP X a σ Q) X.xe s:=by
 have c:aY (vs++dvs) (us++ds):=r.append hd;have j:(us++ds).length=ps.length:=by rw[←c.length];exact F.len _ _ _ _ h
 refine wpAny_call (codeAny_mono (F.run X.A X.stack s H ⟨us,[]⟩ (us++ds) (vs++dvs) Q E i I.env0 (l s us I.kIn j) c h) λr d b=>?_);cases r with
 | error e=>exact g a σ H s e d I b
 | ok m =>
  cases m with
  | ret u=>exact I.after b
  | next=>exact False.elim b
  | brk=>exact False.elim b
  | cont=>exact False.elim b
theorem NH (F:bW X.prog X.w X.K X.mg X.base CX k f fd ps sp)(i:eX k X.A)(m:Gl X x)(j:X.mg x=some (.ref f))(l:PySem.W.keepIn X.K (.ref f)=true)(u:gA X.K fd ps ds)(hd:aY dvs ds)(g:jY CX X E)
  (v:PA X (e::es) t) (c:(x == ("__debug__" : Str))=false:=by decide) (o:starEach (e::es) X.env=(false,eval e X.env)::starEach es X.env:=by rfl) (b:(backTo pos (starEach es X.env)).any (·.1)=false:=by rfl) :
  PE X (.Call (.Name x p) (e::es) [] pos) (tCall sp dvs E t):=by
 intro a s σ H Q I h;refine wpAny_Call_Name_kw (pE I m j ?_ c);refine PySem.W.callWith_K (h₀:=X.base) I.ok.mod.kin l (thn (v pos a s σ H _ I h) λus z ⟨vs,B,d,r,q⟩=>⟨d.kIn,?_⟩) o b;exact J1 F i u hd g d r q
theorem NE {pl:Sem Bool}(N:PE X o ta)(c:JD X.K C)(i:PC X.K C m f)(F:bW X.prog X.w X.K X.mg X.base CX k f fd ps sp)(L:eX k X.A)(O:gA X.K fd ps ds)(hd:aY dvs ds)(G:jY CX X E)(P:PA X (e::es) t)
  (d:starEach (e::es) X.env=(false,eval e X.env)::starEach es X.env:=by rfl) (g:(backTo pos (starEach es X.env)).any (·.1)=false:=by rfl)
  (J:eval (.Call (.Attribute o m apos) (e::es) [] pos) X.env=(do
   let ov ←eval o X.env
   standAt apos.atName
   let(f,first) ←holding [ov] (getMethod ov m pl)
   callWith pos f first (backTo pos (starEach (e::es) X.env)) (backToKw pos (keywordEach [] X.env))):=by rfl) :
  PE X (.Call (.Attribute o m apos) (e::es) [] pos) (tMeth C m sp dvs E ta t):=by
 intro b s σ H Q I h;refine PySem.W.methodCall_KW (pl:=pl) (thn (N b s σ H _ I h) λu v ⟨x,S,p,z,a,T,fs,ex,R,l,q⟩=>?_) J;subst ex;obtain rfl:u=Value.ref a:=z;refine uR p R c i l ?_;refine PySem.W.callWith_K (first:=[.ref a]) (h₀:=X.base) I.ok.mod.kin i.kp (thn (P pos b v σ S _ p q) λus s2 ⟨vs,U,j,r,B⟩=>⟨j.kIn,?_⟩) d g;exact J1 (us:=.ref a::us) (vs:=.ref a::vs) F L O hd G j (.cons rfl r) B
structure Mk (K:PySem.W.Frag)(C f:Addr):Prop where
 makes:PySem.W.makesIn K C=true
 init:PySem.W.findIn K (.ref C) "__init__" = some (some (.ref f))
 fn:PySem.W.isFn K (.ref f)=true
 kp:PySem.W.keepIn K (.ref C)=true
theorem J0 {a:cY}{σ:St}{H:Hp}{s:Shared}{Q:VK}{us:bX}{vs:List V}(M:Mk X.K C f)(F:bW X.prog X.w X.K X.mg X.base CX k f fd ps sp)(p:eX (k+1) X.A)(t:gA X.K fd ps ds)(hd:aY dvs ds)
  (o:jY CX X E) (I:aR X a σ H s) (r:aY vs us)
  (h:∀x c,H x=none->H c=none->c≠x->sp (.ref x::(vs++dvs)) (upd (upd H c (.own x)) x (.ins C c [])) (λv J=>v = .non/\Q (.ref x) J) E) :
  wpAny (model X.prog X.w) X.A (call (.ref C) us) (EP X a σ Q) X.xe s:=by
 have i:=h (s.heap.objs.size+1) s.heap.objs.size (I.hok.fresh (Nat.le_succ _)) (I.hok.fresh (ac _)) (bn (Nat.lt_succ_self _));have d:=aR.made (C:=C) I;have g:aY (V.ref (s.heap.objs.size+1)::(vs++dvs)) (Value.ref (s.heap.objs.size+1)::(us++ds)):=.cons rfl (r.append hd);have q:(Value.ref (s.heap.objs.size+1)::us++ds).length=ps.length:=by have e:=g.length;rw[F.len _ _ _ _ i]at e;exact e.symm
 refine wpAny_call (K8 (f:=f) I.kIn M.makes M.init (beq_iff_eq.mp M.fn) (codeAny_mono (F.run _ X.stack _ _ ⟨Value.ref (s.heap.objs.size+1)::us,[]⟩ (Value.ref (s.heap.objs.size+1)::(us++ds)) _ _ E (p.make C us [])
  (d.env0.make C us []) (t _ (Value.ref (s.heap.objs.size+1)::us) d.kIn q) g i) λr j b=>?_))
 cases r with
 | error e=>exact o a σ _ _ e j d b
 | ok z =>
  cases z with
  | ret u =>
   obtain⟨v,H',G,l,B,m⟩:=d.after b;subst B;exact⟨l,⟨V.ref (s.heap.objs.size+1),H',G,rfl,m⟩⟩
  | next=>exact False.elim b
  | brk=>exact False.elim b
  | cont=>exact False.elim b
theorem NF (M:Mk X.K C f)(F:bW X.prog X.w X.K X.mg X.base CX k f fd ps sp)(i:eX (k+1) X.A)(l:Gl X x)(j:X.mg x=some (.ref C))(o:gA X.K fd ps ds)(hd:aY dvs ds)(g:jY CX X E)
  (u:PA X (e::es) t) (c:(x == ("__debug__" : Str))=false:=by decide) (m:starEach (e::es) X.env=(false,eval e X.env)::starEach es X.env:=by rfl) (b:(backTo pos (starEach es X.env)).any (·.1)=false:=by rfl) :
  PE X (.Call (.Name x p) (e::es) [] pos) (tMake C sp dvs E t):=by
 intro a s σ H Q I h;refine wpAny_Call_Name_kw (pE I l j ?_ c);refine PySem.W.callWith_K (h₀:=X.base) I.ok.mod.kin M.kp (thn (u pos a s σ H _ I h) λus v ⟨vs,z,d,r,q⟩=>⟨d.kIn,?_⟩) m b;exact J0 M F i o hd g d r q
end
noncomputable def PK (X:Cx)(b:List Keyword)(t:TA):Prop :=
 ∀(a:Pos) (pins:cY) (s:Shared) (σ:St) (H:Hp) (Q:List V->Hp->Prop),aR X pins σ H s->t σ H Q->wpAny (model X.prog X.w) X.A (evalAll ((backToKw a (keywordEach b X.env)).map (·.2))) (AP X pins σ Q) X.xe s
section
variable {X:Cx}{CX:AO}{k:Nat}{f C:Addr}{fd:FuncData}{ps ks:aQ}{sp:Sp}{E:XK}{x m:Str}{p pos apos kpos:Pos}{e o:Expr}{es:lR}{kws:List Keyword}{te ta:TE}{t tk:TA}{nm:Option Str}
theorem QV:PK X [] tNil:=λ_ _ _ _ H Q I h=>wpAny_evalAll_nil ⟨[],H,I,.nil,h⟩
theorem NB (j:PE X e te)(i:PK X kws t):PK X (⟨nm,e,kpos⟩::kws) (tCons te t):=by intro b a s σ H Q I h;show wpAny _ _ (evalAll ((do let v ←eval e X.env;standAt b;pure v)::(backToKw b (keywordEach kws X.env)).map (·.2))) _ _ s;refine wpAny_evalAll_cons (aa (thn (j a s σ H _ I h) λu c ⟨x,p,m,r1,g⟩=>aa (wpAny_standAt (al ?_))));exact thn (i b a c σ p _ m g) λus s2 ⟨xs,o,l,d,f⟩=>⟨x::xs,o,l,.cons r1 d,f⟩
variable {g:bX->bX->bX}{gV:List V->List V->List V}
end
structure aT (N P:aQ)(sc:Scope):Prop where
 kind:sc.kind = .function
 co:sc.isCoroutine=false
 gen:sc.isGenerator=false
 nd:N.Nodup
 pre:N.take P.length=P
 par:∀x∈P,sc.names.lookup x=some .local∨sc.names.lookup x=some .cell
 nofree:∀y∈sc.names,y.2≠.free
theorem xV {a:Str->Option NameKind}{x:Str}:∀{binds:List (Str×Value)} {m:fR},(∀v,(x,v)∉binds)->bindL a binds m x=m x
 | [],_,_=>rfl
 | (n,v)::r,m,h=>by
  unfold bindL;rw[xV λw b=>h w (az _ b)];split
  ·have:x≠n:=by rintro rfl;exact h v aw
   simp[this]
  ·rfl
theorem xX {a:Str->Option NameKind}{x:Str}:∀{binds:List (Str×Value)} {m:fR},(∀v,(x,v)∉binds)->bindC a binds m x=m x
 | [],_,_=>rfl
 | (n,v)::r,m,h=>by
  unfold bindC;rw[xX λw b=>h w (az _ b)];split
  ·rfl
  ·have:x≠n:=by rintro rfl;exact h v aw
   simp[this]
theorem xW {a:Str->Option NameKind}{x:Str}{v:Value}:∀{P:aQ} {vs:bX} {i:Nat} {m:fR},P.Nodup->P[i]?=some x->vs[i]?=some v->a x=some .local ->
  bindL a (P.zip vs) m x=some v
 | [],_,_,_,_,h,_,_=>by simp at h
 | _::_,[],_,_,_,_,h,_=>by simp at h
 | p::P,w::vs,0,m,nd,c,b,d=>by
  simp at c b;subst c;subst b;show bindL a ((p,w)::P.zip vs) m p=_;unfold bindL;rw[xV λv e=>(cx.mp nd).1 (List.of_mem_zip e).1,ai d];simp
 | p::P,w::vs,i+1,m,nd,c,b,d=>by show bindL a ((p,w)::P.zip vs) m x=_;unfold bindL;exact xW (i:=i) (cx.mp nd).2 (by simpa using c) (by simpa using b) d
theorem xY {a:Str->Option NameKind}{x:Str}{v:Value}:∀{P:aQ} {vs:bX} {i:Nat} {m:fR},P.Nodup->P[i]?=some x->vs[i]?=some v->a x≠some .local ->
  bindC a (P.zip vs) m x=some v
 | [],_,_,_,_,h,_,_=>by simp at h
 | _::_,[],_,_,_,_,h,_=>by simp at h
 | p::P,w::vs,0,m,nd,c,b,d=>by
  simp at c b;subst c;subst b;show bindC a ((p,w)::P.zip vs) m p=_;unfold bindC;rw[xX λv e=>(cx.mp nd).1 (List.of_mem_zip e).1,ab d];simp
 | p::P,w::vs,i+1,m,nd,c,b,d=>by show bindC a ((p,w)::P.zip vs) m x=_;unfold bindC;exact xY (i:=i) (cx.mp nd).2 (by simpa using c) (by simpa using b) d
noncomputable def start (N:aQ)(vs:List V):St:=vs.map some++List.replicate (N.length - vs.length) none
noncomputable def cxOf (CX:AO)(P:Program)(w:World)(K:PySem.W.Frag)(mg:fR)(base:Heap)(N:aQ)(a:Str)(scope:Scope)(f:Addr)(c:Value)(A:Around)(outer:List Env)(s:Shared)(H:Hp)(E:XK):Cx where
 prog:=P
 w:=w
 K:=K
 mg:=mg
 base:=base
 A:=A.deeper (envOfC a scope s.heap.objs.size f c)
 N:=N
 s₀:=s
 H₀:=H
 env:=envOfC a scope s.heap.objs.size f c
 outer:=outer
 stack:=envOfC a scope s.heap.objs.size f c::outer
 ex:=[]
 calm:=true
 fn:=λ_=>true
 pn:=[]
 xe:=λe d=>wpAny (model P w) (A.deeper (envOfC a scope s.heap.objs.size f c)) (leaving (envOfC a scope s.heap.objs.size f c) e) (λ_ b=>CX outer H s E e b) (λg b=>CX outer H s E g b) d
theorem CA {a:Scope}{n:Nat}{x:Str}(h:a.names.lookup x=some .cell):∃c,(cellsFrom n a.names []).lookup x=some c:=by have q:=PySem.W.cellsFrom_some a.names n [] (.inl h);exact Option.isSome_iff_exists.mp q
theorem xC {CX:AO}{P:Program}{w:World}{K:PySem.W.Frag}{mg:fR}{base:Heap}{N ps:aQ}{d:Str}{scope:Scope}{f:Addr}{F:Value}{A:Around}{outer:List Env}{s G:Shared}{H:Hp}{E:XK}{us:bX}{vs:List V}
  (S:aT N ps scope) (hd:A.handled=none) (j:vZ P w K mg base A outer s H) (R:vs.length=ps.length) (r:aY vs us)
  (x:InCallC s s.heap.objs.size (bindL (envOfC d scope s.heap.objs.size f F).kindOf (ps.zip us) λ_=>none) (cellsFrom (s.heap.objs.size+1) scope.names []) (bindC (envOfC d scope s.heap.objs.size f F).kindOf (ps.zip us) λ_=>none) G) :
  aR (cxOf CX P w K mg base N d scope f F A outer s H E) [] (start N vs) H G:=by
 have O:ps.length<=N.length:=by have:=congrArg List.length S.pre;rw[bq]at this;omega
 obtain⟨C,tk,rfl,J⟩:=x.done;have l:∀b:Addr,b∉(cxOf CX P w K mg base N d scope f F A outer s H E).ex:=λb z=>absurd (show b∈([]:List Addr)from z) (by simp)
 refine⟨⟨j.mod,S.kind,rfl,rfl,ac _,λy z c C g=>?_,λy m=>?_,λy c _ h=>?_,λ_=>hd,Around.frames_deeper j.frames,.inr ⟨rfl,rfl⟩,λb z=>absurd z (l b),j.bs,j.bsz,λb _ _=>l b,λb z=>absurd z (l b),j.funs,j.frf⟩,
  rfl,j.bare,Un.kept J,⟨_,x.toInCall.ns,λi y v C g T=>?_⟩,λy c h=>⟨_,x.cell y c h⟩,j.hok.fresh (ac _),λy c h=>?_,λp t=>absurd (show p∈([]:cY)from t) (by simp),j.hok.kept J,?_⟩
 ·exact name_of_addr x.apart (PySem.mem_of_lookup C) (PySem.mem_of_lookup g)
 ·have m:scope.names.lookup y=some .cell∨scope.names.lookup y=some .free:=m;rcases m with m|m
  ·exact CA m
  ·exact absurd rfl (S.nofree _ (PySem.mem_of_lookup m))
 ·exact Nat.le_of_lt (x.above y c (PySem.mem_of_lookup h))
 ·have B:i<vs.length:=by
   unfold start at g;by_cases B:i<vs.length
   ·exact B
   ·rw[List.getElem?_append_right (by simpa using B)]at g;rw[List.getElem?_replicate]at g;split at g <;> cases g
  have Q:vs[i]?=some v:=by
   unfold start at g;rw[List.getElem?_append_left (by simpa using B),bw]at g;cases e:vs[i]? with
   | none=>rw[e]at g;cases g
   | some a=>rw[e]at g;cases g;rfl
  obtain⟨u,I,L⟩:=r.get Q;have t:ps[i]?=some y:=by rw[←S.pre,List.getElem?_take_of_lt (by omega)];exact C
  have o:ps.Nodup:=by rw[←S.pre];exact S.nd.sublist (List.take_sublist _ _)
  refine⟨u,L,?_⟩;rcases S.par y (bh t)with k|k
  ·exact .inl ⟨k,xW o t I k⟩
  ·obtain⟨c,e⟩:=CA (n:=s.heap.objs.size+1) k;refine .inr ⟨.inl k,c,e,?_⟩;have q:=x.cell y c e;rw[xY o t I (by show scope.names.lookup y≠_;rw[k];decide)]at q;exact q
 ·exact j.hok.fresh (Nat.le_of_lt (x.above y c (PySem.mem_of_lookup h)))
 ·unfold start;show _=N.length;rw[ar,ae,List.length_replicate];omega
theorem PV {CX:AO}{P:Program}{w:World}{K:PySem.W.Frag}{mg:fR}{base:Heap}{k:Nat}{f:Addr}{name a:Str}{d:Arguments}{body:List Stmt}{scope:Scope}{R kV m O c ct U:Value}{T od:Option Addr}
  {osl:Array (Option Value)} {N ps:aQ} {sp:Sp} (X:K.lookup f=some ⟨U,od,.func (PySem.W.fnOf name a d body scope R kV m O T c ct),osl⟩) (G:PySem.W.codeIn K c a=true) (S:aT N ps scope)
  (len:∀vs H Q E,sp vs H Q E->vs.length=ps.length)
  (h:∀(A:Around) (outer:List Env) (s:Shared) (H:Hp) (vs:List V) (Q:VK) (E:XK),eX k (A.deeper (envOfC a scope s.heap.objs.size f c))->sp vs H Q E ->
   ∃t,CO (cxOf CX P w K mg base N a scope f c A outer s H E) body t/\t {nx:=λ_ H'=>Q .non H',rt:=Q} (start N vs) H) :
  bW P w K mg base CX (k+1) f (PySem.W.fnOf name a d body scope R kV m O T c ct) ps sp:=by
 refine⟨len,λA outer s H args us vs Q E F l hb r j=>?_⟩;have hl:=len _ _ _ _ j;have KX:K.In s.heap:=l.mod.kin.keeps λb o e=>(l.bs b o e).1;have C:s.heap.NoLimit:=l.mod.nolimit.keeps λb o e=>(l.bs b o e).1;have g:∀y∈ps.zip us,scope.names.lookup y.1=some .local∨(scope.names.lookup y.1=some .cell/\((cellsFrom (s.heap.objs.size+1) scope.names []).lookup y.1).isSome=true):=λ⟨n,v⟩ Y=>by
  rcases S.par n (List.of_mem_zip Y).1 with q|q
  ·exact .inl q
  ·exact .inr ⟨q,PySem.W.cellsFrom_some _ _ _ (.inl q)⟩
 refine codeAny_call_function F.depth (KX _ _ X) rfl S.co S.gen rfl (PySem.W.codeRec_of KX G) (hb _ _ _ _ ?_);refine wpAny_newFunctionEnv_cells S.kind g λenv he L x=>?_;subst he;refine⟨C.keeps x.toInCall.keep,codeAny_func ?_⟩;obtain⟨t,Z,hq⟩:=h A outer s H vs Q E (F.deeper _) j;have I:aR (cxOf CX P w K mg base N a scope f c A outer s H E) [] (start N vs) H L:=xC S F.hd l hl r x;refine wpAny_mono (Z [] L (start N vs) H _ I hq) (λfl z i=>?_) λe z i=>i;have fin:∀{p:St} {H':Hp} {v:V} {u:Value},aR (cxOf CX P w K mg base N a scope f c A outer s H E) [] p H' z->aX v u->Q v H'->CE outer P w H s Q u z :=
  λ{p H' v u} J B q=>⟨v,H',J.os,J.bare,J.base,J.hok,B,q⟩
 cases fl with
 | ret u =>
  obtain⟨v,p,H',J,B,q⟩:=i;exact fin J B q
 | next =>
  obtain⟨p,H',J,q⟩:=i;exact fin (v:=V.non) (u:=Value.none) J rfl q
 | brk =>
  obtain⟨_,_,_,q⟩:=i;exact False.elim q
 | cont =>
  obtain⟨_,_,_,q⟩:=i;exact False.elim q
section
variable {X:Cx}{x:Str}{p pos:Pos}{e:Expr}{es:lR}{t:TA}{id T:String}{r:List V->Hp->VK->Prop}
noncomputable def tCB (r:List V->Hp->VK->Prop)(t:TA):TE:=λσ H Q=>t σ H λvs a=>r vs a Q
theorem aK (hc:cL X (.builtin id) r)(l:Gl X x)(j:X.mg x=none)(g:bootBuiltins x=some (.builtin id))(o:PA X (e::es) t)(i:x≠"__name__":=by decide)(c:(x == ("__debug__" : Str))=false:=by decide)
  (m:starEach (e::es) X.env=(false,eval e X.env)::starEach es X.env:=by rfl) (b:(backTo pos (starEach es X.env)).any (·.1)=false:=by rfl):PE X (.Call (.Name x p) (e::es) [] pos) (tCB r t):=by
 intro a s σ H Q I h;refine wpAny_Call_Name_kw (nY I l j g ?_ i c);exact PyProof.Rows.callWith_builtin1 (thn (o pos a s σ H _ I h) λus d ⟨vs,u,q,r1,f⟩=>hc a d σ u vs us Q q r1 f) m b
theorem bH (hc:cL X (.type T) r)(l:Gl X x)(j:X.mg x=none)(g:bootBuiltins x=some (.type T))(o:PA X (e::es) t)(i:x≠"__name__":=by decide)(c:(x == ("__debug__" : Str))=false:=by decide)
  (m:starEach (e::es) X.env=(false,eval e X.env)::starEach es X.env:=by rfl) (b:(backTo pos (starEach es X.env)).any (·.1)=false:=by rfl):PE X (.Call (.Name x p) (e::es) [] pos) (tCB r t):=by
 intro a s σ H Q I h;refine wpAny_Call_Name_kw (nY I l j g ?_ i c);exact PyProof.Rows.callWith_type1 (thn (o pos a s σ H _ I h) λus d ⟨vs,u,q,r1,f⟩=>hc a d σ u vs us Q q r1 f) m b
end
end L2
namespace HT
open PySem PyProof.Rows
noncomputable def lexLt:List Int->List Int->Bool
 | [],[]=>false
 | [],_::_=>true
 | _::_,[]=>false
 | x::xs,y::ys=>if x=y then lexLt xs ys else decide (x<y)
theorem lexLt_cons (x y:Int)(xs ys:List Int):lexLt (x::xs) (y::ys)=if x=y then lexLt xs ys else decide (x<y):=rfl
theorem eqAt_int (A:Around)(s:Shared)(a:Int)(t:Tok)(c:Int)(u:Tok):∃e,SeqAt.EqAt A s (.int a t) (.int c u) e/\(e=true ↔ a=c) :=
 ⟨(a == c),SeqAt.EqAt.int_int a t c u,by simp⟩
theorem rcLt_int (A:Around)(s:Shared)(a:Int)(t:Tok)(c:Int)(u:Tok)(prog:Program)(w:World)(E:cE)(Q:cE)(h:Q (.bool (decide (a<c))) s) :
  wpAny (model prog w) A (richCompare .Lt (.int a t) (.int c u)) Q E s :=
 (PyProof.Rows.lt_int h:wpAny (model prog w) A (compareOp .Lt (.int a t) (.int c u)) Q E s)
section
open PySem.SeqAt
open PySem.AutoSeq1 (wpAny_loadPart')
open PySem.MeetsSeq PySem.MeetsSeq2 PySem.MeetsSeq3
end
section
variable {prog:Program}{w:World}{A:Around}{E:cE}{s:Shared}
theorem cat_tup {t b:Addr}{vs a:bX}{Q:cE}(q:IsTup s.heap t vs.toArray)(r:IsTup s.heap b a.toArray)(m:vs≠[])
  (v:a=[]->Q (.ref t) s) (u:a≠[]->Q (.ref s.heap.objs.size) {s with heap:=s.heap.push {cls:=.type "tuple",data:=.seq (vs++a).toArray} })
  (hsz:vs.length+a.length<=sizeLine):wpAny (model prog w) A (binaryOp .Add (.ref t) (.ref b)) Q E s:=by
 obtain⟨⟨cls,o,data,l⟩,ho,hc,n,hd⟩:=id q;obtain⟨⟨p,h,j,d⟩,c,g,n2,f⟩:=id r;simp only at hc hd g f;subst hc hd g f;have e:vs.toArray++a.toArray=(vs++a).toArray:=by simp
 by_cases i:a=[]
 ·exact concat_meets ⟨_,ho,rfl⟩ ⟨_,c,rfl⟩ noFill_tuple_add seq_tuple_add PySem.F.slot_tuple_add PySem.F.entry_tuple_add (PySem.F.args_tuple_add_2 _ _)
   (tuple_addW1 t b vs.toArray a.toArray n n2 o h l d (by simpa using m) (by simp[i])) ⟨ho,c,v i⟩
 ·refine concat_meets ⟨_,ho,rfl⟩ ⟨_,c,rfl⟩ noFill_tuple_add seq_tuple_add PySem.F.slot_tuple_add PySem.F.entry_tuple_add (PySem.F.args_tuple_add_2 _ _)
   (tuple_addW2 t b vs.toArray a.toArray n n2 o h l d (by simpa using m) (by simpa using i) (by rw[ag,ag];exact hsz)) ⟨ho,c,?_⟩
  rw[e];exact u i
noncomputable def sIx (n d:Nat):Option Int->Nat
 | none=>d
 | some v=>if v<0 then(v+(n:Int)).toNat else min v.toNat n
theorem sIx_none (n d:Nat):sIx n d none=d:=rfl
theorem sIx_nat (n d k:Nat):sIx n d (some (k:Int))=min k n:=by show(if (k:Int)<0 then((k:Int)+(n:Int)).toNat else min (k:Int).toNat n)=min k n;rw[ab (by omega),ck]
theorem QQ (n d:Nat)(hd:d<=n)(o:Option Int):sIx n d o<=n:=by
 cases o with
 | none=>exact hd
 | some v =>
  show(if v<0 then(v+(n:Int)).toNat else min v.toNat n)<=n;by_cases a:v<0
  ·rw[ai a];omega
  ·rw[ab a];exact Nat.min_le_right _ _
theorem GD (v:Int)(n d:Nat):(if v<0 then max (v+(n:Int)) 0 else min v (n:Int))=((sIx n d (some v):Nat):Int):=by
 show(if v<0 then max (v+(n:Int)) 0 else min v (n:Int))=(((if v<0 then(v+(n:Int)).toNat else min v.toNat n):Nat):Int);by_cases a:v<0
 ·simp only[ai a];omega
 ·simp only[ab a];omega
theorem EN (a b:Option Int)(n:Nat):Builtin.Slice.sliceAdjust a b 1 (n:Int)=(((sIx n 0 a:Nat):Int),((sIx n n b:Nat):Int)):=by
 have c:¬((1:Int)<0):=by omega
 unfold Builtin.Slice.sliceAdjust;simp only[c,if_false];refine Prod.ext ?_ ?_
 ·cases a with
  | none=>rfl
  | some v=>exact GD v n 0
 ·cases b with
  | none=>rfl
  | some v=>exact GD v n n
theorem DF (i j:Nat):Builtin.Slice.slicePlaces (i:Int) (j:Int) 1=j - i:=by
 unfold Builtin.Slice.slicePlaces;have a:(1:Int) > 0:=by omega
 simp only[a,if_true,Int.ediv_one];split <;> omega
theorem slicePart_ {v:Value}{o:Option Int}{Q:Option Int->Shared->Prop}(p:IsPart v o)(h:Q o s):wpAny (model prog w) A (Builtin.Slice.slicePartIndex v) Q E s:=by
 cases p with
 | none=>exact slicePart_none h
 | int i t=>exact slicePart_int h
theorem qC {g:Addr}{f e:Value}{a c:Option Int}{n:Nat}{Q:Int×Int×Nat->Shared->Prop}(j:s.heap.IsSliceOf g f e .none)(pl:IsPart f a)(i:IsPart e c)
  (h:Q (((sIx n 0 a:Nat):Int),1,sIx n n c - sIx n 0 a) s):wpAny (model prog w) A (Builtin.Slice.sliceApplied (.ref g) (pure (n:Int))) Q E s:=by
 obtain⟨os,b,l,d⟩:=id j;unfold Builtin.Slice.sliceApplied Builtin.Slice.sliceFields;refine aa (aa (wpAny_field b d (x:=f) rfl (aa (wpAny_field b d (x:=e) rfl (aa (wpAny_field b d (x:=.none) rfl (al ?_)))))));refine aa (slicePart_none ?_);show wpAny _ _ (if ((1:Int) == 0)=true then _ else _) _ _ s;rw[ab (by decide)];refine aa (slicePart_ pl (aa (slicePart_ i (aa (al ?_)))));show wpAny _ _ (match Builtin.Slice.sliceAdjust a c 1 (n:Int)with|(a,c)=>pure (a,(1:Int),Builtin.Slice.slicePlaces a c 1)) _ _ s;rw[EN a c n];show wpAny _ _ (pure (((sIx n 0 a:Nat):Int),(1:Int),Builtin.Slice.slicePlaces ((sIx n 0 a:Nat):Int) ((sIx n n c:Nat):Int) 1)) _ _ s;rw[DF];exact al h
theorem J5 (xs:jK)(i k:Nat):((List.range k).filterMap λ(m:Nat)=>xs[((i:Int)+(m:Int) * 1).toNat]?).toArray=((xs.toList.drop i).take k).toArray:=by
 have e:(λ(m:Nat)=>xs[((i:Int)+(m:Int) * 1).toNat]?)=λm=>xs[i+m]?:=by
  funext m;have:((i:Int)+(m:Int) * 1).toNat=i+m:=by omega
  rw[this]
 rw[e];have:=pick_run xs i k;rw[List.filterMap_map]at this;have a:((λx=>xs[x]?) ∘ λx=>i+x)=λm=>xs[i+m]?:=rfl;rw[a]at this;rw[this]
theorem getItem_tuple_cut {t e:Addr}{items:jK}{o l:Value}{b c:Option Int}{Q:cE}(d:IsTup s.heap t items)(p:s.heap.IsSliceOf e o l .none)(pl:IsPart o b)(r:IsPart l c)
  (u:¬(sIx items.size 0 b=0/\sIx items.size items.size c=items.size))
  (h:Q (.ref s.heap.objs.size) {s with heap:=s.heap.push {cls:=.type "tuple",data:=.seq ((items.toList.drop (sIx items.size 0 b)).take (sIx items.size items.size c - sIx items.size 0 b)).toArray} })
  (hsz:items.size<=sizeLine):wpAny (model prog w) A (getItem (.ref t) (.ref e)) Q E s:=by
 have a:sizeOk (.seq ((items.toList.drop (sIx items.size 0 b)).take (sIx items.size items.size c - sIx items.size 0 b)).toArray):=by show((items.toList.drop (sIx items.size 0 b)).take (sIx items.size items.size c - sIx items.size 0 b)).toArray.size<=sizeLine;rw[ag,bq,bu,bo];omega
 have B:sIx items.size items.size c<=items.size:=QQ _ _ (ac _) c;obtain⟨os,f,i,v⟩:=id p;have j:s.TypeIs (.ref e) "slice":=⟨os,f,i⟩
 unfold getItem
 try with_reducible refine cf ?_
 first|refine aa (al ?_)|skip
 refine aa (wpAny_sequenceKey d.typeIs (by decide) ?_)
 refine aa (wpAny_callSpecial?_slot (name:=Str.ofString "__getitem__") d.typeIs PyProof.Rows.slot_tuple_getitem
  (wpAny_call_entry PyProof.Rows.slot_tuple_getitem d.typeIs entry_tuple_getitem ?_ (args_tuple_getitem _ _)))
 show wpAny _ _ (Builtin.Tuple.tupleItemsOf (.ref t) >>= _) _ _ s;refine aa (tupleItemsOf_ d ?_);refine aa (wpAny_typeOf j ?_);rw[ai (by decide)];refine aa (qC p pl r ?_);have g:¬((((sIx items.size 0 b:Nat):Int) == 0 && (1:Int) == 1 && (sIx items.size items.size c - sIx items.size 0 b) == items.size)=true):=by intro q;rw[Bool.and_eq_true,Bool.and_eq_true]at q;have z:((sIx items.size 0 b:Nat):Int)=0:=eq_of_beq q.1.1;have x:sIx items.size items.size c - sIx items.size 0 b=items.size:=eq_of_beq q.2;exact u ⟨by omega,by omega⟩
 show wpAny _ _ (if (((sIx items.size 0 b:Nat):Int) == 0 && (1:Int) == 1 && (sIx items.size items.size c - sIx items.size 0 b) == items.size)=true then _ else _) _ _ s;rw[ab g,J5]
 first
  | exact aa (m:=Builtin.Tuple.tupleExact _) (ca (al ⟨_,rfl,al h⟩) a)
  | exact aa (m:=Builtin.Tuple.tupleExact _) (ca (aa (al (al ⟨_,rfl,al h⟩))) a)
  | exact aa (aa (m:=Builtin.Tuple.tupleExact _) (ca (al (al ⟨_,rfl,al h⟩)) a))
  | exact aa (aa (m:=Builtin.Tuple.tupleExact _) (ca (al ⟨_,rfl,al h⟩) a))
end
end HT
namespace L2
open PySem PySem.Spec PyProof.Rows
noncomputable abbrev TO:=St->Hp->(Option Int->Hp->Prop)->Prop
noncomputable def PO (X:Cx)(e:Option Expr)(t:TO):Prop :=
 ∀(a:cY) (s:Shared) (σ:St) (H:Hp) (Q:Option Int->Hp->Prop),aR X a σ H s->t σ H Q ->
  wpAny (model X.prog X.w) X.A (evalPart e X.env) (λu b=>∃o H',aR X a σ H' b/\IsPart u o/\Q o H') X.xe s
noncomputable def tNoPart:TO:=λ_ H Q=>Q none H
noncomputable def tPart (t:TE):TO:=λσ H Q=>t σ H λx a=>∃i,x = .int i/\Q (some i) a
theorem uN {ns:List Int}:∀{us:bX},aY (ns.map V.int) us->IntsAre us ns:=by
 induction ns with
 | nil=>intro us r;rw[List.map_nil]at r;cases r;exact .nil
 | cons n ns b =>
  intro us r;rw[bc]at r;cases r with
  | cons r1 a =>
   obtain⟨t,e⟩:=r1;subst e;exact .cons n t (b a)
section
variable {X:Cx}{e:Expr}{te:TE}{lo hi:Option Expr}{tl th:TO}{pos p2:Pos}
theorem gF:PO X none tNoPart:=by intro a s σ H Q I h;rw[evalPart_none];exact al ⟨none,H,I,.none,h⟩
theorem fE (h:PE X e te):PO X (some e) (tPart te):=by intro a s σ H Q I c;rw[evalPart_some];refine thn (h a s σ H _ I c) λu g ⟨x,f,d,r1,b⟩=>?_;obtain⟨i,rfl,q⟩:=b;obtain⟨t,rfl⟩:=r1;exact⟨some i,f,d,.int i t,q⟩
noncomputable def SV (X:Cx)(r:V->Option Int->Option Int->Hp->VK->Prop):Prop :=
 ∀(a:cY) (s:Shared) (σ:St) (H:Hp) (x:V) (v vl vu:Value) (lo hi:Option Int) (sl:Addr) (Q:VK),aR X a σ H s->aX x v->s.heap.IsSliceOf sl vl vu .none->IsPart vl lo->IsPart vu hi->r x lo hi H Q ->
  ∃T id,typeLookup (.type T) "__getitem__" = pure (some (.builtin id))/\s.TypeIs v T/\wpAny (model X.prog X.w) X.A (getItem v (.ref sl)) (EP X a σ Q) X.xe s
noncomputable def tSl (r:V->Option Int->Option Int->Hp->VK->Prop)(b:TE)(tl a:TO):TE:=λσ H Q=>b σ H λx e=>tl σ e λl d=>a σ d λu c=>r x l u c Q
theorem fX {r:V->Option Int->Option Int->Hp->VK->Prop}(B:SV X r)(F:PE X e te)(C:PO X lo tl)(t:PO X hi th):PE X (.Subscript e (.Slice lo hi none p2) pos) (tSl r te tl th):=by intro a s σ H Q I h;refine Subscript_ (thn (F a s σ H _ I h) λv i ⟨x,P,N,r1,o⟩=>?_);refine wpAny_Slice (thn (C a i σ P _ N o) λf s2 ⟨l,O,L,pl,m⟩=>thn (t a s2 σ O _ L m) λd c ⟨u,g,K,p,j⟩=>?_);rw[evalPart_none];refine al ?_;have J:aR X a σ g {c with heap:=c.heap.push {cls:=.type "slice",data:=.fields #[f,d,.none]} }:=K.kept (t':=c.toks) λb R q=>af _ q;obtain⟨T,id,G,z,E⟩:=B a {c with heap:=c.heap.push {cls:=.type "slice",data:=.fields #[f,d,.none]} } σ g x v f d l u c.heap.objs.size Q J r1 (Heap.IsSliceOf.new ..) pl p j;show wpAny (model X.prog X.w) X.A (subscriptTail e (.Slice lo hi none p2) v (.ref c.heap.objs.size)) (EP X a σ Q) X.xe {c with heap:=c.heap.push {cls:=.type "slice",data:=.fields #[f,d,.none]} };exact tail_any (ops:=[.ref c.heap.objs.size,v]) z G E (by with_unfolding_all rfl)
noncomputable def cutV (xs:List V)(a b:Option Int):List V:=(xs.drop (HT.sIx xs.length 0 a)).take (HT.sIx xs.length xs.length b - HT.sIx xs.length 0 a)
theorem rQ (xs:List V)(a b:Option Int):(cutV xs a b).length<=xs.length:=by unfold cutV;rw[bq,bu];omega
noncomputable def rSlT (K:PySem.W.Frag):V->Option Int->Option Int->Hp->VK->Prop:=λx b c H Q=>∃a xs,x = .ref a/\iE K H a xs /\
 ¬(HT.sIx xs.length 0 b=0/\HT.sIx xs.length xs.length c=xs.length)/\∀p,H p=none->Q (.ref p) (upd H p (.tup (cutV xs b c)))
theorem QN:SV X (rSlT X.K):=by
 intro f s σ H x v u t d e w Q I i p pl j h;obtain⟨a,xs,rfl,l,m,q⟩:=h;cases i;obtain⟨its,r,g,hz⟩:=I.tuple l;have c:its.toArray.size=xs.length:=by rw[ag];exact r.length.symm
 refine⟨"tuple",_,PyProof.Rows.slot_tuple_getitem.lookup,g.typeIs,?_⟩;refine HT.getItem_tuple_cut g p pl j (by rw[c];exact m) ?_ (by rw[c];exact hz);rw[c];refine⟨.ref s.heap.objs.size,_,I.laid (t':=s.toks) (o:=.tup (cutV xs d e)) (λb z q=>af _ q) (ac _) ?_,rfl,q _ (I.hok.fresh (ac _))⟩;exact⟨ao (rQ xs d e) hz,_,(r.drop (HT.sIx xs.length 0 d)).take (HT.sIx xs.length xs.length e - HT.sIx xs.length 0 d),IsTup.new _ _⟩
noncomputable def rCatT (K:PySem.W.Frag):R2:=λx y H Q=>∃a b xs ys,x = .ref a/\y = .ref b/\iE K H a xs/\iE K H b ys/\xs≠[]/\xs.length+ys.length<=sizeLine /\
 (ys=[]->Q (.ref a) H)/\(ys≠[]->∀p,H p=none->Q (.ref p) (upd H p (.tup (xs++ys))))
theorem aY.nil_iff {xs:List V}{us:bX}(r:aY xs us):us=[] ↔ xs=[]:=by
 cases r with
 | nil=>simp
 | cons _ _=>simp
theorem NQ:jL X (binaryOp .Add) (rCatT X.K):=by intro d s σ H x y v u Q I f e h;obtain⟨a,b,xs,ys,rfl,rfl,r,p,m,hz,i,g⟩:=h;cases f;cases e;obtain⟨its,r1,l,_⟩:=I.tuple r;obtain⟨its2,c,j,_⟩:=I.tuple p;refine HT.cat_tup l j (λz=>m (r1.nil_iff.mp z)) (λz=>⟨.ref a,H,I,rfl,i (c.nil_iff.mp z)⟩) (λz=>?_) (by rw[←r1.length,←c.length];exact hz);refine⟨.ref s.heap.objs.size,_,I.laid (t':=s.toks) (o:=.tup (xs++ys)) (λb t q=>af _ q) (ac _) ?_,rfl,g (λw=>z (c.nil_iff.mpr w)) _ (I.hok.fresh (ac _))⟩;exact⟨by rw[ar];exact hz,_,r1.append c,IsTup.new _ _⟩
end
noncomputable def ixN (n:Nat)(i:Int):Option Nat:=if 0<=i then(if i<n then some i.toNat else none)else if -(n:Int)<=i then some (i+n).toNat else none
noncomputable def atI {α:Type}(xs:List α)(i:Int):Option α:=(ixN xs.length i).bind λj=>xs[j]?
theorem FW {n:Nat}{i:Int}{j:Nat}(h:ixN n i=some j):seqIndex? i n=some j/\j<n/\-(n:Int)<=i/\i<n:=by
 unfold ixN at h;by_cases b:0<=i
 ·rw[ai b]at h;by_cases a:i<n
  ·rw[ai a]at h;have e:i.toNat=j:=Option.some.inj h;exact⟨by rw[seqIndex_of b a,e],by omega,by omega,a⟩
  ·rw[ab a]at h;cases h
 ·rw[ab b]at h;by_cases a : -(n:Int)<=i
  ·rw[ai a]at h;have e:(i+n).toNat=j:=Option.some.inj h;exact⟨by rw[seqIndex_neg (by omega) a,e],by omega,a,by omega⟩
  ·rw[ab a]at h;cases h
theorem AH {α:Type}{xs:List α}{i:Int}{v:α}(h:atI xs i=some v):∃j,seqIndex? i xs.length=some j/\xs[j]?=some v/\j<xs.length/\-(xs.length:Int)<=i/\i<xs.length:=by
 unfold atI at h;cases e:ixN xs.length i with
 | none=>rw[e]at h;cases h
 | some j =>
  rw[e]at h;obtain⟨d,c,b,a⟩:=FW e;exact⟨j,d,h,c,b,a⟩
theorem GF {α:Type}{xs:List α}{j:Nat}{v:α}(h:xs[j]?=some v):atI xs (j:Int)=some v:=by
 have a:j<xs.length:=(cm.mp h).1;have e:ixN xs.length (j:Int)=some j:=by unfold ixN;rw[ai (by omega),ai (by omega)];simp
 unfold atI;rw[e];exact h
def O9 (b:Expr):Prop:=∀o i,subscripted b false o i=operate [o,i] (getItem o i)
noncomputable def MK (X:Cx)(r:R2):Prop :=
 ∀(b a:Expr) (pins:cY) (s:Shared) (σ:St) (H:Hp) (x y:V) (v u:Value) (Q:VK),aR X pins σ H s->aX x v->aX y u->r x y H Q ->
  subscripted a false v u=operate [v,u] (getItem v u)->wpAny (model X.prog X.w) X.A (subscriptTail b a v u) (EP X pins σ Q) X.xe s
noncomputable def TK (X:Cx)(id:String)(r:V->List V->Hp->VK->Prop):Prop :=
 ∀(a:cY) (s:Shared) (σ:St) (H:Hp) (x:V) (xs:List V) (v:Value) (us:bX) (Q:VK),aR X a σ H s->aX x v->aY xs us->r x xs H Q ->
  wpAny (model X.prog X.w) X.A (call (.builtin id) (v::us)) (EP X a σ Q) X.xe s
section
variable {X:Cx}{a b:Expr}{ta tb:TE}{pos:Pos}
theorem MK.or {r f:R2}(h:MK X r)(h':MK X f):MK X (λx y H Q=>r x y H Q∨f x y H Q):=by
 intro a b c s σ H x y v u Q I e d q g;rcases q with q|q
 ·exact h a b c s σ H x y v u Q I e d q g
 ·exact h' a b c s σ H x y v u Q I e d q g
theorem bQ {r:R2}(g:MK X r)(j:PE X a ta)(i:PE X b tb)(f:O9 b):PE X (.Subscript a b pos) (tOp r ta tb):=by intro c s σ H Q I h;exact Subscript_ (binT j i I h λv u s2 x y m l e d q=>g a b c s2 σ m x y v u Q l e d q (f _ _))
noncomputable def rIxL (K:PySem.W.Frag):R2:=λx y H Q=>∃p xs i v,x = .ref p/\y = .int i/\fQ K H p xs/\atI xs i=some v/\Q v H
noncomputable def rIxT (K:PySem.W.Frag):R2:=λx y H Q=>∃p xs i v,x = .ref p/\y = .int i/\iE K H p xs/\atI xs i=some v/\Q v H
noncomputable def rIxS:R2:=λx y H Q=>∃z i c,x = .str z/\y = .int i/\z.length<=sizeLine/\atI z.cps.toList i=some c/\Q (.str ⟨#[c]⟩) H
theorem ON:MK X (rIxL X.K):=by
 intro c d a s σ H x y v u Q I B A h g;obtain⟨p,xs,i,z,rfl,rfl,C,F,q⟩:=h;cases B;obtain⟨t,rfl⟩:=A;obtain⟨its,r,pl,hz⟩:=I.list C;obtain⟨j,b,L,O,J,G⟩:=AH F;obtain⟨w,m,e⟩:=r.get L;have E:=r.length;have N:=line63;have fin:EP X a σ Q w s:=⟨z,H,I,e,q⟩
 by_cases l:0<=i
 ·have f:i.toNat=j:=by rw[seqIndex_of l G]at b;exact Option.some.inj b
  exact item_listR pl.isList l (by omega) (by rw[f];simpa using m) fin g
 ·have f:(i+(its.toArray.size:Int)).toNat=j:=by rw[seqIndex_neg (by omega) J]at b;rw[ag,←E];exact Option.some.inj b
  exact subscriptTail_builtinR (x:=w) pl.isList.typeIs slot_list_getitem.lookup
   (wpAny_getItem_list_neg (Q:=λr o=>r=w/\EP X a σ Q r o) pl.isList (by omega) (by rw[ag] <;> omega) (by omega) (by rw[f];simpa using m) ⟨rfl,fin⟩) g
theorem RP:MK X (rIxT X.K):=by
 intro b c a s σ H x y v u Q I g f h l;obtain⟨p,xs,i,z,rfl,rfl,m,A,q⟩:=h;cases g;obtain⟨t,rfl⟩:=f;obtain⟨its,r,pl,hz⟩:=I.tuple m;obtain⟨j,C,B,L,J,G⟩:=AH A;obtain⟨w,E,d⟩:=r.get B;have o:=r.length;have F:=line63;have fin:EP X a σ Q w s:=⟨z,H,I,d,q⟩
 exact subscriptTail_builtinR (x:=w) pl.typeIs slot_tuple_getitem.lookup
  (getItem_tuple (j:=j) (Q:=λr e=>r=w/\EP X a σ Q r e) pl (by omega) (by omega) (by rw[ag,←o];exact C) (by simpa using E) ⟨rfl,fin⟩) l
theorem RQ:MK X rIxS:=by
 intro a b d s σ H x y v u Q I g f h l;obtain⟨z,i,c,rfl,rfl,hz,o,q⟩:=h;obtain⟨t,rfl⟩:=g;obtain⟨t',rfl⟩:=f;obtain⟨j,e,w,E,r,p⟩:=AH o;have m:z.cps.toList.length=z.length:=by simp[Str.length]
 rw[m]at e r p;have C:=line63
 exact tail_any (typeIs_str s z t) slot_str_getitem.lookup (getItem_str (c:=c) (by
  have B:decide (i < -(2 ^ 63:Int))=false:=bi (by omega);have A:decide (i ≥ 2 ^ 63)=false:=bi (by omega)
  rw[B,A,Bool.or_false]) (by rw[e];simpa using w) ⟨.str ⟨#[c]⟩,H,I.tok _,⟨_,rfl⟩,q⟩) l
noncomputable def rIx (K:PySem.W.Frag):R2:=λx y H Q=>rIxL K x y H Q∨rIxT K x y H Q∨rIxS x y H Q
theorem LE:MK X (rIx X.K):=ON.or (RP.or RQ)
theorem DX (its:bX)(n j:Nat)(u:Value):Obj.mapSeq (·.setIfInBounds j u) {cls:=.type "list",data:=.seq its.toArray n}={cls:=.type "list",data:=.seq (its.set j u).toArray n}:=by simp[Obj.mapSeq]
theorem aR.lst {a:cY}{σ:St}{H:Hp}{s:Shared}{p:Addr}{xs:List V}(I:aR X a σ H s)(h:H p=some (.lst xs)) :
  ∃(its:bX) (n:Nat),aY xs its/\s.heap.get? p=some {cls:=.type "list",data:=.seq its.toArray n}/\xs.length<=sizeLine:=by
 obtain⟨z,its,n,r,e⟩:=I.hok p _ h;exact⟨its,n,r,e,z⟩
theorem aR.lstUpd {a:cY}{σ:St}{H:Hp}{s:Shared}{p:Addr}{xs ys:List V}{its its':bX}{n c:Nat}{f:Obj->Obj}(I:aR X a σ H s)(h:H p=some (.lst xs))
  (ho:s.heap.get? p=some {cls:=.type "list",data:=.seq its.toArray n}) (d:f {cls:=.type "list",data:=.seq its.toArray n}={cls:=.type "list",data:=.seq its'.toArray c}) (r:aY ys its') (hz:ys.length<=sizeLine) (t:Nat) :
  aR X a σ (upd H p (.lst ys)) {s with heap:=s.heap.update p f,toks:=t}:=by
 have e:(s.heap.update p f).get? p=some {cls:=.type "list",data:=.seq its'.toArray c}:=by rw[Heap.get?_update_self f ho (by rw[d] <;> rfl),d]
 refine I.write (x:=p) (e:=p) (by rw[h];trivial) (.inl rfl) (λb u g q=>(Heap.get?_update_other _ _ (Ne.symm g)).trans q) ⟨_,e⟩ ?_;exact⟨hz,its',c,r,e⟩
noncomputable def rSetL:V->V->V->Hp->(Hp->Prop)->Prop:=λo i v H Q=>∃p xs k j,o = .ref p/\i = .int k/\H p=some (.lst xs)/\ixN xs.length k=some j/\Q (upd H p (.lst (xs.set j v)))
theorem AW:SX X rSetL:=by
 intro a s σ H o i v A B u Q I w x m h;obtain⟨p,xs,k,j,rfl,rfl,e,z,q⟩:=h;cases w;obtain⟨t,rfl⟩:=x;obtain⟨its,n,r,ho,hz⟩:=I.lst e;obtain⟨b,E,g,f⟩:=FW z;have c:=r.length;have C:=line63;have I':aR X a σ (upd H p (.lst (xs.set j v))) {s with heap:=s.heap.update p (Obj.mapSeq (·.setIfInBounds j u))} :=
  I.lstUpd e ho (DX its n j u) (r.set m j) (by rw[List.length_set];exact hz) s.toks
 by_cases l:0<=k
 ·have d:k.toNat=j:=by rw[seqIndex_of l f]at b;exact Option.some.inj b
  exact PySem.W.ki_setAt ho l (by omega) (by rw[ag,←c];exact f) (by rw[d];exact⟨_,I',q⟩)
 ·have d:(k+(its.toArray.size:Int)).toNat=j:=by rw[seqIndex_neg (by omega) g]at b;rw[ag,←c];exact Option.some.inj b
  exact PySem.W.ki_setBack ho (by omega) (by rw[ag,←c];exact g) (by omega) (by rw[d];exact⟨_,I',q⟩)
theorem yS (a b:Option Int)(n:Nat):(sliceBounds a b none n).1=((HT.sIx n 0 a:Nat):Int)/\(sliceBounds a b none n).2.1=((HT.sIx n n b:Nat):Int)/\(sliceBounds a b none n).2.2=1:=by
 refine⟨?_,?_,rfl⟩
 ·cases a with
  | none=>simp[sliceBounds,HT.sIx]
  | some i =>
   simp only[sliceBounds,HT.sIx,Option.getD_none,show(1:Int) > 0 by decide,if_true];by_cases h:i<0
   ·simp only[h,if_true] <;> omega
   ·simp only[h,if_false] <;> omega
 ·cases b with
  | none=>simp[sliceBounds,HT.sIx]
  | some i =>
   simp only[sliceBounds,HT.sIx,Option.getD_none,show(1:Int) > 0 by decide,if_true];by_cases h:i<0
   ·simp only[h,if_true] <;> omega
   ·simp only[h,if_false] <;> omega
theorem vR (its:bX)(a b:Option Int):slicePick its.toArray a b none=((its.drop (HT.sIx its.length 0 a)).take (HT.sIx its.length its.length b - HT.sIx its.length 0 a)).toArray:=by obtain⟨e,d,c⟩:=yS a b its.toArray.size;unfold slicePick;rw[e,d,c];simp only[sliceRange_one,pick_run,ag] <;> rfl
noncomputable def rSlL (K:PySem.W.Frag):V->Option Int->Option Int->Hp->VK->Prop:=λx b c H Q=>∃a xs,x = .ref a/\fQ K H a xs/\∀p,H p=none->Q (.ref p) (upd H p (.lst (cutV xs b c)))
theorem MU:SV X (rSlL X.K):=by intro f s σ H x v t p d e u Q I i m pl j h;obtain⟨a,xs,rfl,l,q⟩:=h;cases i;obtain⟨its,r,g,hz⟩:=I.list l;have c:=r.length;refine⟨"list",_,slot_list_getitem.lookup,g.isList.typeIs,?_⟩;refine wpAny_getItem_list_slice g.isList m pl j .none (by simp) ?_ (by rw[ag] <;> omega);rw[vR,←c];refine⟨.ref s.heap.objs.size,_,I.laid (t':=s.toks) (o:=.lst (cutV xs d e)) (λb w q=>af _ q) (ac _) ?_,rfl,q _ (I.hok.fresh (ac _))⟩;exact⟨ao (rQ xs d e) hz,_,0,(r.drop (HT.sIx xs.length 0 d)).take (HT.sIx xs.length xs.length e - HT.sIx xs.length 0 d),au _ rfl⟩
theorem zE:jL X (compareOp .NotIn) (λx y H Q=>∃i j,x = .str i/\y = .str j/\Q (.bl (!(!(Builtin.Str.occurrences j i 0 j.length 1).isEmpty))) H):=by intro a s σ H x y v u Q I c b h;obtain⟨i,j,rfl,rfl,q⟩:=h;obtain⟨t,rfl⟩:=c;obtain⟨t',rfl⟩:=b;exact notIn_str ⟨.bl _,H,I,rfl,q⟩
theorem lD:cL X (.builtin "len") (λxs H Q=>∃p ys,xs=[.ref p]/\(fQ X.K H p ys∨iE X.K H p ys)/\Q (.int ys.length) H):=by
 intro d s σ H xs us Q I r h;obtain⟨p,ys,rfl,b,q⟩:=h;obtain⟨u,rfl,e⟩:=vals1 r;cases e;have f:=line63;rcases b with b|b
 ·obtain⟨its,c,pl,hz⟩:=I.list b;have a:=c.length;exact Calls.call_len_list pl.isList (by simp only[ag] <;> omega) ⟨.int ys.length,H,I.tok _,⟨s.toks+1,by rw[ag,a]⟩,q⟩
 ·obtain⟨its,c,pl,hz⟩:=I.tuple b;have a:=c.length;exact len_tuple pl (by simp only[ag] <;> omega) ⟨.int ys.length,H,I.tok _,⟨s.toks+1,by rw[ag,a]⟩,q⟩
theorem AG:cL X (.builtin "len") (λxs H Q=>∃z,xs=[.str z]/\z.length<=sizeLine/\Q (.int z.length) H):=by intro a s σ H xs us Q I r h;obtain⟨z,rfl,hz,q⟩:=h;obtain⟨u,rfl,t,rfl⟩:=vals1 r;have b:=line63;exact len_str (by omega) ⟨.int z.length,H,I.tok _,⟨_,rfl⟩,q⟩
theorem AF:cL X (.type "list") (λxs H Q=>∃p ys,xs=[.ref p]/\(fQ X.K H p ys∨iE X.K H p ys)/\∀l,H l=none->Q (.ref l) (upd H l (.lst ys))):=by
 intro d s σ H xs us Q I r h;obtain⟨p,ys,rfl,f,q⟩:=h;obtain⟨u,rfl,j⟩:=vals1 r;cases j;have fin:∀(its:bX),aY ys its->ys.length<=sizeLine->∀(h':Heap) (c:Nat),(∀b i,s.heap.get? b=some i->h'.get? b=some i) ->
   h'.get? s.heap.objs.size=some {cls:=.type "list",dict:=none,data:=.seq its.toArray c,slots:=#[]}->EP X d σ Q (.ref s.heap.objs.size) {s with heap:=h'}:=λits a hz h' c kp e =>
  ⟨.ref s.heap.objs.size,_,I.laid (t':=s.toks) kp (ac _) (show bZ X.prog X.w _ h' _ (.lst ys)from⟨hz,its,c,a,e⟩),rfl,q _ (I.hok.fresh (ac _))⟩
 rcases f with f|f
 ·obtain⟨its,a,pl,hz⟩:=I.list f;have g:=a.length;obtain⟨o,ho,hc,n,hd⟩:=pl.isList;exact call_list_seq p (.inl rfl) ho hc hd (λh' c kp e=>fin its a hz h' c kp e) (by simp only[ag] <;> omega)
 ·obtain⟨its,a,pl,hz⟩:=I.tuple f;have g:=a.length;obtain⟨o,ho,hc,n,hd⟩:=pl;exact call_list_seq p (.inr rfl) ho hc hd (λh' c kp e=>fin its a hz h' c kp e) (by simp only[ag] <;> omega)
theorem vX:cL X (.type "tuple") (λxs H Q=>∃p ys,xs=[.ref p]/\((fQ X.K H p ys/\∀l,H l=none->Q (.ref l) (upd H l (.tup ys)))∨(iE X.K H p ys/\Q (.ref p) H))):=by
 intro a s σ H xs us Q I r h;obtain⟨p,ys,rfl,h⟩:=h;obtain⟨u,rfl,i⟩:=vals1 r;cases i;rcases h with⟨d,q⟩|⟨d,q⟩
 ·obtain⟨its,c,pl,hz⟩:=I.list d;have f:=c.length;refine call_tuple_list pl.isList (λh' kp=>?_) (by simp only[ag] <;> omega);have g:aR X a σ H {s with heap:=h'}:=I.kept (t':=s.toks) kp;have j:aR X a σ (upd H h'.objs.size (.tup ys)) {s with heap:=h'.push {cls:=.type "tuple",data:=.seq its.toArray} } :=
   g.laid (t':=s.toks) (λb o e=>af _ e) (ac _) (show bZ X.prog X.w _ _ _ (.tup ys)from⟨hz,its,c,IsTup.new _ _⟩)
  exact⟨.ref h'.objs.size,_,j,rfl,q _ (g.hok.fresh (ac _))⟩
 ·obtain⟨its,c,pl,hz⟩:=I.tuple d;exact call_tuple_same pl ⟨.ref p,H,I,rfl,q⟩
def tyV (K:PySem.W.Frag)(T:String)(x:V)(H:Hp):Prop:=match x with
 | .str _=>T="str"
 | .int _=>T="int"
 | .ref p=>(T="list"/\∃xs,fQ K H p xs)∨(T="tuple"/\∃o,K.lookup p=some o/\o.cls = .type "tuple"/\o.dict=none) ∨
   (T="dict"/\((∃a,H p=some (.dK a))∨∃a,H p=some (.dT a)))∨(T="set"/\∃S n,H p=some (.set S n))
 | _=>False
theorem JL {d:cY}{σ:St}{H:Hp}{s:Shared}{T:String}{x:V}{v:Value}(I:aR X d σ H s)(r:aX x v)(ty:tyV X.K T x H) :
  s.TypeIs v T/\∀a,v = .ref a->∃h,s.heap.get? a=some h/\h.dict=none:=by
 cases x with
 | str z =>
  obtain⟨t,rfl⟩:=r;cases (show T="str" from ty);exact⟨typeIs_str s z t,λ_ e=>nomatch e⟩
 | int i =>
  obtain⟨t,rfl⟩:=r;cases (show T="int" from ty);exact⟨typeIs_int s i t,λ_ e=>nomatch e⟩
 | ref p =>
  cases r;rcases ty with⟨rfl,xs,j⟩|⟨rfl,o,b,hc,hd⟩|⟨rfl,b⟩|⟨rfl,S,n,b⟩
  ·obtain⟨its,_,pl,_⟩:=I.list j;refine⟨pl.isList.typeIs,λa e=>?_⟩;cases e;obtain⟨o,n,e,c,hd,_⟩:=pl;exact⟨o,e,hd⟩
  ·refine⟨⟨o,I.kIn p o b,hc⟩,λa e=>?_⟩;cases e;exact⟨o,I.kIn _ o b,hd⟩
  ·have z:∃o,s.heap.get? p=some o/\o.ExactDict:=by
    rcases b with⟨f,b⟩|⟨f,b⟩
    ·obtain⟨_,_,_,_,o,_,_,e,ex,_⟩:=I.hok p _ b;exact⟨o,e,ex⟩
    ·obtain⟨_,_,_,_,o,_,_,e,ex,_⟩:=I.hok p _ b;exact⟨o,e,ex⟩
   obtain⟨o,e,ex⟩:=z;refine⟨⟨o,e,ex.1⟩,λa g=>?_⟩;cases g;exact⟨o,e,ex.2.1⟩
  ·obtain⟨o,_,_,_,e,ex,_⟩:=I.hok p _ b;refine⟨⟨o,e,ex.1⟩,λa g=>?_⟩;cases g;exact⟨o,e,ex.2.1⟩
 | _=>exact False.elim ty
noncomputable def tBM0 (K:PySem.W.Frag)(T:String)(r:V->List V->Hp->VK->Prop)(b:TE):TE:=λσ H Q=>b σ H λx a=>tyV K T x a/\r x [] a Q
noncomputable def tBM (K:PySem.W.Frag)(T:String)(r:V->List V->Hp->VK->Prop)(b:TE)(t:TA):TE:=λσ H Q=>b σ H λx a=>tyV K T x a/\t σ a λxs c=>r x xs c Q
variable {o e:Expr}{es:lR}{to:TE}{t:TA}{name:Str}{apos cpos:Pos}{T id:String}{r:V->List V->Hp->VK->Prop}
theorem zA (pa:PlainAttrs T)(slot:Slot T name id)(d:typeOf (.builtin id)=pure (.type "method_descriptor"))(i:TK X id r)(ho:PE X o to)
  (c:attributeBase o name X.env (eval o X.env)=eval o X.env:=by rfl) (b:(apos.endLine == cpos.line)=true:=by rfl):PE X (.Call (.Attribute o name apos) [] [] cpos) (tBM0 X.K T r to):=by
 intro a s σ H Q I h;refine wpAny_Call_method0_late c b (thn (ho a s σ H _ I h) λv f ⟨x,m,e,r1,ty,g⟩=>?_);obtain⟨l,j⟩:=JL e r1 ty;exact⟨T,id,pa,slot,d,l,j,Calls.callWith_builtin rfl (PySem.evalArgs_none (i a f σ m x [] v [] Q e r1 .nil g))⟩
theorem iT (pa:PlainAttrs T)(slot:Slot T name id)(g:typeOf (.builtin id)=pure (.type "method_descriptor"))(w:TK X id r)(ho:PE X o to)(z:PA X (e::es) t)
  (d:attributeBase o name X.env (eval o X.env)=eval o X.env:=by rfl)
  (f:((backTo cpos (starEach (e::es) X.env)).all (λx=>!x.1) && (backToKw cpos (keywordEach [] X.env)).all (λx=>x.1.isSome)
   && decide ((e::es).length+([]:List Keyword).length+(if ([]:List Keyword).isEmpty then 0 else 1)<30))=true:=by rfl)
  (c:(apos.endLine == cpos.line)=true:=by rfl) (u:starEach (e::es) X.env=(false,eval e X.env)::starEach es X.env:=by rfl) (b:(backTo cpos (starEach es X.env)).any (·.1)=false:=by rfl) :
  PE X (.Call (.Attribute o name apos) (e::es) [] cpos) (tBM X.K T r to t):=by
 intro a s σ H Q I h;refine wpAny_Call_method_late d f c rfl (thn (ho a s σ H _ I h) λv l ⟨x,F,j,r1,ty,q⟩=>?_);obtain⟨B,A⟩:=JL j r1 ty;refine⟨T,id,pa,slot,g,B,A,?_⟩;have i:=z cpos a l σ F _ j q;rw[u]at i⊢;refine Calls.callWith_builtin (by show(false || (backTo cpos (starEach es X.env)).any (·.1))=false;rw[b] <;> rfl) (Calls.evalArgs_plain ?_);exact thn i λus s2 ⟨vs,E,C,m,p⟩=>w a s2 σ E x vs v us Q C r1 m p
end
noncomputable def R5 (X:Cx)(id:String)(r:V->List V->Hp->VK->Prop):Prop :=
 ∀(a:cY) (s:Shared) (σ:St) (H:Hp) (x:V) (xs:List V) (v:Value) (us:bX) (Q:VK),aR X a σ H s->aX x v->aY xs us->r x xs H Q ->
  wpAny (model X.prog X.w) X.A (call (.builtin id) (v::us)) (EP X a σ Q) X.xe s
theorem aY.one {x:V}{us:bX}(h:aY [x] us):∃u,us=[u]/\aX x u:=by cases h with|cons r t=>cases t;exact⟨_,rfl,r⟩
theorem aY.two {x y:V}{us:bX}(h:aY [x,y] us):∃u v,us=[u,v]/\aX x u/\aX y v:=by cases h with|cons r t=>obtain⟨v,rfl,q⟩:=aY.one t;exact⟨_,_,rfl,r,q⟩
theorem aY.zero:∀{us:bX},aY [] us->us=[]
 | _,.nil=>rfl
theorem aY.dropLast {xs:List V}{us:bX}(h:aY xs us):aY xs.dropLast us.dropLast:=by
 induction h with
 | nil=>exact .nil
 | cons r t a =>
  cases t with
  | nil=>exact .nil
  | cons q t'=>exact .cons r a
theorem aY.eraseIdx:∀{xs:List V} {us:bX} (i:Nat),aY xs us->aY (xs.eraseIdx i) (us.eraseIdx i)
 | _,_,_,.nil=>.nil
 | _,_,0,.cons _ t=>t
 | _,_,i+1,.cons r t=>.cons r (aY.eraseIdx i t)
theorem aY.reverse {xs:List V}{us:bX}(h:aY xs us):aY xs.reverse us.reverse:=by
 induction h with
 | nil=>exact .nil
 | cons r t a=>rw[List.reverse_cons,List.reverse_cons];exact aY.append a (.cons r .nil)
theorem aY.rep {xs:List V}{us:bX}(h:aY xs us):∀k:Nat,aY (List.replicate k xs).flatten (List.replicate k us).flatten
 | 0=>.nil
 | k+1=>by rw[List.replicate_succ,List.replicate_succ,List.flatten_cons,List.flatten_cons];exact aY.append h (aY.rep h k)
theorem EE {α:Type}(l:List α):l.eraseIdx (l.length - 1)=l.dropLast:=by
 induction l with
 | nil=>rfl
 | cons a r c =>
  cases r with
  | nil=>rfl
  | cons b r =>
   have e:(a::b::r).length - 1=((b::r).length - 1)+1:=by have f:(a::b::r).length=r.length+2:=rfl;have d:(b::r).length=r.length+1:=rfl;omega
   rw[e,List.eraseIdx_cons_succ,c]
   all_goals rfl
theorem w6 {α:Type}:∀(l:List α) (i:Nat),(l.eraseIdx i).length<=l.length
 | [],_=>ac _
 | _::_,0=>Nat.le_succ _
 | _::r,i+1=>Nat.succ_le_succ (w6 r i)
theorem xH (its:bX):∀(k:Nat) (a:bX),
  List.foldl (λc b=>c++b) a.toArray (List.replicate k its.toArray)=(a++(List.replicate k its).flatten).toArray
 | 0,a=>by simp
 | k+1,a=>by
  have e:a.toArray++its.toArray=(a++its).toArray:=by simp
  have d:(a++its)++(List.replicate k its).flatten=a++(List.replicate (k+1) its).flatten:=by rw[List.replicate_succ,List.flatten_cons,cj]
  rw[←d,←xH its k (a++its),←e,List.replicate_succ,List.foldl_cons]
section
variable {X:Cx}{pins:cY}{σ:St}{H:Hp}{s:Shared}{l b:Addr}{xs ys zs:List V}
theorem aR.lset {its its':bX}{n:Nat}{f:jK->jK}{t':Nat}(I:aR X pins σ H s)(g:H l=some (.lst xs))
  (e:s.heap.get? l=some {cls:=.type "list",data:=.seq its.toArray n}) (c:f its.toArray=its'.toArray) (a:aY ys its') (hz:ys.length<=sizeLine) :
  aR X pins σ (upd H l (.lst ys)) {s with heap:=s.heap.update l (Obj.mapSeq f),toks:=t'}:=by
 have q:=PySem.IsL.update e f;rw[c]at q;refine I.write (x:=l) (e:=l) (by rw[g];exact trivial) (.inl rfl) (λh u d b=>(Heap.get?_update_other s.heap (Obj.mapSeq f) (Ne.symm d)).trans b) ⟨_,q⟩ ?_;exact⟨hz,its',_,a,q⟩
theorem aR.lnew {its:bX}{t':Nat}(I:aR X pins σ H s)(a:aY ys its)(hz:ys.length<=sizeLine) :
  aR X pins σ (upd H s.heap.objs.size (.lst ys)) {s with heap:=s.heap.push {cls:=.type "list",data:=.seq its.toArray},toks:=t'} :=
 I.laid (λ_ _ q=>af _ q) (ac _) ⟨hz,its,0,a,au _ rfl⟩
theorem aR.fresh (I:aR X pins σ H s):H s.heap.objs.size=none:=I.hok.fresh (ac _)
theorem aR.lstM (I:aR X pins σ H s)(a:H l=some (.lst xs)):xs.length<=sizeLine/\∃(its:bX) (n:Nat),aY xs its/\xs.length=its.length/\s.heap.get? l=some {cls:=.type "list",data:=.seq its.toArray n}:=by obtain⟨z,its,n,r,e⟩:=I.hok l _ a;exact⟨z,its,n,r,r.length,e⟩
theorem uB {n:Nat}(h:n<=sizeLine):Builtin.List.listTooLong n=false:=by unfold Builtin.List.listTooLong;exact bi (by omega)
end
section
variable {X:Cx}
noncomputable def rAppend:V->List V->Hp->VK->Prop:=λx vs H Q=>∃l xs y,x = .ref l/\vs=[y]/\H l=some (.lst xs)/\xs.length<sizeLine/\Q .non (upd H l (.lst (xs++[y])))
theorem eF:R5 X "list.append" rAppend:=by intro a s σ H x vs v us Q I c d h;obtain⟨l,xs,y,rfl,rfl,b,hz,q⟩:=h;cases c;obtain⟨u,rfl,f⟩:=d.one;obtain⟨z,its,n,r,g,e⟩:=I.lstM b;refine call_meets F.slot_list_append ⟨_,e,rfl⟩ F.entry_list_append (F.args_list_append_2 _ _) (PySem.list_append l its.toArray n u (by rw[ag];omega)) ⟨e,?_⟩;refine⟨.non,_,I.lset (its':=its++[u]) b e (by simp) (r.append (.cons f .nil)) ?_,rfl,q⟩;rw[ar,cg];omega
noncomputable def rExtend:V->List V->Hp->VK->Prop:=λx vs H Q=>∃l b xs a,x = .ref l/\vs=[.ref b]/\H l=some (.lst xs)/\H b=some (.lst a)/\xs.length+a.length<=sizeLine/\Q .non (upd H l (.lst (xs++a)))
theorem HN:R5 X "list.extend" rExtend:=by
 intro c s σ H x vs v us Q I f g h;obtain⟨l,b,xs,t,rfl,rfl,d,o,hz,q⟩:=h;cases f;obtain⟨u,rfl,i⟩:=g.one;cases i;obtain⟨z,its,n,r,A,e⟩:=I.lstM d;obtain⟨w,its2,n2,j,m,p⟩:=I.lstM o;have hsz:its.toArray.size+its2.toArray.size<=sizeLine:=by rw[ag,ag];omega
 have a:¬(!its.toArray.isEmpty && Builtin.List.listTooLong (its.toArray.size+its2.toArray.size))=true:=by rw[uB hsz,Bool.and_false];exact Bool.false_ne_true
 refine call_meets F.slot_list_extend ⟨_,e,rfl⟩ F.entry_list_extend (F.args_list_extend_2 _ _)
  (AutoSeq1.list_extend_list_list_0 l its.toArray n b its2.toArray n2 a (by rw[ag];omega) (by omega)) ⟨e,p,?_⟩
 refine⟨.non,_,I.lset (its':=its++its2) d e (by simp) (r.append j) ?_,rfl,q⟩;rw[ar];omega
noncomputable def rPop:V->List V->Hp->VK->Prop:=λx vs H Q=>∃l xs y,x = .ref l/\vs=[]/\H l=some (.lst xs)/\xs[xs.length - 1]?=some y/\Q y (upd H l (.lst xs.dropLast))
theorem DU:R5 X "list.pop" rPop:=by
 intro b s σ H x vs v us Q I d f h;obtain⟨l,xs,y,rfl,rfl,c,i,q⟩:=h;cases d;have a:=f.zero;subst a;obtain⟨z,its,n,r,m,e⟩:=I.lstM c;obtain⟨u,j,g⟩:=r.get i;have hy':its.toArray[its.toArray.size - 1]?=some u:=by show its.toArray[its.length - 1]?=some u;rw[←Array.getElem?_toList,←m];exact j
 refine call_meets F.slot_list_pop ⟨_,e,rfl⟩ F.entry_list_pop (F.args_list_pop_1 _) (MeetsSeq.list_pop_last l its.toArray n u hy' (by rw[ag];omega)) ⟨e,?_⟩;refine⟨y,_,I.lset (its':=its.dropLast) c e ?_ r.dropLast ?_,g,q⟩
 ·show its.toArray.eraseIdxIfInBounds (its.toArray.size - 1)=its.dropLast.toArray;rw[ag,List.eraseIdxIfInBounds_toArray,EE]
 ·rw[List.length_dropLast];omega
noncomputable def rPopAt:V->List V->Hp->VK->Prop:=λx vs H Q=>∃l xs i k y,x = .ref l/\vs=[.int i]/\H l=some (.lst xs)/\-(2 ^ 63)<=i/\i<2 ^ 63/\seqIndex? i xs.length=some k/\xs[k]?=some y/\Q y (upd H l (.lst (xs.eraseIdx k)))
theorem K5:R5 X "list.pop" rPopAt:=by
 intro b s σ H x vs v us Q I d f h;obtain⟨l,xs,i,k,y,rfl,rfl,c,B,A,p,j,q⟩:=h;cases d;obtain⟨u,rfl,g⟩:=f.one;obtain⟨t,rfl⟩:=g;obtain⟨z,its,n,r,o,e⟩:=I.lstM c;obtain⟨w,m,a⟩:=r.get j;refine call_meets F.slot_list_pop ⟨_,e,rfl⟩ F.entry_list_pop (F.args_list_pop_2 _ _)
  (MeetsSeq.list_pop_at l its.toArray n i t k w (fitsIndex_both B A) (by rw[ag,←o];exact p) (by rw[←Array.getElem?_toList];exact m) (by rw[ag];omega)) ⟨e,?_⟩
 refine⟨y,_,I.lset (its':=its.eraseIdx k) c e ?_ (r.eraseIdx k) ?_,a,q⟩
 ·show its.toArray.eraseIdxIfInBounds k=(its.eraseIdx k).toArray;rw[List.eraseIdxIfInBounds_toArray]
 ·have:=w6 xs k;omega
noncomputable def rCat:R2:=λx y H Q=>∃l b xs a,x = .ref l/\y = .ref b/\H l=some (.lst xs)/\H b=some (.lst a)/\xs.length+a.length<=sizeLine/\∀p,H p=none->Q (.ref p) (upd H p (.lst (xs++a)))
theorem Q5:jL X (binaryOp .Add) rCat:=by
 intro a s σ H x y v u Q I d c h;obtain⟨l,b,xs,p,rfl,rfl,i,j,hz,q⟩:=h;cases d;cases c;obtain⟨z,its,n,r,w,e⟩:=I.lstM i;obtain⟨t,its2,n2,f,g,o⟩:=I.lstM j;refine PySem.P.add_list e o ?_ (by rw[ag,ag];omega);have m:its.toArray++its2.toArray=(its++its2).toArray:=by simp
 rw[m];exact⟨.ref _,_,I.lnew (t':=s.toks) (r.append f) (by rw[ar];omega),rfl,q _ I.fresh⟩
noncomputable def rRep:R2:=λx y H Q=>∃l k xs,x = .ref l/\y = .int k/\H l=some (.lst xs)/\-(2 ^ 63)<=k/\k<2 ^ 63/\xs.length * k.toNat<=sizeLine /\
 ∀p,H p=none->Q (.ref p) (upd H p (.lst (List.replicate k.toNat xs).flatten))
theorem OJ {α:Type}(xs:List α)(k:Nat):(List.replicate k xs).flatten.length=k * xs.length:=by
 induction k with
 | zero=>simp
 | succ k a=>rw[List.replicate_succ,List.flatten_cons,ar,a,Nat.succ_mul,Nat.add_comm]
theorem qF:jL X (binaryOp .Mult) rRep:=by
 intro o s σ H x y v u Q I A w h;obtain⟨l,k,xs,rfl,rfl,C,G,E,hz,q⟩:=h;cases A;obtain⟨t,rfl⟩:=w;obtain⟨z,its,n,r,B,e⟩:=I.lstM C;have d:its.toArray.size * k.toNat<=sizeLine:=by rw[ag,←B];exact hz
 have g:¬its.toArray.size * k.toNat > (2 ^ 63 - 1) / 8:=by
  have:(sizeLine:Nat)<=(2 ^ 63 - 1) / 8:=by decide
  omega
 have f:¬(!Builtin.List.listFitsIndex k)=true:=by rw[fitsIndex_both G E];exact Bool.false_ne_true
 have b:¬Builtin.List.listTooLong (its.toArray.size * k.toNat)=true:=by rw[uB d];exact Bool.false_ne_true
 have c:List.foldl (λj i=>j++i) #[] (List.replicate (if its.toArray.isEmpty=true then 0 else k.toNat) its.toArray)=(List.replicate k.toNat its).flatten.toArray:=by
  have f0:∀m:Nat,List.foldl (λj i=>j++i) #[] (List.replicate m its.toArray)=(List.replicate m its).flatten.toArray:=λm=>by have:=xH its m [];rw[List.nil_append]at this;exact this
  rw[f0];cases its with
  | nil=>simp
  | cons a J=>rw[ab (by simp)]
 refine wpAny_binaryOp_repeat_ref (T:="list") (U:="int") (by decide) ⟨_,e,rfl⟩ (λp=>typeIs_int p k t) noFill_list_mul F.fills_int_mul F.slot_int_rmul repeat_list F.slot_int_index.lookup
  (call_meets F.slot_int_rmul (typeIs_int s k t) F.entry_int_rmul (F.args_int_rmul_2 _ _) (int___rmul___int_list k t l its.toArray n)
   ⟨e,rfl,⟨_,e,rfl⟩,call_meets F.slot_list_mul ⟨_,e,rfl⟩ F.entry_list_mul (F.args_list_mul_2 _ _) (AutoListH.list___mul___list_int_3 l its.toArray n k t f g b) ⟨e,?_⟩⟩)
 rw[c];exact⟨.ref _,_,I.lnew (t':=s.toks) (r.rep k.toNat) (by rw[OJ,Nat.mul_comm];exact hz),rfl,q _ I.fresh⟩
end
end L2
namespace Att
open PySem PySem.W PySem.Calls PyProof.Rows
theorem sF {P:Params}{h:Heap}:∀(ns:List Int) (vs:bX),WellAll P h vs (ns.map WData.int)->IntsAre vs ns:=by
 intro ns
 induction ns with
 | nil =>
  intro vs w;rw[List.map_nil]at w;cases w;exact .nil
 | cons n ns c =>
  intro vs w;rw[bc]at w;cases w with
  | cons a b =>
   cases a;exact .cons _ _ (c _ b)
theorem GX {l:OpenLaw}{n:Nat}(s:l.most=some n){P:Params}{h:Heap}{args:List WData}{b:bX}
  (c:l.row.toRowW.claim.pre args=true) (j:WellAll P h b args) :
  ∃a vs ns,b=[Value.ref a]/\args=[WData.list (ns.map WData.int)]/\h.get? a=some {cls:=.type "list",data:=.seq vs.toArray}/\IntsAre vs ns/\ns.length<=n:=by
 have m:WShape.hasAll [] args [.list .int]=true:=(pre_splitW c).1;have hc:l.pre.holds [] {args:=args}=true:=(pre_splitW c).2;obtain⟨d,r,rfl,v,u⟩:=hasAllW_cons m;obtain rfl:=hasAllW_nil u;obtain⟨xs,rfl,t⟩:=hasW_list v;obtain⟨ns,rfl⟩:=items_int t;have e:ns.length<=n:=by
  unfold OpenLaw.pre at hc;have i:(WTm.not (.lt (.lit (.int (n:Int))) (.len (.arg 0)))).holds [] {args:=[.list (ns.map .int)]}=true:=by have i:=(holds_andW hc).1;rw[s]at i;exact i
  have g:=condW_of i (w_not (w_lt w_lit (w_len_list (w_arg rfl))));rw[ae]at g;refine Nat.le_of_not_lt λq=>?_;have q':(n:Int)<((ns.length:Nat):Int):=by omega
  first
   | (rw[bg q']at g;exact absurd g (by decide))
   | (simp at g;omega)
 cases j with
 | cons p o =>
  cases o;cases p with
  | list ho f=>exact⟨_,_,ns,rfl,rfl,ho,sF ns _ f,e⟩
theorem G3 (l:OpenLaw)(args:List WData):l.row.toRowW.claim.post args (.bool true) args=true :=
 postW_of (r:=l.row.toRowW) (X:=(true == true))
  (show WShape.has [] (.bool true) .bool=true by first|rfl|decide|simp[WShape.has,WShape.arms,WShape.armsAll])
  (show(WTm.eq .res (.lit (.bool true))).value [] {args:=args,res:=some (.bool true),after:=args}=some (.bool (true == true))from w_eq_bool (w_res rfl) w_lit) rfl
theorem CC {l:OpenLaw}{n:Nat}{q:Program}{loose:aQ}{XP:(fR)->Heap->Prop}{YP:World->Heap->Prop}{d:DefRec}
  (H:l.most=some n) (x:d.params.defaults=[])
  (call:∀(w:World) (s₀ b:Shared) (mg t:fR) (j:Addr) (o:Obj) (s p e:Value) (a:Addr) (vs:bX) (ns:List Int),
   Ground q loose [] XP w s₀ mg t b.heap->YP w b.heap ->
   b.heap.get? j=some o->o.data = .func (docDef d.name d.params d.body d.scope s p e)->b.heap.CodeRec p d.name->mg d.name=some (.ref j) ->
   b.heap.get? a=some {cls:=.type "list",data:=.seq vs.toArray}->IntsAre vs ns->ns.length<=n->b.gens = #[] ->
   codeAny (model l.prog w) callerA (.call (.ref j) ⟨[.ref a],[]⟩) (λr m=>r = .ok (.ret (.bool true))/\OldK b.heap m.heap/\m.os=b.os/\AllBare m.gens) b) :
  WalkO q loose XP YP l.row.toRowW d [] (λf vs=>PySem.call f vs):=by
 intro w s₀ b mg t G Y j o s p e P kV ho hd z C v K args A as g B E u J;obtain rfl:P = .none:=Dflts.none C x;obtain rfl:kV = .none:=Dflts.noKw C;obtain⟨a,vs,ns,rfl,rfl,h,c,i⟩:=GX H g u;refine enter_call (codeAny_mono (call w s₀ b mg t j o s p e a vs ns G Y ho (fd_plain hd) z v h c i K) λr m F=>?_);obtain⟨rfl,O,N,L⟩:=F;exact⟨.inl ⟨.bool true,.bool true,[],rfl,λ_=>rfl,.bool true,G3 l _,λ_=>⟨List.Pairwise.nil,λ_ I=>(nomatch I)⟩⟩,O,N,L⟩
end Att
namespace L2
open PySem PySem.Spec PyProof.Rows
theorem wE:∀{vs:bX} {ns:List Int},IntsAre vs ns->aY (ns.map V.int) vs
 | _,_,.nil=>.nil
 | _,_,.cons n t h=>.cons ⟨t,rfl⟩ (wE h)
noncomputable abbrev bA:AO:=λ_ _ _ _ _ _=>False
noncomputable abbrev E0:XK:=λ_ _ _=>False
theorem pass0 {X:Cx}:jY bA X E0:=λ_ _ _ _ _ _ _ h=>h.elim
structure fZ (K:PySem.W.Frag)(x qual:Str)(st:Stmt)(f:Addr)(fd:FuncData):Prop where
 ex:∃(oc:Value) (od:Option Addr) (kV doc pm:Value) (an:Option Addr) (cdv ct:Value) (osl:Array (Option Value)),
  fd=PySem.W.fnOf x qual (aO st) (aN st) (aD st) .none kV doc pm an cdv ct/\K.lookup f=some ⟨oc,od,.func fd,osl⟩/\PySem.W.codeIn K cdv qual=true
 kp:PySem.W.keepIn K (.ref f)=true
section
variable {P:Program}{w:World}{K:PySem.W.Frag}{mg:fR}{base:Heap}
theorem fZ.ok {x a:Str}{st:Stmt}{f:Addr}{g:FuncData}{N ps:aQ}{k:Nat}{sp:Sp}(F:fZ K x a st f g)(S:aT N ps (aD st))(len:∀vs H Q E,sp vs H Q E->vs.length=ps.length)
  (c:∀(b:Value) (A:Around) (outer:List Env) (s:Shared) (H:Hp) (vs:List V) (Q:VK) (E:XK),eX k (A.deeper (envOfC a (aD st) s.heap.objs.size f b))->sp vs H Q E ->
   ∃t,CO (cxOf bA P w K mg base N a (aD st) f b A outer s H E).nox (aN st) t/\t {nx:=λ_ H'=>Q .non H',rt:=Q} (start N vs) H):bW P w K mg base bA (k+1) f g ps sp:=by
 obtain⟨o,od,kV,l,m,p,b,ct,osl,rfl,i,e⟩:=F.ex;refine PV i e S len λA outer s H vs Q E j d=>?_;obtain⟨t,h,q⟩:=c b A outer s H vs Q E j d;exact⟨t,h.nox,q⟩
theorem fZ.binds {x a:Str}{st:Stmt}{f:Addr}{g:FuncData}{ps:aQ}(F:fZ K x a st f g)
  (h:∀(kV b d:Value) (e:Option Addr) (c ct:Value) (us:bX),us.length=ps.length->bindArgs (PySem.W.fnOf x a (aO st) (aN st) (aD st) .none kV b d e c ct) ⟨us,[]⟩=pure (ps.zip us)):gA K g ps []:=by
 obtain⟨j,od,kV,b,d,e,c,ct,osl,rfl,l,i⟩:=F.ex;exact .all (h kV b d e c ct)
theorem bB {x a:Str}{st:Stmt}{f:Addr}{h:Value}{od g:Option Addr}{osl:Array (Option Value)}{kV d e b ct:Value}(l:K.lookup f=some ⟨h,od,.func (PySem.W.fnOf x a (aO st) (aN st) (aD st) .none kV d e g b ct),osl⟩)
  (c:PySem.W.codeIn K b a=true) (k:PySem.W.keepIn K (.ref f)=true):fZ K x a st f (PySem.W.fnOf x a (aO st) (aN st) (aD st) .none kV d e g b ct):=⟨⟨h,od,kV,d,e,g,b,ct,osl,rfl,l,c⟩,k⟩
end
section
variable {X:Cx}
theorem pv (i:Nat){x:Str}{a:Pos}(d:X.N[i]?=some x:=by rfl)(c:ST X.env.scope x:=by first|exact Or.inl rfl|exact Or.inr (Or.inl rfl)|exact Or.inr (Or.inr rfl))(hd:(x == ("__debug__" : Str))=false:=by decide)
  (b:(x == ("__classdict__" : Str))=false:=by decide):PE X (.Name x a) (tVar i):=J9 d c hd b
end
theorem ite2 {c A B:Prop}[Decidable c](b:c->A)(a:¬c->B):if c then A else B:=by
 by_cases h:c
 ·rw[ai h];exact b h
 ·rw[ab h];exact a h
def aH (H H':Hp):Prop:=∀b o,H b=some o->H' b=some o
theorem aH.refl (H:Hp):aH H H:=λ_ _ h=>h
theorem aH.trans {H e d:Hp}(a:aH H e)(b:aH e d):aH H d:=λc o h=>b c o (a c o h)
theorem aH.free {H H':Hp}(e:aH H H'){l:Addr}(h:H' l=Option.none):H l=Option.none:=by
 cases q:H l with
 | none=>rfl
 | some o =>
  rw[e l o q]at h;cases h
theorem aH.seq {K:PySem.W.Frag}{H H':Hp}{a:Addr}{xs:List V}(e:aH H H')(h:fQ K H a xs):fQ K H' a xs:=by
 rcases h with(h|⟨o,h⟩)|h
 ·exact .inl (.inl (e _ _ h))
 ·exact .inl (.inr ⟨o,e _ _ h⟩)
 ·exact .inr h
section
variable {κ:Type}[DecidableEq κ]
noncomputable def valV (a:List (κ×V))(k:κ):Option V:=(a.find? λb=>decide (b.1=k)).map (·.2)
noncomputable def putK (a:List (κ×V))(k:κ)(v:V):List (κ×V) :=
 if (a.any λb=>decide (b.1=k))=true then a.map (λb=>if b.1=k then(b.1,v)else b)else a++[(k,v)]
theorem kC {p:κ×V}{r:List (κ×V)}{k:κ}(e:p.1=k):valV (p::r) k=some p.2:=by simp[valV,List.find?_cons,e]
theorem kD {p:κ×V}{r:List (κ×V)}{k:κ}(e:¬p.1=k):valV (p::r) k=valV r k:=by simp[valV,List.find?_cons,e]
theorem sZ (k:κ):∀a:List (κ×V),(a.any λb=>decide (b.1=k))=(valV a k).isSome
 | []=>rfl
 | p::r=>by
  rw[List.any_cons];by_cases e:p.1=k
  ·simp only[kC e,bg e,Bool.true_or,Option.isSome_some]
  ·rw[kD e,bi e,Bool.false_or];exact sZ k r
theorem jR (a:List (κ×V))(k:κ)(v:V):(putK a k v).length<=a.length+1:=by
 unfold putK;split
 ·rw[ae];omega
 ·rw[ar,aq,List.length_nil];omega
theorem putK_new {a:List (κ×V)}{k:κ}(v:V)(h:valV a k=none):putK a k v=a++[(k,v)]:=by unfold putK;rw[sZ,h];exact ab (by decide)
theorem lF.isSome_eq {o:Option V}{u:Option Value}(r:lF o u):o.isSome=u.isSome:=by
 cases o with
 | none=>cases u with
  | none=>rfl
  | some _=>exact(show False from r).elim
 | some _=>cases u with
  | none=>exact(show False from r).elim
  | some _=>rfl
theorem lF.getD {o:Option V}{u:Option Value}{d:V}{d':Value}(r:lF o u)(a:aX d d'):aX (o.getD d) (u.getD d'):=by
 cases o with
 | none=>cases u with
  | none=>exact a
  | some _=>exact(show False from r).elim
 | some _=>cases u with
  | none=>exact(show False from r).elim
  | some _=>exact r
theorem KV.val {a:List (κ×V)}{vs:List (κ×Value)}(r:KV a vs)(k:κ):lF (valV a k) (valueAt vs k):=by
 unfold KV at r
 induction r with
 | nil=>exact True.intro
 | @cons p q ps c h t f =>
  obtain⟨d,g⟩:=h;by_cases e:p.1=k
  ·have e':q.1=k:=d.symm.trans e;have b:valueAt (q::c) k=some q.2:=by simp[valueAt,List.find?_cons,e']
   rw[kC e,b];exact g
  ·have e':¬q.1=k:=λz=>e (d.trans z);have b:valueAt (q::c) k=valueAt c k:=by simp[valueAt,List.find?_cons,e']
   rw[kD e,b];exact f
theorem KV.any {a:List (κ×V)}{vs:List (κ×Value)}(r:KV a vs)(k:κ):(a.any λb=>decide (b.1=k))=vs.any λb=>decide (b.1=k):=by
 unfold KV at r
 induction r with
 | nil=>rfl
 | cons h t c=>rw[List.any_cons,List.any_cons,c,h.1]
theorem KV.repl {b:List (κ×V)}{vs:List (κ×Value)}(r:KV b vs)(k:κ){y:V}{u:Value}(d:aX y u) :
  KV (b.map λa=>if a.1=k then(a.1,y)else a) (vs.map λa=>if a.1=k then(a.1,u)else a):=by
 unfold KV at r⊢
 induction r with
 | nil=>exact .nil
 | @cons p q ps i h t f =>
  rw[bc,bc];refine .cons ?_ f;obtain⟨c,g⟩:=h;by_cases e:p.1=k
  ·rw[ai e,ai (c.symm.trans e)];exact⟨c,d⟩
  ·rw[ab e,ab (λz=>e (c.trans z))];exact⟨c,g⟩
theorem KV.put {a:List (κ×V)}{vs:List (κ×Value)}(r:KV a vs)(k:κ){y:V}{u:Value}(b:aX y u):KV (putK a k y) (stored vs k u):=by
 unfold putK stored;rw[r.any k];by_cases e:(vs.any λc=>decide (c.1=k))=true
 ·rw[ai e,ai e];exact r.repl k b
 ·rw[ab e,ab e];exact Paired.snoc r ⟨rfl,b⟩
theorem KV.length {a:List (κ×V)}{vs:List (κ×Value)}(r:KV a vs):a.length=vs.length:=Paired.length r
end
theorem nL {P:Program}{w:World}{k:bE}{u:Value}(r:aX (kV k) u):(bK P w).is k u=true:=by
 cases k with
 | inl i=>obtain⟨t,e⟩:=(show ∃t,u=Value.int i t from r);subst e;exact BG P w i t
 | inr x=>obtain⟨t,e⟩:=(show ∃t,u=Value.str x t from r);subst e;exact BF P w x t
theorem xB {P:Program}{w:World}:∀{ks:List bE} {us:bX},aY (ks.map kV) us->ItemsAre (bK P w) ks us
 | [],_,r=>by rw[List.map_nil]at r;cases r;exact .nil
 | k::ks,_,r=>by
  rw[bc]at r;cases r with
  | cons h t=>exact .cons (nL h) (xB t)
noncomputable abbrev KT (H:Hp):List (List bE×V)->List (List bE×Addr×Value)->Prop:=Paired λp q=>p.1=q.1/\H q.2.1=some (.tup (p.1.map kV))/\aX p.2 q.2.2
theorem KT.val {H:Hp}{a:List (List bE×V)}{xs:List (List bE×Addr×Value)}(r:KT H a xs)(k:List bE):lF (valV a k) ((atKey xs k).map (·.2)):=by
 induction r with
 | nil=>exact True.intro
 | @cons p q ps c h t f =>
  obtain⟨d,_,g⟩:=h;by_cases e:p.1=k
  ·have e':q.1=k:=d.symm.trans e;have b:atKey (q::c) k=some q.2:=by simp[atKey,List.find?_cons,e']
   rw[kC e,b];exact g
  ·have e':¬q.1=k:=λz=>e (d.trans z);have b:atKey (q::c) k=atKey c k:=by simp[atKey,List.find?_cons,e']
   rw[kD e,b];exact f
theorem KT.repl {H:Hp}{a:List (List bE×V)}{xs:List (List bE×Addr×Value)}(r:KT H a xs)(k:List bE){y:V}{u:Value}(f:aX y u) :
  KT H (a.map λc=>if c.1=k then(c.1,y)else c) (xs.map (putAt k u)):=by
 induction r with
 | nil=>exact .nil
 | @cons p q ps j h t g =>
  rw[bc,bc];refine .cons ?_ g;obtain⟨b,d,i⟩:=h;unfold putAt;by_cases e:p.1=k
  ·rw[ai e,ai (b.symm.trans e)];exact⟨b,d,f⟩
  ·rw[ab e,ab (λz=>e (b.trans z))];exact⟨b,d,i⟩
theorem KT.put {H:Hp}{a:List (List bE×V)}{xs:List (List bE×Addr×Value)}(r:KT H a xs)(k:List bE){b:Addr}{y:V}{u:Value}(f:H b=some (.tup (k.map kV)))(c:aX y u) :
  KT H (putK a k y) (storedH xs k b u):=by
 have e:(a.any λd=>decide (d.1=k))=(atKey xs k).isSome:=by rw[sZ,(r.val k).isSome_eq,Option.isSome_map]
 unfold putK storedH;rw[e];by_cases q:(atKey xs k).isSome=true
 ·rw[ai q,ai q];exact r.repl k c
 ·rw[ab q,ab q];exact Paired.snoc r ⟨rfl,f,c⟩
theorem KT.keeps {H H':Hp}{a:List (List bE×V)}{xs:List (List bE×Addr×Value)}(r:KT H a xs)(c:∀b ys,H b=some (.tup ys)->H' b=some (.tup ys)):KT H' a xs :=
 Paired.mapP r λ_ _ z=>⟨z.1,c _ _ z.2.1,z.2.2⟩
section
variable {P:Program}{w:World}{H:Hp}{h:Heap}{a:Addr}
theorem PM {u:HO}(ok:hV P w H h)(e:Rd H a u):bZ P w H h a u:=e.ok ok
theorem rP {b:List (bE×V)}(ok:hV P w H h)(e:Rd H a (.dK b)):b.length<=sizeLine/\(a == sysModules)=false/\∃vs,KV b vs/\h.DictOf (bK P w) a vs :=
 show bZ P w H h a (.dK b)from PM ok e
theorem xM {b:List (bE×V)}(ok:hV P w H h)(e:H a=some (.dK b)):b.length<=sizeLine/\(a == sysModules)=false/\∃vs,KV b vs/\h.DictOf (bK P w) a vs:=rP ok (.inl e)
theorem qO {ks:List bE}(ok:hV P w H h)(e:H a=some (.tup (ks.map kV))):(tupleKind (bK P w)).is h ks a:=by
 obtain⟨_,its,r,o,d,c,n,b⟩:=(show bZ P w H h a (.tup (ks.map kV))from ok a _ e)
 exact⟨o,its.toArray,n,d,c,b,by simpa using xB r⟩
theorem uT {b:List (List bE×V)}(ok:hV P w H h)(e:Rd H a (.dT b)):b.length<=sizeLine/\(a == sysModules)=false /\
  ∃xs,KT H b xs/\h.DictOfH (tupleKind (bK P w)) a xs:=by
 obtain⟨z,y,xs,r,o,v,A,u,s,j,i,g⟩:=(show bZ P w H h a (.dT b)from PM ok e)
 refine⟨z,y,xs,r,o,v,A,u,s,j,i,λx c=>?_,g⟩;have all:∀{l:List (List bE×V)} {m:List (List bE×Addr×Value)},KT H l m->∀x∈m,(tupleKind (bK P w)).is h x.1 x.2.1:=by
  intro l m q
  induction q with
  | nil=>intro x c;exact nomatch c
  | @cons p q ps B d t f =>
   intro x c;rcases cr.mp c with e|c
   ·subst e;exact qO ok (by rw[←d.1];exact d.2.1)
   ·exact f x c
 exact all r x c
theorem SO {b:List (List bE×V)}(ok:hV P w H h)(e:H a=some (.dT b)):b.length<=sizeLine/\(a == sysModules)=false /\
  ∃xs,KT H b xs/\h.DictOfH (tupleKind (bK P w)) a xs:=uT ok (.inl e)
end
noncomputable def kN (H:Hp)(a:Addr)(y:V)(r:Option V):Prop :=
 (∃c k,Rd H a (.dK c)/\y=kV k/\r=valV c k)∨∃c k b,Rd H a (.dT c)/\y = .ref b/\H b=some (.tup (k.map kV))/\r=valV c k
noncomputable def ET (H:Hp)(a:Addr)(y v:V)(H':Hp):Prop :=
 (∃c k,H a=some (.dK c)/\y=kV k/\c.length<sizeLine/\H'=upd H a (.dK (putK c k v))) ∨
 ∃c k b,H a=some (.dT c)/\y = .ref b/\H b=some (.tup (k.map kV))/\c.length<sizeLine/\H'=upd H a (.dT (putK c k v))
theorem kN.k {H:Hp}{a:Addr}{b:List (bE×V)}{k:bE}(e:H a=some (.dK b)):kN H a (kV k) (valV b k):=.inl ⟨b,k,.inl e,rfl,rfl⟩
theorem ET.k {H:Hp}{a:Addr}{b:List (bE×V)}{k:bE}{v:V}(e:H a=some (.dK b))(c:b.length<sizeLine):ET H a (kV k) v (upd H a (.dK (putK b k v))):=.inl ⟨b,k,e,rfl,c,rfl⟩
section
variable {X:Cx}{pins:cY}{σ:St}{H:Hp}{s:Shared}{a:Addr}{y v:V}{u r:Value}{o:Option V}{A:Around}{E:cE}
theorem aR.big (I:aR X pins σ H s):sysModules<s.heap.objs.size:=by have h:mainGlobals<s.heap.objs.size:=(I.mod.glob.keeps I.bk).lt;exact Nat.lt_trans (by decide) h
theorem IP {Q:cE}(B:A.units+1<cLine)(I:aR X pins σ H s)(g:kN H a y (some v))(x:aX y u)(h:∀f t,aR X pins σ H t->aX v f->Q f t) :
  wpAny (model X.prog X.w) A (getItem (.ref a) u) Q E s:=by
 rcases g with⟨i,k,e,q,l⟩|⟨i,k,b,e,q,F,l⟩
 ·subst q;obtain⟨z,hd,vs,d,r⟩:=rP I.hok e;obtain⟨f,j,c⟩:=lF.some_of (v:=v) (o:=valueAt vs k) (by rw[l];exact d.val k);exact wpAny_getItem_of (nL x) r.mapOf j (h f _ (I.tok _) c)
 ·subst q;cases (show u=Value.ref b from x);obtain⟨z,hd,xs,d,r⟩:=uT I.hok e;obtain⟨f,j,c⟩:=lF.some_of (v:=v) (o:=(atKey xs k).map (·.2)) (by rw[l];exact d.val k);obtain⟨p,C,m⟩:=Option.map_eq_some_iff.mp j;refine wpAny_getItem_heap (tupleKind_room_in1 B) (qO I.hok F) r C ?_;rw[m];exact h f _ (I.tok _) c
theorem OZ {Q:cE}(p:A.units+1<cLine)(I:aR X pins σ H s)(g:kN H a y o)(m:aX y u)(h:∀j,aR X pins σ H j->Q (.bool (!o.isSome)) j) :
  wpAny (model X.prog X.w) A (compareOp .NotIn u (.ref a)) Q E s:=by
 rcases g with⟨d,k,e,f,l⟩|⟨d,k,b,e,f,r,l⟩
 ·subst f;obtain⟨z,hd,vs,c,i⟩:=rP I.hok e;refine wpAny_notIn_of (nL m) hd i.mapOf ?_;rw[←(c.val k).isSome_eq,←l];exact h _ (I.tok _)
 ·subst f;cases (show u=Value.ref b from m);obtain⟨z,hd,xs,c,i⟩:=uT I.hok e;refine wpAny_notIn_heap (tupleKind_room_in1 p) (qO I.hok r) hd i ?_;have q:=(c.val k).isSome_eq;rw[Option.isSome_map]at q;rw[←q,←l];exact h _ (I.tok _)
theorem pK {h':Heap}{t':Nat}{c:HO}(I:aR X pins σ H s)(d:S0 (H a))(f:Heap.SameBut a s.heap h')(g:∃q,h'.get? a=some q)(new:bZ X.prog X.w (upd H a c) h' a c) :
  aR X pins σ (upd H a c) {s with heap:=h',toks:=t'} :=
 I.write (x:=a) (e:=a) d (.inl rfl) (λb q h z=>(f.2 b h).trans z) g new
theorem EF {P:Program}{w:World}{H':Hp}{h':Heap}{b:List (bE×V)}{vs:List (bE×Value)}(z:b.length<=sizeLine)(hd:(a == sysModules)=false)(c:KV b vs)(d:h'.DictOf (bK P w) a vs) :
  bZ P w H' h' a (.dK b):=⟨z,hd,vs,c,d⟩
theorem IO {H':Hp}{Q:Unit->Shared->Prop}(K:A.units+1<cLine)(I:aR X pins σ H s)(g:ET H a y v H')(C:aX y u)(F:aX v r)(h:∀B,aR X pins σ H' B->Q () B) :
  wpAny (model X.prog X.w) A (setItem (.ref a) u r) Q E s:=by
 rcases g with⟨f,k,e,p,l,t⟩|⟨f,k,b,e,p,J,l,t⟩
 ·subst p t;obtain⟨z,hd,vs,d,x⟩:=xM I.hok e;have hz:vs.length<=sizeLine:=by rw[←d.length];exact z
  have o:(putK f k v).length<=sizeLine:=by have:=jR f k v;omega
  refine wpAny_setItem_pairs (hsz:=hz) (nL C) x λh' i m=>h _ ?_;have L:∃q,h'.get? a=some q:=let⟨q,_,_,j,_⟩:=i;⟨q,j⟩;exact pK I (by rw[e];exact True.intro) m L (EF o hd (d.put k F) i)
 ·subst p t;cases (show u=Value.ref b from C);obtain⟨z,hd,xs,d,x⟩:=SO I.hok e;have hz:xs.length<=sizeLine:=by rw[←Paired.length d];exact z
  have o:(putK f k v).length<=sizeLine:=by have:=jR f k v;omega
  refine wpAny_setItem_heap (hsz:=hz) (tupleKind_room_in1 K) (qO I.hok J) x λh' i m=>h _ ?_;obtain⟨q,S,T,j,R,P,O,_,N⟩:=i;refine pK I (by rw[e];exact True.intro) m ⟨q,j⟩ ⟨o,hd,_,(d.put k J F).keeps λc ys G=>?_,q,S,T,j,R,P,O,N⟩;rw[aC (SM G e (λz=>nomatch z))];exact G
end
section
variable {X:Cx}{pins:cY}{σ:St}{H:Hp}{s:Shared}{a:Addr}{kvs:List (bE×V)}{k:bE}{u:Value}{A:Around}{E:cE}
theorem O0 {Q:cE}(I:aR X pins σ H s)(e:H a=some (.dK kvs))(h:∀d,aR X pins σ (upd H a (.dK [])) d->Q .none d):wpAny (model X.prog X.w) A (call (.builtin "dict.clear") [.ref a]) Q E s:=by obtain⟨z,hd,vs,c,f⟩:=xM I.hok e;refine call_meetsIn PySem.F.slot_dict_clear f.typeIs PySem.F.entry_dict_clear (PySem.F.args_dict_clear_1 _) (meets_dict_clear (bK X.prog X.w) a) ⟨vs,f,by rw[←c.length];exact z,λh' b g=>h _ ?_⟩;have i:∃q,h'.get? a=some q:=let⟨q,_,_,hq,_⟩:=b;⟨q,hq⟩;exact pK (t':=s.toks) I (by rw[e];exact True.intro) g i (EF (av _) hd .nil b)
theorem SQ {Q:cE}(I:aR X pins σ H s)(e:Rd H a (.dK kvs))(h:∀t c,aR X pins σ H c->Q (.int kvs.length t) c):wpAny (model X.prog X.w) A (call (.builtin "len") [.ref a]) Q E s:=by obtain⟨z,hd,vs,b,d⟩:=rP I.hok e;refine call_len_dict hd d (by rw[←b.length];rw[sizeLine_eq]at z;omega) ?_;rw[←b.length];exact h _ _ (I.tok _)
end
def PB (i:Expr):Prop:=∀a b,subscripted i false a b=operate [a,b] (getItem a b)
theorem E3 {prog:Program}{w:World}{A:Around}{E:cE}{s:Shared}{env:Env}{b a:Expr}{d:Pos}{T id:String}{Q:cE}
  (q:typeLookup (.type T) "__getitem__" = pure (some (.builtin id))) (p:PB a)
  (h:wpAny (model prog w) A (eval b env) (λo g=>wpAny (model prog w) A (eval a env) (λi c=>c.TypeIs o T/\wpAny (model prog w) A (getItem o i) Q E c) E g) E s) :
  wpAny (model prog w) A (eval (.Subscript b a d) env) Q E s:=by
 refine Subscript_ (wpAny_mono h (λo g m=>wpAny_mono m (λi c e=>?_) λ_ _ x=>x) λ_ _ x=>x);obtain⟨j,e⟩:=e;unfold subscriptTail;refine aa ?_;rw[getitemInPython_of_ne j.not_modules];refine aa (wpAny_specialOf j q ?_);have fin:wpAny (model prog w) A (subscripted a false o i) (λr f=>wpAny (model prog w) A (letTemporaryGo b o r >>= λ_=>pure r) Q E f) E c:=by rw[p o i];exact wpAny_operating (wpAny_mono e (λr f l=>aa (wpAny_letTemporaryGo (al l))) λ_ _ x=>x)
 first
  | exact al (aa fin)
  | exact aa (al (aa fin))
  | exact aa fin
theorem B4 {X:Cx}{c:cY}{σ:St}{H:Hp}{s:Shared}{a:Addr}{y:V}{o:Option V}(I:aR X c σ H s)(g:kN H a y o):s.TypeIs (.ref a) "dict":=by
 rcases g with⟨d,k,e,_,_⟩|⟨d,k,b,e,_,_,_⟩
 ·obtain⟨_,_,vs,_,f⟩:=rP I.hok e;exact f.typeIs
 ·obtain⟨_,_,xs,_,f⟩:=uT I.hok e;exact f.typeIs
noncomputable def tDGet (c ty:TE):TE:=λσ H Q=>c σ H λx d=>ty σ d λy b=>∃a v,x = .ref a/\kN b a y (some v)/\Q v b
noncomputable def sDPut (d ty c:TE):TS:=λD σ H=>c σ H λv g=>d σ g λx f=>ty σ f λy e=>∃a b,x = .ref a/\ET e a y v b/\D.nx σ b
section
variable {X:Cx}{o i e value:Expr}{pos pos' tpos:Pos}{td ty tv:TE}
theorem FE (p:X.A.units+1<cLine)(ho:PE X o td)(r:PE X i ty)(q:PB i):PE X (.Subscript o i pos) (tDGet td ty):=by intro b s σ H Q I h;refine E3 PySem.F.slot_dict_getitem.lookup q (thn (ho b s σ H _ I h) λu e ⟨x,B,w,j,m⟩=>thn (r b e σ B _ w m) λG s2 ⟨y,z,d,f,a,v,ex,g,l⟩=>?_);subst ex;obtain rfl:u=Value.ref a:=j;exact⟨B4 d g,IP p d g f λC E t c=>⟨v,z,t,c,l⟩⟩
theorem yX (q:X.A.units+1<cLine)(ho:PE X o td)(w:PE X i ty)(p:PE X value tv)(t:swapsWith value (some (.Subscript o i pos')) pos.line X.env=pure false) :
  PS X (.Assign [.Subscript o i pos'] value pos) (sDPut td ty tv):=by
 intro b s σ H D I h;refine wpAny_Assign_Subscript (thn (p b s σ H _ I h) λr c ⟨v,J,E,f,m⟩=>thn (ho b c σ J _ E m) λu s2 ⟨x,G,C,e,l⟩=>thn (w b s2 σ G _ C l) λN L ⟨y,O,B,d,a,F,ex,g,j⟩=>?_) t;subst ex;obtain rfl:u=Value.ref a:=e;exact IO q B g d f λK z=>⟨σ,F,z,j⟩
end
theorem L0 {P:Program}{w:World}{H:Hp}(h:Heap)(a:sysModules<h.objs.size):bZ P w H (h.push {cls:=.type "dict",data:=.dict #[]}) h.objs.size (.dK []) :=
 ⟨av _,cw.mpr (Ne.symm (bn a)),[],.nil,Heap.DictOf.new h⟩
noncomputable def JS:TE:=λ_ H Q=>∀p,H p=none->Q (.ref p) (upd H p (.dK []))
section
variable {X:Cx}{pos:Pos}
theorem oZ:PE X (.Dict [] [] pos) JS:=λb s σ H Q I h =>
 wpAny_Dict_empty ⟨.ref s.heap.objs.size,_,I.laid (a:=s.heap.objs.size) (o:=.dK []) (t':=s.toks) (λ_ _ q=>af _ q) (ac _) (L0 s.heap I.big),rfl,h _ (I.hok.fresh (ac _))⟩
end
noncomputable def iL (a more:List (bE×V)):List (bE×V):=more.foldl (λb c=>putK b c.1 c.2) a
theorem KV.merge:∀{more:List (bE×V)} {b:List (bE×Value)} {a:List (bE×V)} {vs:List (bE×Value)},KV more b->KV a vs->KV (iL a more) (merged vs b):=by
 intro more b a vs r;unfold KV at r
 induction r generalizing a vs with
 | nil=>intro q;exact q
 | @cons p q ps f h t d =>
  intro c;have e:KV (putK a p.1 p.2) (stored vs q.1 q.2):=by have:=c.put p.1 h.2;rw[←h.1];exact this
  exact d e
theorem nJ:∀(more a:List (bE×V)),(iL a more).length<=a.length+more.length
 | [],a=>by show a.length<=a.length+0;omega
 | p::r,a=>by have c:=nJ r (putK a p.1 p.2);have b:=jR a p.1 p.2;show(iL (putK a p.1 p.2) r).length<=_;rw[aq];omega
structure M1 (X:Cx)(o:Expr)(m:Str)(apos:Pos)(e:Expr)(cpos:Pos):Prop where
 base:attributeBase o m X.env (eval o X.env)=eval o X.env
 few:((backTo cpos (starEach [e] X.env)).all (λx=>!x.1) && (backToKw cpos (keywordEach [] X.env)).all (λx=>x.1.isSome)
  && decide (([e]:lR).length+([]:List Keyword).length+(if ([]:List Keyword).isEmpty then 0 else 1)<30))=true
 line:(apos.endLine == cpos.line)=true
 trees:backTo cpos (starEach [e] X.env)=[(false,eval e X.env)]
structure M2 (X:Cx)(o:Expr)(m:Str)(apos:Pos)(e f:Expr)(cpos:Pos):Prop where
 base:attributeBase o m X.env (eval o X.env)=eval o X.env
 few:((backTo cpos (starEach [e,f] X.env)).all (λx=>!x.1) && (backToKw cpos (keywordEach [] X.env)).all (λx=>x.1.isSome)
  && decide (([e,f]:lR).length+([]:List Keyword).length+(if ([]:List Keyword).isEmpty then 0 else 1)<30))=true
 line:(apos.endLine == cpos.line)=true
 trees:backTo cpos (starEach [e,f] X.env)=[(false,eval e X.env),(false,eval f X.env)]
def TQ (H:Hp)(a:Addr):Prop:=(∃b,Rd H a (.dK b))∨∃b,Rd H a (.dT b)
theorem zU {X:Cx}{f:cY}{σ:St}{H:Hp}{s:Shared}{a:Addr}(I:aR X f σ H s)(d:TQ H a) :
  s.TypeIs (.ref a) "dict"/\(∀b,Value.ref a = .ref b->∃c,s.heap.get? b=some c/\c.dict=none)/\(a == sysModules)=false:=by
 rcases d with⟨h,e⟩|⟨h,e⟩
 ·obtain⟨_,hd,vs,_,g⟩:=rP I.hok e;refine⟨g.typeIs,λb q=>?_,hd⟩;cases q;obtain⟨c,_,_,j,i,_⟩:=g;exact⟨c,j,i.2.1⟩
 ·obtain⟨_,hd,xs,_,g⟩:=uT I.hok e;refine⟨g.typeIs,λb q=>?_,hd⟩;cases q;obtain⟨c,_,_,j,i,_⟩:=g;exact⟨c,j,i.2.1⟩
section
variable {X:Cx}{pins:cY}{σ:St}{H:Hp}{s:Shared}{a:Addr}{y d:V}{u r:Value}{o:Option V}{A:Around}{E:cE}
theorem RV {Q:cE}(q:A.units+1<cLine)(I:aR X pins σ H s)(g:kN H a y o)(p:aX y u)(h:∀j m,aR X pins σ H m->aX (o.getD .non) j->Q j m) :
  wpAny (model X.prog X.w) A (call (.builtin "dict.get") [.ref a,u]) Q E s:=by
 rcases g with⟨f,k,e,i,l⟩|⟨f,k,b,e,i,r,l⟩
 ·subst i;obtain⟨z,hd,vs,c,d⟩:=rP I.hok e;refine call_meetsIn PySem.F.slot_dict_get d.typeIs PySem.F.entry_dict_get (PySem.F.args_dict_get_2 _ _) (meets_dict_get (bK X.prog X.w) a (nL p) hd) ⟨_,d.mapOf,h _ _ (I.tok _) ?_⟩;rw[l];exact(c.val k).getD rfl
 ·subst i;cases (show u=Value.ref b from p);obtain⟨z,hd,xs,c,d⟩:=uT I.hok e;refine call_meetsIn PySem.F.slot_dict_get d.typeIs PySem.F.entry_dict_get (PySem.F.args_dict_get_2 _ _) (meetsH_dict_get (tupleKind (bK X.prog X.w)) a b hd) ⟨tupleKind_room_in1 q,k,xs,qO I.hok r,d,h _ _ (I.tok _) ?_⟩;rw[l];exact(c.val k).getD rfl
theorem RU {Q:cE}(v:A.units+1<cLine)(I:aR X pins σ H s)(g:kN H a y o)(q:aX y u)(t:aX d r)(h:∀m p,aR X pins σ H p->aX (o.getD d) m->Q m p) :
  wpAny (model X.prog X.w) A (call (.builtin "dict.get") [.ref a,u,r]) Q E s:=by
 rcases g with⟨i,k,e,j,l⟩|⟨i,k,b,e,j,x,l⟩
 ·subst j;obtain⟨z,hd,vs,c,f⟩:=rP I.hok e;refine call_meetsIn PySem.F.slot_dict_get f.typeIs PySem.F.entry_dict_get (PySem.F.args_dict_get_3 _ _ _) (meets_dict_get_default (bK X.prog X.w) a (nL q) hd r) ⟨_,f.mapOf,h _ _ (I.tok _) ?_⟩;rw[l];exact(c.val k).getD t
 ·subst j;cases (show u=Value.ref b from q);obtain⟨z,hd,xs,c,f⟩:=uT I.hok e;refine call_meetsIn PySem.F.slot_dict_get f.typeIs PySem.F.entry_dict_get (PySem.F.args_dict_get_3 _ _ _) (meetsH_dict_get_default (tupleKind (bK X.prog X.w)) a b hd r) ⟨tupleKind_room_in1 v,k,xs,qO I.hok x,f,h _ _ (I.tok _) ?_⟩;rw[l];exact(c.val k).getD t
end
noncomputable def QI (d ty:TE):TE:=λσ H Q=>d σ H λx c=>∃a,x = .ref a/\TQ c a/\ty σ c λy b=>∃o,kN b a y o/\Q (o.getD .non) b
noncomputable def QH (e ty d:TE):TE:=λσ H Q=>e σ H λx c=>∃a,x = .ref a/\TQ c a/\ty σ c λy f=>d σ f λz b=>∃o,kN b a y o/\Q (o.getD z) b
section
variable {X:Cx}{o e f:Expr}{apos cpos:Pos}{td ty tx:TE}
theorem A6 (t:X.A.units+1<cLine)(ho:PE X o td)(v:PE X e ty)(m:M1 X o "get" apos e cpos):PE X (.Call (.Attribute o "get" apos) [e] [] cpos) (QI td ty):=by intro b s σ H Q I h;refine wpAny_Call_method m.base m.few m.line PySem.F.plainAttrs_dict PySem.F.slot_dict_get PySem.F.type_dict_get (thn (ho b s σ H _ I h) λu j ⟨x,C,f,p,a,ex,d,r⟩=>?_);subst ex;obtain rfl:u=Value.ref a:=p;obtain⟨t1,i,_⟩:=zU f d;refine⟨t1,i,?_⟩;rw[m.trees];refine Calls.callWith_builtin rfl (Calls.evalArgs_plain (Calls.spliced_cons (thn (v b j σ C _ f r) λK s2 ⟨y,B,z,l,J,g,q⟩=>Calls.spliced_nil ?_)));exact RV t z g l λE G w c=>⟨_,B,w,c,q⟩
theorem KC (B:X.A.units+1<cLine)(ho:PE X o td)(E:PE X e ty)(C:PE X f tx)(m:M2 X o "get" apos e f cpos):PE X (.Call (.Attribute o "get" apos) [e,f] [] cpos) (QH td ty tx):=by
 intro b s σ H Q I h;refine wpAny_Call_method m.base m.few m.line PySem.F.plainAttrs_dict PySem.F.slot_dict_get PySem.F.type_dict_get (thn (ho b s σ H _ I h) λu l ⟨x,O,i,r,a,ex,d,w⟩=>?_);subst ex;obtain rfl:u=Value.ref a:=r;obtain⟨t1,j,_⟩:=zU i d;refine⟨t1,j,?_⟩;rw[m.trees]
 refine Calls.callWith_builtin rfl (Calls.evalArgs_plain (Calls.spliced_cons (thn (E b l σ O _ i w) λU s2 ⟨y,N,K,q,v⟩ =>
  Calls.spliced_cons (thn (C b s2 σ N _ K v) λW S ⟨z,L,J,p,T,g,t⟩=>Calls.spliced_nil ?_))))
 exact RU B J g q p λP R G c=>⟨_,L,G,c,t⟩
end
section
variable {κ:Type}[DecidableEq κ]
theorem FJ:∀{l:List κ} {k:κ},l.Nodup->¬k∈l->(l++[k]).Nodup
 | [],k,_,_=>by simp
 | a::r,k,h,b=>by
  obtain⟨d,c⟩:=cx.mp h;show(a::(r++[k])).Nodup;refine cx.mpr ⟨λm=>?_,FJ c λm=>b (cr.mpr (Or.inr m))⟩;rcases cs.mp m with q|q
  ·exact d q
  ·exact b (cr.mpr (Or.inl (cp.mp q).symm))
end
section
variable {X:Cx}
theorem IW:cL X (.builtin "len") (λxs H Q=>∃a b,xs=[V.ref a]/\H a=some (.dK b)/\Q (.int b.length) H):=by intro c s σ H xs us Q I r h;obtain⟨a,b,rfl,e,q⟩:=h;obtain⟨u,rfl,d⟩:=vals1 r;cases d;exact SQ I (.inl e) λt g f=>⟨.int b.length,H,f,⟨t,rfl⟩,q⟩
end
noncomputable def closL (cells:List (Str×Addr)):List (Str×NameKind)->List (Str×Addr)->List (Str×Addr)
 | [],a=>a
 | (n,k)::r,a=>closL cells r (if k = .free then(n,(cells.lookup n).getD 0)::a else a)
theorem vW {scope:Scope}{env:Env}(h:∀x∈scope.names,x.2 = .free->∃c,env.cells.lookup x.1=some c):closureFor scope env=pure (closL env.cells scope.names []):=by
 have go:∀(l:List (Str×NameKind)) (b:List (Str×Addr)),(∀x∈l,x.2 = .free->∃c,env.cells.lookup x.1=some c) ->
   (forIn l b λ(x:Str×NameKind) (r:List (Str×Addr))=>match x with|(name,kind)=>if (kind == NameKind.free)=true then do let a ←cellOf env name;pure (ForInStep.yield ((name,a)::r))else pure (ForInStep.yield r):Sem (List (Str×Addr)))=pure (closL env.cells l b):=by
  intro l
  induction l with
  | nil=>intro b _;rfl
  | cons x r e =>
   intro b f;obtain⟨n,k⟩:=x;have g:=λy i=>f y (az _ i);rw[List.forIn_cons];by_cases d:k = .free
   ·subst d;obtain⟨c,hc⟩:=f (n,.free) aw rfl;have hc':List.lookup n env.cells=some c:=hc;have o:cellOf env n=pure c:=by unfold cellOf;rw[hc']
    simp only[beq_self_eq_true,if_true,o,pure_bind];rw[e _ g];show _=pure (closL env.cells r (if NameKind.free = .free then(n,(env.cells.lookup n).getD 0)::b else b));rw[ai rfl,hc'];rfl
   ·have j:(k == NameKind.free)=false:=by simpa using d
    simp only[j,Bool.false_eq_true,if_false,pure_bind];rw[e _ g];show _=pure (closL env.cells r (if k = .free then(n,(env.cells.lookup n).getD 0)::b else b));rw[ab d]
 exact(congrArg (λ(m:Sem (List (Str×Addr)))=>m >>= λs=>pure s) (go scope.names [] h)).trans rfl
theorem xQ {cells:List (Str×Addr)}{x:Str}{c:Addr}:∀(l:List (Str×NameKind)) (b:List (Str×Addr)),(closL cells l b).lookup x=some c->b.lookup x=some c∨(x,NameKind.free)∈l/\c=(cells.lookup x).getD 0
 | [],_,h=>.inl h
 | (n,k)::r,b,h=>by
  unfold closL at h;rcases xQ r _ h with q|⟨q,e⟩
  ·by_cases a:k = .free
   ·rw[ai a]at q;rw[bz]at q;by_cases d:x=n
    ·subst d;rw[beq_self_eq_true]at q;subst a;exact .inr ⟨aw,(Option.some.inj q).symm⟩
    ·have f:(x == n)=false:=by simpa using d
     rw[f]at q;exact .inl q
   ·rw[ab a]at q;exact .inl q
  ·exact .inr ⟨az _ q,e⟩
theorem xR {cells:List (Str×Addr)}{x:Str}:∀(l:List (Str×NameKind)) (a:List (Str×Addr)),((x,NameKind.free)∈l∨(a.lookup x).isSome)->((closL cells l a).lookup x).isSome
 | [],a,h=>by
  rcases h with h|h
  ·cases h
  ·exact h
 | (n,k)::r,a,h=>by
  unfold closL;refine xR r _ ?_;by_cases c:k = .free
  ·rw[ai c,bz];by_cases b:x=n
   ·subst b;rw[beq_self_eq_true];exact .inr rfl
   ·have d:(x == n)=false:=by simpa using b
    rw[d];rcases h with h|h
    ·rcases cr.mp h with e|e
     ·cases e;exact absurd rfl b
     ·exact .inl e
    ·exact .inr h
  ·rw[ab c];rcases h with h|h
   ·rcases cr.mp h with e|e
    ·cases e;exact absurd rfl c
    ·exact .inl e
   ·exact .inr h
theorem mF {α β:Type}[BEq α][LawfulBEq α]{x:α}{v:β}:∀{l:List (α×β)},l.lookup x=some v->(x,v)∈l
 | [],h=>by simp at h
 | (n,k)::r,h=>by
  rw[bz]at h;by_cases e:x=n
  ·subst e;rw[beq_self_eq_true]at h;cases h;exact aw
  ·have a:(x == n)=false:=by simpa using e
   rw[a]at h;exact az _ (mF h)
theorem kU {env:Env}{x:Str}:∀{names:List (Str×NameKind)} {a:NameKind},(∀y∈names,y.2≠.cell) ->
  (names.map λ(n,k)=>if (k == NameKind.free && env.scope.kind == .function && env.kindOf n == some .cell)then(n,NameKind.cell)else(n,k)).lookup x=some a->(a = .cell∨a = .free)->names.lookup x=some .free
 | [],_,_,h,_=>by simp at h
 | (n,k)::r,a,hc,h,b=>by
  have d:=@kU env x r a (λy g=>hc y (az _ g));have i:=hc (n,k) aw;have h:List.lookup x ((if (k == NameKind.free && env.scope.kind == .function && env.kindOf n == some .cell)=true then(n,NameKind.cell)else(n,k))::_)=some a:=h;by_cases f:x=n
  ·subst f;rw[bz,beq_self_eq_true];by_cases q:(k == NameKind.free && env.scope.kind == .function && env.kindOf x == some .cell)=true
   ·simp only[Bool.and_eq_true,beq_iff_eq]at q;show some k=some .free;rw[q.1.1]
   ·rw[ab q,bz,beq_self_eq_true]at h;have h:some k=some a:=h;cases h;rcases b with e|e
    ·exact absurd e i
    ·show some k=some .free;rw[e]
  ·have c:(x == n)=false:=by simpa using f
   rw[bz,c];by_cases q:(k == NameKind.free && env.scope.kind == .function && env.kindOf n == some .cell)=true
   ·rw[ai q,bz,c]at h;exact d h b
   ·rw[ab q,bz,c]at h;exact d h b
theorem lO {env:Env}{x:Str}:∀{names:List (Str×NameKind)},names.lookup x=some .free ->
  (names.map λ(n,k)=>if (k == NameKind.free && env.scope.kind == .function && env.kindOf n == some .cell)then(n,NameKind.cell)else(n,k)).lookup x=some .cell ∨
  (names.map λ(n,k)=>if (k == NameKind.free && env.scope.kind == .function && env.kindOf n == some .cell)then(n,NameKind.cell)else(n,k)).lookup x=some .free
 | [],h=>by simp at h
 | (n,k)::r,h=>by
  have b:=@lO env x r;show List.lookup x ((if (k == NameKind.free && env.scope.kind == .function && env.kindOf n == some .cell)=true then(n,NameKind.cell)else(n,k))::_)=_∨List.lookup x ((if (k == NameKind.free && env.scope.kind == .function && env.kindOf n == some .cell)=true then(n,NameKind.cell)else(n,k))::_)=_;by_cases c:x=n
  ·subst c;rw[bz,beq_self_eq_true]at h;have h:some k=some .free:=h;cases h;by_cases q:(NameKind.free == NameKind.free && env.scope.kind == .function && env.kindOf x == some .cell)=true
   ·rw[ai q,bz,beq_self_eq_true];exact .inl rfl
   ·rw[ab q,bz,beq_self_eq_true];exact .inr rfl
  ·have a:(x == n)=false:=by simpa using c
   rw[bz,a]at h;by_cases q:(k == NameKind.free && env.scope.kind == .function && env.kindOf n == some .cell)=true
   ·rw[ai q,bz,a];exact b h
   ·rw[ab q,bz,a];exact b h
noncomputable def srcOk (N:aQ)(names:List (Str×NameKind)):List (Option Nat)->aQ->Bool
 | [],[]=>true
 | none::r,_::n=>srcOk N names r n
 | some i::r,x::n=>N[i]? == some x && names.lookup x == some .free && srcOk N names r n
 | _,_=>false
theorem pV {N:aQ}{names:List (Str×NameKind)}:∀{src:List (Option Nat)} {n:aQ},srcOk N names src n=true->src.length=n.length
 | [],[],_=>rfl
 | none::r,_::n,h=>by simp[pV (src:=r) (n:=n) h]
 | some i::r,x::n,h=>by
  simp only[srcOk,Bool.and_eq_true]at h;simp[pV (src:=r) (n:=n) h.2]
 | [],_::_,h=>by simp[srcOk]at h
 | none::_,[],h=>by simp[srcOk]at h
 | some _::_,[],h=>by simp[srcOk]at h
theorem pW {N:aQ}{names:List (Str×NameKind)}:∀{src:List (Option Nat)} {n:aQ} {j i:Nat} {x:Str},srcOk N names src n=true->src[j]?=some (some i)->n[j]?=some x->N[i]?=some x/\names.lookup x=some .free
 | [],_,_,_,_,_,h,_=>by simp at h
 | _::_,[],_,_,_,_,_,h=>by simp at h
 | none::r,_::n,0,_,_,_,h,_=>by simp at h
 | none::r,_::n,j+1,_,_,h,b,a=>pW (src:=r) (n:=n) (j:=j) h (by simpa using b) (by simpa using a)
 | some k::r,y::n,0,i,x,h,b,a=>by
  simp at b a;subst b a;simp only[srcOk,Bool.and_eq_true,beq_iff_eq]at h;exact h.1
 | some _::r,_::n,j+1,_,_,h,b,a=>by simp only[srcOk,Bool.and_eq_true]at h;exact pW (src:=r) (n:=n) (j:=j) h.2 (by simpa using b) (by simpa using a)
structure bF (X:Cx)(scope:Scope)(N':aQ)(src:List (Option Nat)):Prop where
 kind:scope.kind = .function
 cell:∀y∈scope.names,y.2≠.cell
 names:∀y∈scope.names,y.2 = .local->scope.names.lookup y.1=some .local
 free:∀y∈scope.names,y.2 = .free->(X.env.scope.names.lookup y.1=some .cell∨X.env.scope.names.lookup y.1=some .free)
 nd:N'.Nodup
 map:srcOk X.N scope.names src N'=true
noncomputable def stC (src:List (Option Nat))(σ:St):St:=src.map λo=>o.bind λi=>(σ[i]?).join
noncomputable def blk (X:Cx)(scope:Scope)(N':aQ)(C:Addr)(a:Shared)(H₂:Hp)(fp:List Addr):Cx :=
 {X with N:=N',s₀:=a,H₀:=H₂,env:=compEnvC scope (closL X.env.cells scope.names []) C X.env,outer:=X.stack,stack:=X.stack,ex:=fp,fn:=λ_=>false,pn:=[],xe:=λ_ _=>False}
section
variable {X:Cx}{pins:cY}{σ:St}{H:Hp}{s:Shared}{scope:Scope}{N':aQ}{src:List (Option Nat)}
theorem bF.cells (S:bF X scope N' src)(I:aR X pins σ H s):∀x∈scope.names,x.2 = .free->∃c,X.env.cells.lookup x.1=some c:=λx a b=>I.ok.has x.1 (S.free x a b)
theorem bF.cl (S:bF X scope N' src)(I:aR X pins σ H s){x:Str}{c:Addr}(h:(closL X.env.cells scope.names []).lookup x=some c):X.env.cells.lookup x=some c:=by
 rcases xQ _ _ h with q|⟨q,e⟩
 ·simp at q
 ·obtain⟨d,hd⟩:=S.cells I (x,.free) q rfl;have hd:X.env.cells.lookup x=some d:=hd;rw[hd]at e;rw[hd,e];rfl
theorem bF.clHas (S:bF X scope N' src)(I:aR X pins σ H s){x:Str}(h:scope.names.lookup x=some .free):∃c,(closL X.env.cells scope.names []).lookup x=some c/\X.env.cells.lookup x=some c:=by have q:=xR (cells:=X.env.cells) (x:=x) scope.names [] (.inl (mF h));obtain⟨c,hc⟩:=Option.isSome_iff_exists.mp q;exact⟨c,hc,S.cl I hc⟩
theorem bF.ok (S:bF X scope N' src)(I:aR X pins σ H s){fp:List Addr}{C:Addr}(d:∀b∈fp,fV X pins H b)(f:∀b∈fp,b<s.heap.objs.size)(g:s.heap.objs.size<=C):(blk X scope N' C s H fp).Ok where
 mod:=I.mod
 kind:=S.kind
 glob:=I.ok.glob
 blt:=I.ok.blt
 above:=g
 inj:=λx y c l j=>I.ok.inj x y c (S.cl I l) (S.cl I j)
 has:=λx i=>by
  have q:scope.names.lookup x=some .free:=by
   rcases i with h|h
   ·exact kU S.cell h (.inl rfl)
   ·exact kU S.cell h (.inr rfl)
  obtain⟨c,hc,_⟩:=S.clHas I q;exact⟨c,hc⟩
 cab:=λx c h _=>by cases h
 hd:=I.ok.hd
 frames:=I.ok.frames
 stk:=.inl rfl
 exf:=λb a=>⟨bn (bd (f b a) g),λx c e=>(d b a).2.2.2.2.1 x c (S.cl I e)⟩
 bs:=I.bs
 bsz:=ao I.ok.bsz I.sz
 noex:=λb o e a=>by
  rcases(d b a).2.2.2.1 with z|z
  ·exact I.ok.noex b o e z
  ·exact absurd (bd (ba e) (ao I.ok.bsz z)) (bI _)
 exfs:=λb a z=>by
  rcases cr.mp (I.stkSub b z)with e|e
  ·exact(d b a).2.1 e
  ·exact(d b a).2.2.1 e
 funs:=I.stack
 frf:=I.stkFree
theorem bF.start (S:bF X scope N' src)(I:aR X pins σ H s){fp:List Addr}{C:Addr}{h':Heap}{tk:Nat}{m:fR}{pl:cY}(Q:∀b∈fp,fV X pins H b)(F:∀b∈fp,b<s.heap.objs.size)(L:s.heap.objs.size<=C)
  (h:∀b o,s.heap.get? b=some o->h'.get? b=some o) (E:h'.Ns C m)
  (B:∀p∈pl,h'.get? p.1=some p.2/\s.heap.objs.size<=p.1/\p.1≠C/\∀v,p.2.data≠.cell v) :
  aR (blk X scope N' C s H fp) pl (stC src σ) H {s with heap:=h',toks:=tk} where
 ok:=S.ok I Q F L
 os:=rfl
 bare:=I.bare
 base:=Un.kept h
 loc:=by
  obtain⟨U,P,G⟩:=I.loc;refine⟨m,E,λj x v R f W=>?_⟩;have f:(src.map λo=>o.bind λi=>(σ[i]?).join)[j]?=some (some v):=f;rw[bw]at f;cases e:src[j]? with
  | none=>rw[e]at f;cases f
  | some o =>
   rw[e]at f;cases o with
   | none=>cases f
   | some i =>
    have f:some ((σ[i]?).join)=some (some v):=f;obtain⟨T,K⟩:=pW S.map e R;have N:σ[i]?=some (some v):=by
     cases q:σ[i]? with
     | none=>rw[q]at f;cases f
     | some w=>rw[q]at f;cases w with
      | none=>cases f
      | some w=>cases f;rfl
    have g:=S.free (x,.free) (mF K) rfl;obtain⟨u,r,l⟩:=G i x v T N (.inr g);refine⟨u,r,.inr ⟨lO K,?_⟩⟩;obtain⟨c,hc,J⟩:=S.clHas I K;refine⟨c,hc,?_⟩;rcases l with⟨k,_⟩|⟨_,Y,A,t⟩
    ·have k:X.env.scope.names.lookup x=some .local:=k;have g:X.env.scope.names.lookup x=some .cell∨X.env.scope.names.lookup x=some .free:=g;rw[k]at g;rcases g with z|z <;> cases z
    ·rw[J]at A;cases A;obtain⟨o,ho,hd⟩:=t;exact⟨o,h _ _ ho,hd⟩
 cell:=λx c e=>by obtain⟨v,o,ho,hd⟩:=I.cell x c (S.cl I e);exact⟨v,o,h _ _ ho,hd⟩
 free:=I.hok.fresh L
 freeC:=λx c e=>I.freeC x c (S.cl I e)
 pin:=λp O=>by
  obtain⟨a,b,c,d⟩:=B p (by simpa [blk] using O);refine⟨a,I.hok.fresh b,c,λz=>?_,d⟩;rcases cr.mp (I.stkSub _ z)with e|e
  ·exact absurd (bd I.lt (by rw[←e];exact b)) (bI _)
  ·exact I.nofs b e
 hok:=I.hok.kept h
 len:=by show(src.map _).length=N'.length;rw[ae];exact pV S.map
end
noncomputable def yB (a:lR)(env:Env):Sem Bool:=forIn a true λc (b:Bool)=>if b=true then isTrue c env (eval c env) >>= λb=>pure (.yield b)else pure (.yield b)
section
variable (M:Model)(A:Around)(env:Env)(E:cE)
noncomputable def Drawn (it:Value)(a:Expr)(stop go:Shared->Prop)(s:Shared):Prop :=
 wpAny M A (pyNext it) (λr t=>r.elim (stop t) λv=>wpAny M A (letOwnedTupleGo a it v) (λ_ t=>wpAny M A (assign a env v) (λ_=>go) E t) E t) E s
noncomputable def CN (b:lR)(lay:Sem Unit)(a:Shared->Prop)(s:Shared):Prop :=
 wpAny M A (yB b env) (λok t=>if ok=true then wpAny M A lay (λ_=>a) E t else a t) E s
end
noncomputable def nT (p:Pos)(it:Value)(a:Expr)(env:Env)(k:Sem PySem.Fin):Sem PySem.Fin:=standAt p >>= λ_=>pyNext it >>= λr=>match r with
 | none=>pure (.done .next)
 | some v=>letOwnedTupleGo a it v >>= λ_=>assign a env v >>= λ_=>k
noncomputable def layOn (a:lR)(lay:Sem Unit)(env:Env)(c:Code):Sem PySem.Fin:=yB a env >>= λok=>if ok=true then lay >>= λ_=>again c else again c
noncomputable def zN (a:Expr)(b:Value)(env:Env):Sem Unit:=eval a env >>= λx=>call (.builtin "list.append") [b,x] >>= λ_=>pure ()
section
variable {M:Model}{A:Around}{env:Env}{E:cE}{it:Value}{tg:Expr}{s:Shared}
theorem Drawn.mono {stop go a b:Shared->Prop}(h:Drawn M A env E it tg stop go s)(d:∀t,stop t->a t)(c:∀t,go t->b t):Drawn M A env E it tg a b s :=
 thn h λr t q=>by
  cases r
  ·exact d t q
  ·exact thn q λ_ _ q=>thn q λ_ t q=>c t q
theorem Drawn.run {p:Pos}{k:Sem PySem.Fin}{Q:PySem.Fin->Shared->Prop}(h:Drawn M A env E it tg (Q (.done .next)) (λt=>wpAny M A k Q E t) s):wpAny M A (nT p it tg env k) Q E s:=by
 unfold nT;refine aa (wpAny_standAt (aa (thn h λr t q=>?_)));cases r
 ·exact al q
 ·exact aa (thn q λ_ _ q=>aa q)
theorem CN.run {a:lR}{lay:Sem Unit}{c:Code}{Q:PySem.Fin->Shared->Prop}(h:CN M A env E a lay (Q (.again c)) s):wpAny M A (layOn a lay env c) Q E s:=by
 unfold layOn;refine aa (thn h λok t q=>?_);cases ok
 ·exact al q
 ·exact aa (thn q λ_ _ q=>al q)
end
theorem AT (b e iter:Expr)(a:lR)(scope:Scope)(d:Pos)(it c:Value)(env:Env) :
  compTurn (.ListComp b [⟨e,iter,a,0⟩] scope d) 0 it c env=nT iter.pos it e env (layOn a (zN b c env) env (.compLoop (.ListComp b [⟨e,iter,a,0⟩] scope d) 0 it c env)):=rfl
section
variable {prog:Program}{w:World}{A:Around}{R:Result->Shared->Prop}{s:Shared}{tg ce:Expr}{d:Nat}{it acc:Value}{env:Env}{p:Pos}{k:Sem PySem.Fin}
noncomputable abbrev XN (prog:Program)(w:World)(A:Around)(env:Env)(R:Result->Shared->Prop):cE:=notedBy (model prog w) A env λx t=>R (.error x) t
inductive MN:Expr->Prop
 | lst (e gs sc p):MN (.ListComp e gs sc p)
 | set (e gs sc p):MN (.SetComp e gs sc p)
 | dct (k e gs sc p):MN (.DictComp k e gs sc p)
theorem L1 (a:MN ce){Q:PySem.Fin->Shared->Prop}{E:cE}(h:wpAny (model prog w) A (Sem.onRaise (compTurn ce d it acc env) λx=>noteFrame x env >>= λ_=>theTreesLotGoes x) Q E s):wpAny (model prog w) (A.under (.compLoop ce d it acc env)) ((model prog w).den (.compLoop ce d it acc env)) Q E s:=by cases a <;> exact h
theorem IM (a:MN ce){Q:PySem.Fin->Shared->Prop}{E:cE}(h:wpAny (model prog w) A (compStart ce d it acc env) Q (notedBy (model prog w) A env E) s):wpAny (model prog w) (A.under (.compStart ce d it acc env)) ((model prog w).den (.compStart ce d it acc env)) Q E s:=by cases a <;> exact wpAny_notedAt h
theorem uF (a:MN ce)(c:compTurn ce d it acc env=nT p it tg env k)(I:Nat->Shared->Prop)
  (turn:∀n s,I n s->Drawn (model prog w) A env (XN prog w A env R) it tg (R (.ok .next)) (λt=>wpAny (model prog w) A k (λf t=>f = .again (.compLoop ce d it acc env)/\∃m,m<n/\I m t) (XN prog w A env R) t) s)
  (n:Nat) (h:I n s):codeAny (model prog w) A (.compLoop ce d it acc env) R s:=by
 apply codeAny_loop rfl I _ n h;intro n s i;have q:=turn n s i;apply L1 a;rw[c];apply wpAny_noted;apply Drawn.run;exact q.mono (λ_ z=>z) λt z=>thn z λf t ⟨b,m⟩=>by subst b;exact⟨rfl,m⟩
end
noncomputable def P1 (X:Cx)(b:lR)(t:TT):Prop :=
 ∀(a:cY) (s:Shared) (σ:St) (H:Hp) (Q:Bool->Hp->Prop),aR X a σ H s->t σ H Q->wpAny (model X.prog X.w) X.A (yB b X.env) (TP X a σ Q) X.xe s
noncomputable def tYes:TT:=λ_ H Q=>Q true H
theorem eB {X:Cx}:P1 X [] tYes:=λ_ _ _ H _ I h=>wpAny_tests_nil ⟨H,I,h⟩
theorem iD {X:Cx}{c:Expr}{t:TT}(h:PT X c t):P1 X [c] t:=λa s σ H Q I q=>wpAny_tests_one (h a s σ H Q I q)
noncomputable abbrev MM (β:Type):=Nat->Nat->β->St->Hp->Prop
noncomputable abbrev CW:=MM (List V)
structure x0 (Y:Cx)(tg:Expr)(J:It)(fp:List Addr)(it:Addr)(tn:MD):Prop where
 obj:∀i h,tn i h->∀b∈fp,∃o,h.get? b=some o/\∀v,o.data≠.cell v
 keep:∀i h h',tn i h->(∀b∈fp,∀o,h.get? b=some o->h'.get? b=some o)->tn i h'
 item:∀(i:Nat) (pins:cY) (s:Shared) (σ:St) (H:Hp) (E:cE),aR Y pins σ H s->(∀b∈fp,fV Y pins H b)->tn i s.heap->J.go i H ->
  wpAny (model Y.prog Y.w) Y.A (pyNext (.ref it)) (λr s1=>∃u,r=some u /\
   wpAny (model Y.prog Y.w) Y.A (letOwnedTupleGo tg (.ref it) u) (λ_ s2=>∃x H',aR Y pins σ H' s2/\aX x u/\J.yld i H x H'/\tn (i+1) s2.heap/\∀b∈fp,H' b=none) E s1) E s
 done:∀(i:Nat) (pins:cY) (s:Shared) (σ:St) (H:Hp) (E:cE),aR Y pins σ H s->(∀b∈fp,fV Y pins H b)->tn i s.heap->J.stop i H ->
  wpAny (model Y.prog Y.w) Y.A (pyNext (.ref it)) (λr s1=>r=none/\aR Y pins σ H s1) E s
 self:∀(A:Around) (i:Nat) (s:Shared) (Q:cE) (E:cE),tn i s.heap->Q (.ref it) s->wpAny (model Y.prog Y.w) A (pyIter (.ref it)) Q E s
theorem n9.y {Y:Cx}{b:Expr}{J:It}{fp:List Addr}{it:Addr}{a:MD}(T:n9 Y.prog Y.w Y.K b J fp it a)(hc:Y.calm=true):x0 Y b J fp it a :=
 ⟨T.obj,T.keep,T.item Y rfl rfl rfl hc,T.done Y rfl rfl rfl hc,T.self⟩
def MF {β:Type}(F:Heap->Addr->β->Prop):Prop:=∀h a x,F h a x->∃o,h.get? a=some o/\(∀v,o.data≠.cell v)/\∀h':Heap,h'.get? a=some o->F h' a x
def PF (h:Heap)(a:Addr)(b:List V):Prop:=b.length<=sizeLine/\∃items,h.PlainList a items/\aY b items.toList
theorem w5:MF PF:=λ_ _ _ ⟨l,it,⟨n,e⟩,r⟩=>⟨_,e,(λ_ z=>nomatch z),λ_ a=>⟨l,it,⟨n,a⟩,r⟩⟩
section
variable {β:Type}{F:Heap->Addr->β->Prop}{Y:Cx}{pins:cY}{D it:Addr}{fp:List Addr}{tn:MD}{J:It}{W:MM β}{Fin:β->St->Hp->Prop}{R:Result->Shared->Prop}{tg:Expr}{g:TG}{Nx:Nat->Nat->β->St->Hp->Prop}
noncomputable def EU (F:Heap->Addr->β->Prop)(Y:Cx)(a:cY)(D:Addr)(fp:List Addr)(d:MD)(W:MM β)(n:Nat)(s:Shared):Prop :=
 ∃i σ H c,aR Y a σ H s/\d i s.heap/\(∀b∈fp,H b=none)/\H D=none/\F s.heap D c/\W i n c σ H
structure TX (F:Heap->Addr->β->Prop)(Y:Cx)(D:Addr)(fp:List Addr)(tn:MD)(i:Nat)(acc:β)(more:cY)(o:Obj):Prop where
 fill:∀h:Heap,h.get? D=some o->F h D acc
 own:∀p∈more,p.1∈fp
 back:∀{pl:cY} {σ:St} {H:Hp} {s:Shared},(∀p∈more,p∈pl)->aR Y pl σ H s->tn i s.heap/\∀b∈fp,H b=none
structure rW (Y:Cx)(pins:cY)(D:Addr)(fp:List Addr):Prop where
 off:D∉fp
 list:∀H:Hp,H D=none->fV Y pins H D
 iter:∀H:Hp,(∀b∈fp,H b=none)->∀b∈fp,fV Y pins H b
theorem QW {a:Addr×Obj}{pn b more:cY}:a∈pn++(b++a::more):=by simp
theorem rW.pin {σ:St}{H:Hp}{s:Shared}{o:Obj}(P:rW Y pins D fp)(I:aR Y pins σ H s)(b:H D=none)(ho:s.heap.get? D=some o)(hc:∀v,o.data≠.cell v):aR Y (pins++[(D,o)]) σ H s:=by
 refine I.pins_of λp a=>?_;simp only[cs,cp]at a;rcases a with a|rfl
 ·exact I.pin p (bv _ a)
 ·have f:=P.list H b;exact⟨ho,f.1,f.2.1,f.2.2.1,hc⟩
theorem rW.more {o:Obj}(P:rW Y pins D fp)(H:Hp)(d:∀b∈fp,H b=none)(b:Addr)(c:b∈fp):fV Y (pins++[(D,o)]) H b:=by
 have f:=P.iter H d b c;refine⟨f.1,f.2.1,f.2.2.1,f.2.2.2.1,f.2.2.2.2.1,λp a z=>?_⟩;rw[←cj,cs,cp]at a;rcases a with a|rfl
 ·exact f.2.2.2.2.2 p a z
 ·exact P.off (show D∈fp from(show D=b from z) ▸ c)
theorem DW {more:cY}{o:Obj}{σ:St}{H:Hp}{s:Shared}(I:aR Y (pins++(D,o)::more) σ H s):H D=none/\s.heap.get? D=some o/\aR Y pins σ H s:=by have q:=I.pin (D,o) QW;exact⟨q.2.1,q.1,I.pins_of λp a=>I.pin p (by simp[a])⟩
theorem xK (hF:MF F)(hx:∀e s,¬Y.xe e s)(T:x0 Y tg J fp it tn)(P:rW Y pins D fp)(hg:PG Y tg g)
  (turn:∀i m a σ H,W i m a σ H->(J.stop i H/\Fin a σ H)∨(J.go i H/\∀x H',J.yld i H x H'->g x σ H' (Nx i m a)))
  (hR:∀s σ H a,aR Y pins σ H s->H D=none->F s.heap D a->Fin a σ H->R (.ok .next) s)
  (n:Nat) (s:Shared) (B:EU F Y pins D fp tn W n s) {E:cE} :
  Drawn (model Y.prog Y.w) Y.A Y.env E (.ref it) tg (R (.ok .next))
   (λt=>∃i a o more σ H,TX F Y D fp tn (i+1) a more o/\aR Y (pins++(D,o)::more) σ H t/\Nx i n a σ H) s:=by
 obtain⟨i,σ,H,a,I,st,K,fD,O,w⟩:=B;obtain⟨o,ho,v,f⟩:=hF _ _ _ O;have Ip:=P.pin I fD ho v;rcases turn i n a σ H w with⟨stop,fin⟩|⟨go,step⟩
 ·refine thn (T.done i _ s σ H _ Ip (P.more H K) st stop) λr t ⟨l,It⟩=>?_;subst l;obtain⟨Z,X,U⟩:=DW It;exact hR t σ H a U Z (f _ X) fin
 ·refine thn (T.item i _ s σ H _ Ip (P.more H K) st go) λr t ⟨u,l,q⟩=>?_;subst l;refine thn q λ_ t1 ⟨x,G,I1,r1,N,c,C⟩=>?_;have I1p:=I1.pinned (P.more G C) (T.obj _ _ c);rw[cj]at I1p;refine wpAny_mono (hg _ t1 σ G x u _ I1p r1 (step x G N)) (λ_ t2 ⟨L,H2,I2,S⟩=>?_) λe t z=>(hx e t z).elim;refine⟨i,a,o,tW fp t1.heap,L,H2,⟨f,λp hp=>(wR hp).1,λ{pl σ3 H3 Q} j I3=>?_⟩,I2,S⟩;have h:∀b∈fp,∀o,t1.heap.get? b=some o->Q.heap.get? b=some o/\H3 b=none:=λb d o e=>by have z:=I3.pin (b,o) (bv _ (j _ (nX d e)));exact⟨z.1,z.2.1⟩
  refine⟨T.keep _ _ _ c λb d o e=>(h b d o e).1,λb d=>?_⟩;obtain⟨o,e,_⟩:=T.obj _ _ c b d;exact(h b d o e).2
noncomputable def MG (F:Heap->Addr->β->Prop)(Y:Cx)(D:Addr)(lay:Sem Unit)(q:St->Hp->(β->Hp->Prop)->Prop)(d:β):Prop :=
 ∀(E:cE) (pl:cY) (o:Obj) (σ:St) (H:Hp) (t:Shared) (N:β->Hp->Prop),aR Y pl σ H t->(D,o)∈pl->(∀h:Heap,h.get? D=some o->F h D d)->q σ H N ->
  wpAny (model Y.prog Y.w) Y.A lay (λ_ t3=>∃b c tk e a,t3={b with heap:=c,toks:=tk}/\aR Y pl σ e b/\Heap.SameBut D b.heap c/\F c D a/\N a e) E t
theorem BO {g:lR}{lay:Sem Unit}{L:TT}{tl:St->Hp->(β->Hp->Prop)->Prop}{i n:Nat}{c:β}{more:cY}{o:Obj}{σ:St}{H:Hp}{t:Shared}{E:cE}(Z:∀e s,¬Y.xe e s)(P:rW Y pins D fp)(T:x0 Y tg J fp it tn)(ht:P1 Y g L)(hl:MG F Y D lay tl c)
  (B:TX F Y D fp tn (i+1) c more o) (I:aR Y (pins++(D,o)::more) σ H t)
  (q:L σ H λb Q=>if b=true then tl σ Q λa H4=>∃d,d<n/\W (i+1) d a σ H4 else ∃d,d<n/\W (i+1) d c σ Q) :
  CN (model Y.prog Y.w) Y.A Y.env E g lay (λt=>∃m,m<n/\EU F Y pins D fp tn W m t) t:=by
 refine wpAny_mono (ht _ t σ H _ I q) (λok t1 ⟨S,K,j⟩=>?_) λe t z=>(Z e t z).elim;cases ok
 ·rw[ab Bool.false_ne_true]at j⊢;obtain⟨m,v,w⟩:=j;obtain⟨G,C⟩:=B.back (λp u=>by simp[u]) K;obtain⟨l,N,r⟩:=DW K;exact⟨m,v,i+1,σ,S,c,r,G,C,l,B.fill _ N,w⟩
 ·rw[ai rfl]at j⊢;refine thn (hl _ _ o σ S t1 _ K (by simp) B.fill j) λ_ t3 ⟨U,h3,tk,R,h,e3,O,X,f3,m,v,w⟩=>?_;subst e3;obtain⟨G,C⟩:=B.back (λp u=>by simp[u]) O;obtain⟨l,N,r⟩:=DW O;have f:=P.list R l;have far:∀b o,b≠D->U.heap.get? b=some o->h3.get? b=some o:=λb o x e=>X.extBut b o x e;exact⟨m,v,i+1,σ,R,h,r.turned (t':=tk) far f.1 f.2.1 f.2.2.2.1 f.2.2.2.2.1 f.2.2.2.2.2,T.keep _ _ _ G λb x o e=>far b o (λz=>P.off (z ▸ x)) e,C,l,f3,w⟩
theorem CN.go {a:lR}{lay:Sem Unit}{c:Code}{n:Nat}{t:Shared}{E:cE}(h:CN (model Y.prog Y.w) Y.A Y.env E a lay (λt=>∃m,m<n/\EU F Y pins D fp tn W m t) t) :
  wpAny (model Y.prog Y.w) Y.A (layOn a lay Y.env c) (λf t=>f = .again c/\∃m,m<n/\EU F Y pins D fp tn W m t) E t :=
 CN.run (thn h λok t q=>by
  cases ok
  ·exact⟨rfl,q⟩
  ·exact thn q λ_ _ q=>⟨rfl,q⟩)
end
noncomputable def tlLst (b:TE)(a:List V):St->Hp->(List V->Hp->Prop)->Prop:=λσ H N=>b σ H λy c=>a.length<sizeLine/\N (a++[y]) c
theorem BN {Y:Cx}{D:Addr}{c:Expr}{d:TE}{b:List V}(r:∀e s,¬Y.xe e s)(A:PE Y c d):MG PF Y D (zN c (.ref D) Y.env) (tlLst d b) b:=by
 intro E pl o σ H t N I u x q;refine aa (wpAny_mono (A _ t σ H _ I q) (λy f ⟨i,C,h,l,v,w⟩=>?_) λe t z=>(r e t z).elim);obtain⟨hz,items,p,g⟩:=x _ (h.pin (D,o) (bv _ u)).1;have a:items.size<=sizeLine:=by rw[←bo,←g.length];exact hz
 refine aa (wpAny_list_append_plain (hsz:=a) p λB m j=>al ⟨f,B,f.toks,C,b++[i],rfl,h,j,⟨?_,items.push y,m,?_⟩,w⟩)
 ·rw[ar];exact v
 ·rw[Array.toList_push];exact g.append (.cons l .nil)
def P5 (J:It)(g:TG)(f:TT)(h:TE)(Fin:List V->Hp->Prop)(W:CW):Prop:=∀i m a σ H,W i m a σ H ->
 (J.stop i H/\Fin a H) ∨
 (J.go i H/\∀x H',J.yld i H x H'->g x σ H' λd l=>f d l λb e =>
  if b=true then h d e λy j=>a.length<sizeLine/\∃c,c<m/\W (i+1) c (a++[y]) d j else ∃c,c<m/\W (i+1) c a d e)
noncomputable def tComp (src:List (Option Nat))(b:TI)(g:TG)(c:TT)(d:TE):TE:=λσ H Q=>b σ H λJ e=>∃W:CW,(∃m,W 0 m [] (stC src σ) e)/\P5 J g c d (λa H=>∀p,H p=none->Q (.ref p) (upd H p (.lst a))) W
section
variable {prog:Program}{w:World}{A:Around}{ce:Expr}{c:Comprehension}{rest:List Comprehension}
theorem B8 (i:MN ce)(e:clausesOf ce=c::rest)(j:c.is_async=0){it a:Value}{env:Env}{R:Result->Shared->Prop}{s:Shared}(l:codeAny (model prog w) A (.compLoop ce 0 it a env) R s)
  (h:wpAny (model prog w) A (pyIter it) (λd f=>codeAny (model prog w) A (.compLoop ce 0 d a env) R f) (XN prog w A env R) s) :
  codeAny (model prog w) A (.compStart ce 0 it a env) R s:=by
 apply codeAny_of_tree;apply IM i;obtain⟨m,iter,g,_⟩:=c;cases j;unfold compStart;rw[e];change wpAny _ _ (ask >>= _) _ _ s;apply aa;apply wpAny_askSetting;by_cases b:(⟨(model prog w).prog,(model prog w).w.params⟩:Setting).params.followText "comprehension-iter-twice" = true
 ·rw[ai b];exact al ⟨rfl,l⟩
 ·rw[ab b];refine aa (wpAny_rule ?_);change wpAny _ _ (standAt iter.pos >>= _) _ _ s;exact aa (wpAny_standAt (aa (thn h λd f z=>al ⟨rfl,z⟩)))
noncomputable def CL {β:Type}(F:Heap->Addr->β->Prop)(b:β)(prog:Program)(w:World)(A:Around)(a:Sem Value):Prop :=
 ∀(Q:cE) (E:cE) (s:Shared),(∀o:Obj,o.isFreed=false->(∀h:Heap,h.get? s.heap.objs.size=some o->F h s.heap.objs.size b)->Q (.ref s.heap.objs.size) {s with heap:=s.heap.push o})->wpAny (model prog w) A a Q E s
theorem wZ:CL PF [] prog w A (newList []):=λ_ _ _ q=>ca (q _ rfl λ_ e=>⟨av _,#[],⟨_,e⟩,.nil⟩)
end
section
variable {β:Type}{F:Heap->Addr->β->Prop}{e0:β}{mk:Sem Value}{ce:Expr}{cls:List Comprehension}{ob:HO}
variable {X:Cx}{scope:Scope}{N':aQ}{src:List (Option Nat)}{pins:cY}{σ:St}{H₂:Hp}{s₂:Shared}{fp:List Addr}{it:Addr}{tn:MD}{J:It}{tg iter:Expr}{ifs:lR}
theorem O1 {pl:cY}{j:St}{H':Hp}{g:Shared}{C D:Addr}(s:aR X pins σ H₂ s₂)(m:∀b∈fp,fV X pins H₂ b)
  (f:aR (blk X scope N' C s₂ H₂ fp) pl j H' g) (p:s₂.heap.objs.size<=D) (i:H' D=none) (ok:bZ X.prog X.w (upd H' D ob) g.heap D ob):aR X pins σ (upd H' D ob) g:=by
 have u:=f.base;have h:∀b o,s₂.heap.get? b=some o->b≠D:=λb o e=>bn (bd (ba e) p);have a:∀b o,H' b=some o->b≠D:=λb o e z=>by rw[z,i]at e;cases e
 refine s.call' (ch:=fp) f.os ⟨u.keep,u.slot,λb o e n l=>?_,u.there,λb xs e=>?_,λb o xs e=>?_,λb ps e=>?_⟩ (λb o e=>?_) f.bare λb d=>?_
 ·rw[aC (h b o e)];exact u.free b o e n l
 ·have q:=u.tups b xs e;rw[aC (a b _ q)];exact q
 ·have q:=u.frzs b o xs e;rw[aC (a b _ q)];exact q
 ·obtain⟨more,q⟩:=u.tbls b ps e;exact⟨more,by rw[aC (a b _ q)];exact q⟩
 ·by_cases d:b=D
  ·subst d;rw[upd_same]at e;cases e;exact ok
  ·rw[aC d]at e;exact(f.hok b o e).stay (λ_ _ _ q=>q) (λc q=>by rw[aC (a c _ q)];exact q) λc xs q=>by rw[aC (a c _ q)];exact q
 ·obtain⟨f0,f1,f2,f3,f4,r⟩:=m b d;exact⟨f3,f1,f4,r⟩
theorem FM {P:Program}{w:World}{H:Hp}{h:Heap}{a:Addr}{b:List V}:PF h a b->bZ P w H h a (.lst b):=λ⟨hz,items,⟨n,ho⟩,r⟩=>⟨hz,items.toList,n,r,by simpa using ho⟩
structure GH (F:Heap->Addr->β->Prop)(e0:β)(X:Cx)(scope:Scope)(N':aQ)(src:List (Option Nat))(s₂:Shared)(H₂:Hp)(σ:St)(fp:List Addr)(tn:MD)(D C:Addr)(t:Shared):Prop where
 at_:s₂.heap.objs.size=D
 le:s₂.heap.objs.size<=C
 ne:D≠C
 place:rW (blk X scope N' C s₂ H₂ fp) [] D fp
 betw:∀W:MM β,(∃m,W 0 m e0 (stC src σ) H₂)->∃m,EU F (blk X scope N' C s₂ H₂ fp) [] D fp tn W m t
theorem JM {h h':Heap}{o a:Obj}(ho:o.isFreed=false)(c:Heap.SameBut (h.push o).objs.size ((h.push o).push a) h'):(∀b x,h.get? b=some x->h'.get? b=some x)/\h'.get? h.objs.size=some o:=by have key:∀b x,(h.push o).get? b=some x->h'.get? b=some x:=λb x e=>c.extBut b x (bn (ba e)) (af a e);exact⟨λb x e=>key b x (af o e),key _ _ (au h ho)⟩
theorem rS {RR:Value->Addr->Result->Shared->Prop}{E:cE}(q:CL F e0 X.prog X.w X.A mk)(L:MN ce)(s:clausesOf ce=⟨tg,iter,ifs,0⟩::cls)(S:bF X scope N' src)(h:aR X pins σ H₂ s₂)(T:∀C,x0 (blk X scope N' C s₂ H₂ fp) tg J fp it tn)(i:tn 0 s₂.heap)(r:∀b∈fp,fV X pins H₂ b)
  (k:∀D C t,GH F e0 X scope N' src s₂ H₂ σ fp tn D C t->codeAny (model X.prog X.w) X.A (.compLoop ce 0 (.ref it) (.ref D) (blk X scope N' C s₂ H₂ fp).env) (RR (.ref D) C) t) :
  wpAny (model X.prog X.w) X.A mk (λl G=>wpAny (model X.prog X.w) X.A (newFunctionEnv scope X.env.globals (closL X.env.cells scope.names []) [] X.env.qual none .none (some X.env)) (λd B =>
   codeAny (model X.prog X.w) X.A (.compStart ce 0 (.ref it) l {d with scope:=relabel scope X.env}) (RR l d.locals) B) E G) E s₂:=by
 refine q _ _ _ λo of K=>?_;refine wpAny_newFunctionEnv S.cell (λ_ z=>nomatch z) (λu ns I=>?_) S.kind;obtain⟨g,new⟩:=JM of I;have sz:(s₂.heap.push o).objs.size=s₂.heap.objs.size+1:=Heap.size_push ..;dsimp only at ns g new⊢;rw[sz]at ns⊢;have lt:∀b∈fp,b<s₂.heap.objs.size:=λb a=>let⟨_,e,_⟩:=(T 0).obj 0 _ i b a;ba e;have j:tn 0 u:=(T 0).keep _ _ _ i λb _ o e=>g b o e;have off:s₂.heap.objs.size∉fp:=λz=>bI _ (lt _ z);have v:=S.start (tk:=s₂.toks+([]:List (Str×Value)).length) (pl:=[]) h r lt (Nat.le_succ _) g ns (λ_ z=>nomatch z);have pl:rW (blk X scope N' (s₂.heap.objs.size+1) s₂ H₂ fp) [] s₂.heap.objs.size fp:=by
  refine⟨off,λH p=>?_,λH p b a=>?_⟩
  ·have f:=h.fpOk (ac _) p;refine⟨p,bn (Nat.lt_succ_self _),λz=>?_,.inr (ac _),λx c e=>f.2.2.2.2.1 x c (S.cl h e),λ_ z=>nomatch z⟩;exact(cr.mp (h.stkSub _ z)).elim f.2.1 f.2.2.1
  ·exact⟨p b a,bn (Nat.lt_succ_of_lt (lt b a)),v.ok.exfs b a,.inl a,λx c e=>(r b a).2.2.2.2.1 x c (S.cl h e),λ_ z=>nomatch z⟩
 have N:GH F e0 X scope N' src s₂ H₂ σ fp tn s₂.heap.objs.size (s₂.heap.objs.size+1) {s₂ with heap:=u,toks:=s₂.toks+([]:List (Str×Value)).length} :=
  ⟨rfl,Nat.le_succ _,bn (Nat.lt_succ_self _),pl,λW ⟨m,w⟩=>⟨m,0,_,H₂,e0,v,j,λb a=>(r b a).1,h.hok.fresh (ac _),K _ new,w⟩⟩
 have go:=k _ _ _ N;exact B8 L s rfl go ((T 0).self _ 0 _ _ _ j go)
theorem GH.out {D C:Addr}{t s:Shared}{H':Hp}{a:St}(B:GH F e0 X scope N' src s₂ H₂ σ fp tn D C t)(e:aR X pins σ H₂ s₂)(c:∀b∈fp,fV X pins H₂ b)(I:aR (blk X scope N' C s₂ H₂ fp) [] a H' s)(d:H' D=none)(ok:bZ X.prog X.w (upd H' D ob) s.heap D ob) :
  H' C=none/\(∃m,s.heap.Ns C m)/\aR X pins σ (upd H' D ob) s :=
 ⟨I.free,⟨_,I.loc.choose_spec.1⟩,O1 e c I (Nat.le_of_eq B.at_) d ok⟩
variable {elt:Expr}{pos:Pos}{g:TG}{tt:TT}{te:TE}{tl:β->St->Hp->(β->Hp->Prop)->Prop}
def vO (J:It)(g:TG)(h:TT)(tl:β->St->Hp->(β->Hp->Prop)->Prop)(Fin:β->Hp->Prop)(W:MM β):Prop:=∀i m c σ H,W i m c σ H ->
 (J.stop i H/\Fin c H) ∨
 (J.go i H/\∀x H',J.yld i H x H'->g x σ H' λe l=>h e l λb f =>
  if b=true then tl c e f λa j=>∃d,d<m/\W (i+1) d a e j else ∃d,d<m/\W (i+1) d c e f)
theorem uX {W:MM β}{Fin:β->Hp->Prop}{RR:Value->Addr->Result->Shared->Prop}{E:cE}{lay:Value->Env->Sem Unit}{obj:Addr->β->HO}{ps:Pos}(U:MF F)(j:CL F e0 X.prog X.w X.A mk)(q:MN ce)(l:clausesOf ce=⟨tg,iter,ifs,0⟩::cls)(R:∀it a env,compTurn ce 0 it a env=nT ps it tg env (layOn ifs (lay a env) env (.compLoop ce 0 it a env)))(hok:∀H h D a,F h D a->bZ X.prog X.w H h D (obj D a))
  (S:bF X scope N' src) (v:aR X pins σ H₂ s₂) (T:∀C,x0 (blk X scope N' C s₂ H₂ fp) tg J fp it tn) (d:tn 0 s₂.heap) (r:∀b∈fp,fV X pins H₂ b)
  (Q:∀C,PG (blk X scope N' C s₂ H₂ fp) tg g) (N:∀C,P1 (blk X scope N' C s₂ H₂ fp) ifs tt) (P:∀C D a,MG F (blk X scope N' C s₂ H₂ fp) D (lay (.ref D) (blk X scope N' C s₂ H₂ fp).env) (tl a) a)
  (w0:∃m,W 0 m e0 (stC src σ) H₂) (turn:vO J g tt tl Fin W)
  (p:∀D C e H' a,s₂.heap.objs.size<=C->H' C=none->D≠C->(∃m,e.heap.Ns C m)->aR X pins σ (upd H' D (obj D a)) e->H' D=none->Fin a H'->RR (.ref D) C (.ok .next) e) :
  wpAny (model X.prog X.w) X.A mk (λa G=>wpAny (model X.prog X.w) X.A (newFunctionEnv scope X.env.globals (closL X.env.cells scope.names []) [] X.env.qual none .none (some X.env)) (λc x =>
   codeAny (model X.prog X.w) X.A (.compStart ce 0 (.ref it) a {c with scope:=relabel scope X.env}) (RR a c.locals) x) E G) E s₂:=by
 refine rS j q l S v T d r λD C t B=>?_;obtain⟨m,b⟩:=B.betw W w0;refine uF q (R ..) (EU F (blk X scope N' C s₂ H₂ fp) [] D fp tn W) (λn s b=>?_) m b;refine(xK (Y:=blk X scope N' C s₂ H₂ fp) U (λ_ _ z=>z) (T C) B.place (Q C) turn (λs σc H a I u O fin=>?_) n s b).mono (λ_ z=>z) ?_
 ·obtain⟨o1,o2,L⟩:=B.out v r I u (hok _ _ _ _ O);exact p D C s H a B.le o1 B.ne o2 L u fin
 ·rintro t ⟨i,a,o,more,σ3,H3,f,Z,K⟩;exact CN.go (BO (W:=W) (λ_ _ z=>z) B.place (T C) (N C) (P C D a) f Z K)
theorem B2 {Q:VK}{D C:Addr}{a:Shared}{H':Hp}(p:aR X pins σ H₂ s₂)(l:s₂.heap.objs.size<=C)(h:H' C=none)(g:D≠C)(d:∃m,a.heap.Ns C m)(r:aR X pins σ (upd H' D ob) a)(q:Q (.ref D) (upd H' D ob)) :
  compPost (model X.prog X.w) X.A X.xe none (EP X pins σ Q) (.ref D) C (.ok .next) a:=by
 obtain⟨m,i⟩:=d;have f:=p.fpOk (H':=upd H' D ob) l (by rw[aC (Ne.symm g)];exact h);exact⟨m,i,λh' c=>⟨.ref D,_,r.turned (t':=a.toks) (λb o j e=>c.extBut b o j e) f.1 f.2.1 f.2.2.2.1 f.2.2.2.2.1 f.2.2.2.2.2,rfl,q⟩⟩
theorem LX {r:iJ}{D C:Addr}{c:Shared}{H':Hp}{i:Nat}{y:Str}{u:Pos}(F:X.N.Nodup)(h:X.N[i]?=some y)(p:X.env.scope.names.lookup y=some .local)(H:aR X pins σ H₂ s₂)(G:s₂.heap.objs.size<=C)(l:H' C=none)(j:D≠C)(g:∃m,c.heap.Ns C m)(I:aR X pins σ (upd H' D ob) c)(q:r.nx (σ.set i (some (.ref D))) (upd H' D ob)) :
  compPost (model X.prog X.w) X.A X.xe (some (assign (.Name y u) X.env)) (λ_ c=>SP X pins r .next c) (.ref D) C (.ok .next) c:=by
 obtain⟨m,x⟩:=g;have f:=H.fpOk (H':=upd H' D ob) G (by rw[aC (Ne.symm j)];exact l);refine wpAny_assign_Name (wK I F h (.inl p) (v:=.ref D) rfl (λt It ⟨a,s,E⟩=>?_) (.inr p));have ne:C≠a:=E.elim (λe=>e ▸ f.2.1) λe z=>f.2.2.2.2.1 y a e z.symm;exact⟨m,x.sameBut s ne,λh' d=>⟨_,_,It.turned (t':=t.toks) (λb o B e=>d.extBut b o B e) f.1 f.2.1 f.2.2.2.1 f.2.2.2.2.1 f.2.2.2.2.2,q⟩⟩
theorem GM {gens:List Comprehension}{y:Str}{b a:Pos}{Q:Flow->Shared->Prop}{s:Shared}(c:swapsWith (.ListComp elt gens scope pos) (some (.Name y b)) a.line X.env=pure true)
  (h:wpAny (model X.prog X.w) X.A (comprehension (.ListComp elt gens scope pos) scope X.env (firstIterPos gens pos) (newList []) (firstAsync gens) (firstIter gens X.env) (some (assign (.Name y b) X.env))) (λ_=>Q .next) X.xe s) :
  wpAny (model X.prog X.w) X.A (exec (.Assign [.Name y b] (.ListComp elt gens scope pos) a) X.env) Q X.xe s:=by
 have u:wpAny (model X.prog X.w) X.A (evalThenUse (.ListComp elt gens scope pos) X.env (assign (.Name y b) X.env)) (λ_=>Q .next) X.xe s:=aa (thn h λ_ _ q=>al q);exact(exec_Assign_Name_used y b _ a c) ▸ aa (wpAny_standAt (aa (thn u λ_ _ q=>al q)))
theorem qY {j:TI}{c:Option (Value->Sem Unit)}{Q:cE}{s:Shared}{H:Hp}{K:It->Hp->Prop}{ps:Pos}(i:clausesOf ce=⟨tg,iter,ifs,0⟩::cls)(S:bF X scope N' src)(p:PI X tg iter j)(o:∀x,foldedSetIterable iter X.env x=pure x)(I:aR X pins σ H s)(h:j σ H K)
  (k:∀d H₂ it fp g J,aR X pins σ H₂ d->n9 X.prog X.w X.K tg J fp it g->g 0 d.heap->(∀b∈fp,fV X pins H₂ b)->K J H₂ ->
   wpAny (model X.prog X.w) X.A mk (λe m=>wpAny (model X.prog X.w) X.A (newFunctionEnv scope X.env.globals (closL X.env.cells scope.names []) [] X.env.qual none .none (some X.env)) (λa l =>
    codeAny (model X.prog X.w) X.A (.compStart ce 0 (.ref it) e {a with scope:=relabel scope X.env}) (compPost (model X.prog X.w) X.A X.xe c Q e a.locals) l) X.xe m) X.xe d) :
  wpAny (model X.prog X.w) X.A (comprehension ce scope X.env ps mk false (eval iter X.env) c) Q X.xe s:=by
 refine wpAny_comprehension_free i o (vW (S.cells I)) S.kind S.names (thn (p pins s σ H K I h) λ_ _ q=>thn q ?_);rintro _ d ⟨it,fp,g,J,H₂,rfl,r,T,st,f,q⟩;exact k d H₂ it fp g J r T st f q
theorem g9 {c:TI}(hc:X.calm=true)(S:bF X scope N' src)(l:PI X tg iter c)(m:∀C s H fp,PG (blk X scope N' C s H fp) tg g)(i:∀C s H fp,P1 (blk X scope N' C s H fp) ifs tt)(o:∀C s H fp,PE (blk X scope N' C s H fp) elt te)
  (j:∀x,foldedSetIterable iter X.env x=pure x:=by intro _;rfl):PE X (.ListComp elt [⟨tg,iter,ifs,0⟩] scope pos) (tComp src c g tt te):=by
 intro d s σ H Q I h;rw[eval_ListComp];refine qY rfl S l j I h λa H₂ it fp w J e T st f ⟨W,w0,turn⟩=>?_;exact uX (lay:=zN elt) (tl:=tlLst te) (obj:=λ_=>.lst) w5 wZ (.lst ..) rfl (AT elt tg iter ifs scope pos) (λ_ _ _ _=>FM) S e (λC=>n9.y (Y:=blk X scope N' C a H₂ fp) T hc) st f (λC=>m C a H₂ fp) (λC=>i C a H₂ fp) (λC D b=>BN (λ_ _ z=>z) (o C a H₂ fp)) w0 turn λD C A H' b v u t r q p fin=>B2 e v u t r q (fin D p)
theorem gE {j:TI}{i:Nat}{y:Str}{l a:Pos}(w:X.N.Nodup)(d:X.N[i]?=some y)(p:X.env.scope.names.lookup y=some .local)(c:swapsWith (.ListComp elt [⟨tg,iter,ifs,0⟩] scope pos) (some (.Name y l)) a.line X.env=pure true)
  (hc:X.calm=true) (S:bF X scope N' src) (t:PI X tg iter j) (u:∀C s H fp,PG (blk X scope N' C s H fp) tg g) (q:∀C s H fp,P1 (blk X scope N' C s H fp) ifs tt) (v:∀C s H fp,PE (blk X scope N' C s H fp) elt te)
  (r:∀x,foldedSetIterable iter X.env x=pure x:=by intro _;rfl):PS X (.Assign [.Name y l] (.ListComp elt [⟨tg,iter,ifs,0⟩] scope pos) a) (tAsg (tComp src j g tt te) (gName i)):=by
 intro m s σ H D I h;refine GM c ?_;refine qY rfl S t r I h λb H₂ it fp L J o T st f ⟨W,w0,turn⟩=>?_;exact uX (lay:=zN elt) (tl:=tlLst te) (obj:=λ_=>.lst) w5 wZ (.lst ..) rfl (AT elt tg iter ifs scope pos) (λ_ _ _ _=>FM) S o (λC=>n9.y (Y:=blk X scope N' C b H₂ fp) T hc) st f (λC=>u C b H₂ fp) (λC=>q C b H₂ fp) (λC D e=>BN (λ_ _ z=>z) (v C b H₂ fp)) w0 turn λD C O H' e K G F E B A fin=>LX w d p o K G F E B (fin D A)
end
noncomputable def zH:aQ->Bool
 | []=>true
 | x::r=>!r.contains x && zH r
theorem wU:∀{l:aQ},zH l=true->l.Nodup
 | [],_=>List.nodup_nil
 | x::r,h=>by simp only[zH,Bool.and_eq_true,Bool.not_eq_true',List.contains_eq_mem,decide_eq_false_iff_not]at h;exact cx.mpr ⟨h.1,wU h.2⟩
noncomputable def compB (N:aQ)(names:List (Str×NameKind))(scope:Scope)(N':aQ)(src:List (Option Nat)):Bool :=
 decide (scope.kind = .function) && scope.names.all (λy=>decide (y.2≠.cell)) && scope.names.all (λy=>decide (y.2≠.local) || decide (scope.names.lookup y.1=some .local)) &&
 scope.names.all (λy=>decide (y.2≠.free) || (decide (names.lookup y.1=some .cell) || decide (names.lookup y.1=some .free))) && zH N' && srcOk N scope.names src N'
theorem bF.by {X:Cx}{N:aQ}{names:List (Str×NameKind)}{scope:Scope}{N':aQ}{src:List (Option Nat)}(h:compB N names scope N' src=true)(c:X.N=N)(d:X.env.scope.names=names):bF X scope N' src:=by subst c d;simp only[compB,Bool.and_eq_true,List.all_eq_true,Bool.or_eq_true,decide_eq_true_eq]at h;obtain⟨⟨⟨⟨⟨l,j⟩,i⟩,g⟩,f⟩,e⟩:=h;exact⟨l,j,λy a b=>(i y a).resolve_left λz=>z b,λy a b=>(g y a).resolve_left λz=>z b,wU f,e⟩
def cC (P:Program)(w:World)(K:PySem.W.Frag)(mg:fR)(base:Heap)(CX:AO)(k:Nat)(x:Str)(sp:Sp):Prop :=
 ∃f a ps,bW P w K mg base CX k f a ps sp/\mg x=some (.ref f)/\PySem.W.keepIn K (.ref f)=true/\gA K a ps []
section
variable {X:Cx}{CX:AO}{k:Nat}{sp:Sp}{E:XK}{x:Str}{p pos:Pos}{e:Expr}{es:lR}{t:TA}
theorem aL (O:cC X.prog X.w X.K X.mg X.base CX k x sp)(d:eX k X.A)(c:jY CX X E)(i:Gl X x)(m:PA X (e::es) t)(b:(x == ("__debug__" : Str))=false:=by decide)
  (j:starEach (e::es) X.env=(false,eval e X.env)::starEach es X.env:=by rfl) (a:(backTo pos (starEach es X.env)).any (·.1)=false:=by rfl):PE X (.Call (.Name x p) (e::es) [] pos) (tCall sp [] E t):=by
 obtain⟨f,o,ps,F,g,h,l⟩:=O;exact NH F d i g h l .nil c m b j a
theorem g8 {v:V}(a:∃u,X.mg x=some u/\aX v u)(b:Gl X x)(hd:(x == ("__debug__" : Str))=false:=by decide):PE X (.Name x pos) (tC v):=by obtain⟨u,h,r⟩:=a;exact NG b h r hd
end
def JA (P:Program)(w:World)(K:PySem.W.Frag)(mg:fR)(base:Heap)(CX:AO)(k:Nat)(C:Addr)(m:Str)(sp:Sp):Prop :=
 ∃f a ps,bW P w K mg base CX k f a ps sp/\PC K C m f/\gA K a ps []/\JD K C
section
variable {X:Cx}
noncomputable def ixV (H:Hp):V->V->Option V
 | .ref p,.int i=>match H p with
  | some (.lst xs)=>atI xs i
  | some (.tup xs)=>atI xs i
  | some (.frz _ (.lst xs))=>atI xs i
  | _=>none
 | .str z,.int i=>if z.length<=sizeLine then(atI z.cps.toList i).map λc=>.str ⟨#[c]⟩else none
 | _,_=>none
theorem cU:MK X (λx y H Q=>∃v,ixV H x y=some v/\Q v H):=by
 intro a b d s σ H x y v u Q I j g h l;obtain⟨z,e,q⟩:=h;refine LE a b d s σ H x y v u Q I j g ?_ l;cases x with
 | ref p =>
  cases y with
  | int i =>
   unfold ixV at e;dsimp only at e;split at e
   ·rename_i xs f;exact .inl ⟨p,xs,i,z,rfl,rfl,fQ.of f,e,q⟩
   ·rename_i xs f;exact .inr (.inl ⟨p,xs,i,z,rfl,rfl,iE.of f,e,q⟩)
   ·rename_i o xs f;exact .inl ⟨p,xs,i,z,rfl,rfl,.inl (.inr ⟨o,f⟩),e,q⟩
   ·cases e
  | _=>cases e
 | str t =>
  cases y with
  | int i =>
   unfold ixV at e;dsimp only at e;split at e
   ·rename_i hz;cases ea:atI t.cps.toList i with
    | none=>rw[ea]at e;cases e
    | some c =>
     rw[ea]at e;cases e;exact .inr (.inr ⟨t,i,c,rfl,rfl,hz,ea,q⟩)
   ·cases e
  | _=>cases e
 | _=>cases e
noncomputable def lenV (H:Hp):V->Option Nat
 | .ref p=>match H p with
  | some (.lst xs)=>some xs.length
  | some (.tup xs)=>some xs.length
  | some (.frz _ (.lst xs))=>some xs.length
  | some (.dK a)=>some a.length
  | _=>none
 | .str z=>if z.length<=sizeLine then some z.length else none
 | _=>none
theorem cL.or' {f:Value}{r c:List V->Hp->VK->Prop}(h:cL X f r)(h':cL X f c):cL X f (λxs H Q=>r xs H Q∨c xs H Q):=by
 intro a s σ H xs us Q I b q;rcases q with q|q
 ·exact h a s σ H xs us Q I b q
 ·exact h' a s σ H xs us Q I b q
theorem cL.imp {f:Value}{r b:List V->Hp->VK->Prop}(h:cL X f r)(i:∀xs H Q,b xs H Q->r xs H Q):cL X f b:=λa s σ H xs us Q I c q=>h a s σ H xs us Q I c (i _ _ _ q)
theorem jL.imp {f:Value->Value->Sem Value}{r b:R2}(h:jL X f r)(i:∀x y H Q,b x y H Q->r x y H Q):jL X f b:=λa s σ H x y v u Q I d c q=>h a s σ H x y v u Q I d c (i _ _ _ _ q)
noncomputable def r1 (f:Hp->V->Option V):List V->Hp->VK->Prop:=λxs H Q=>∃x v,xs=[x]/\f H x=some v/\Q v H
theorem bM:cL X (.builtin "len") (r1 λH x=>(lenV H x).map λn=>.int n):=by
 refine((lD.or' AG).or' IW).imp λxs H Q h=>?_;obtain⟨x,v,rfl,e,q⟩:=h;cases x with
 | ref p =>
  unfold lenV at e;dsimp only at e;split at e
  ·rename_i xs a;cases e;exact .inl (.inl ⟨p,xs,rfl,.inl (fQ.of a),q⟩)
  ·rename_i xs a;cases e;exact .inl (.inl ⟨p,xs,rfl,.inr (iE.of a),q⟩)
  ·rename_i o xs a;cases e;exact .inl (.inl ⟨p,xs,rfl,.inl (.inl (.inr ⟨o,a⟩)),q⟩)
  ·rename_i b a;cases e;exact .inr ⟨p,b,rfl,a,q⟩
  ·cases e
 | str z =>
  unfold lenV at e;dsimp only at e;split at e
  ·rename_i hz;cases e;exact .inl (.inr ⟨z,rfl,hz,q⟩)
  ·cases e
 | _=>cases e
noncomputable def intV:V->Option V
 | .int i=>some (.int i)
 | .bl k=>some (.int (if k then 1 else 0))
 | _=>none
theorem q8:cL X (.type "int") (r1 λ_ x=>intV x):=by
 refine IX.imp λxs H Q h=>?_;obtain⟨x,v,rfl,e,q⟩:=h;cases x with
 | int i=>cases e;exact .inl ⟨i,rfl,q⟩
 | bl k=>cases e;exact .inr ⟨k,rfl,q⟩
 | _=>cases e
noncomputable def addV:V->V->Option V
 | .int i,.int j=>some (.int (i+j))
 | .str i,.str j=>if i.length+j.length<=sizeLine then some (.str (i++j))else none
 | _,_=>none
noncomputable def catO (H:Hp):V->V->Option HO
 | .ref a,.ref b=>match H a,H b with
  | some (.lst xs),some (.lst ys)=>if xs.length+ys.length<=sizeLine then some (.lst (xs++ys))else none
  | some (.tup xs),some (.tup ys)=>if xs.length+ys.length<=sizeLine/\xs≠[]/\ys≠[]then some (.tup (xs++ys))else none
  | _,_=>none
 | _,_=>none
noncomputable def rAddF:R2:=λx y H Q=>(∃v,addV x y=some v/\Q v H)∨(∃o,catO H x y=some o/\∀p,H p=none->Q (.ref p) (upd H p o))
theorem bJ:jL X (binaryOp .Add) rAddF:=by
 refine((Q6.or DM).or (Q5.or NQ)).imp λx y H Q h=>?_;rcases h with⟨v,e,q⟩|⟨o,e,q⟩
 ·cases x with
  | int i=>cases y with
   | int j=>cases e;exact .inl (.inl ⟨i,j,rfl,rfl,q⟩)
   | _=>cases e
  | str i=>cases y with
   | str j =>
    unfold addV at e;dsimp only at e;split at e
    ·rename_i hz;cases e;exact .inl (.inr ⟨i,j,rfl,rfl,hz,q⟩)
    ·cases e
   | _=>cases e
  | _=>cases e
 ·cases x with
  | ref a=>cases y with
   | ref b =>
    unfold catO at e;dsimp only at e;split at e
    ·rename_i xs ys d c;split at e
     ·rename_i hz;cases e;exact .inr (.inl ⟨a,b,xs,ys,rfl,rfl,d,c,hz,q⟩)
     ·cases e
    ·rename_i xs ys d c;split at e
     ·rename_i hz;cases e;exact .inr (.inr ⟨a,b,xs,ys,rfl,rfl,iE.of d,iE.of c,hz.2.1,hz.1,λw=>absurd w hz.2.2,λ_=>q⟩)
     ·cases e
    ·cases e
   | _=>cases e
  | _=>cases e
end
inductive D where
 | non|bl (b:Bool)|int (i:Int)|str (x:Str)|tup (xs:List D)|lst (xs:List D)
mutual
noncomputable def bD (H:Hp):D->V->Prop
 | .non,v=>v = .non
 | .bl b,v=>v = .bl b
 | .int i,v=>v = .int i
 | .str x,v=>v = .str x
 | .tup ds,v=>∃a vs,v = .ref a/\H a=some (.tup vs)/\Reps H ds vs
 | .lst ds,v=>∃a vs,v = .ref a/\H a=some (.lst vs)/\Reps H ds vs
noncomputable def Reps (H:Hp):List D->List V->Prop
 | [],vs=>vs=[]
 | d::ds,vs=>∃v r,vs=v::r/\bD H d v/\Reps H ds r
end
mutual
theorem bD.same {H H':Hp}(s:aH H H'):∀{d:D} {v:V},bD H d v->bD H' d v
 | .non,_,h=>h
 | .bl _,_,h=>h
 | .int _,_,h=>h
 | .str _,_,h=>h
 | .tup _,_,⟨a,vs,e,h,r⟩=>⟨a,vs,e,s _ _ h,Reps.same s r⟩
 | .lst _,_,⟨a,vs,e,h,r⟩=>⟨a,vs,e,s _ _ h,Reps.same s r⟩
theorem Reps.same {H H':Hp}(s:aH H H'):∀{ds:List D} {vs:List V},Reps H ds vs->Reps H' ds vs
 | [],_,h=>h
 | _::_,_,⟨v,r,e,h,q⟩=>⟨v,r,e,bD.same s h,Reps.same s q⟩
end
theorem Reps.length {H:Hp}:∀{ds:List D} {vs:List V},Reps H ds vs->vs.length=ds.length
 | [],_,h=>by cases h;rfl
 | _::_,_,⟨v,r,e,_,q⟩=>by subst e;simp[Reps.length q]
theorem Reps.append {H:Hp}:∀{ds a:List D} {vs ws:List V},Reps H ds vs->Reps H a ws->Reps H (ds++a) (vs++ws)
 | [],_,_,_,h,k=>by cases h;exact k
 | _::_,_,_,_,⟨v,r,e,h,q⟩,k=>by subst e;exact⟨v,r++_,rfl,h,Reps.append q k⟩
theorem Reps.get {H:Hp}:∀{ds:List D} {vs:List V} {i:Nat} {v:V},Reps H ds vs->vs[i]?=some v->∃d,ds[i]?=some d/\bD H d v
 | [],_,_,_,h,e=>by cases h;simp at e
 | d::_,_,0,_,⟨v,r,e,h,q⟩,k=>by subst e;simp at k;subst k;exact⟨d,rfl,h⟩
 | _::_,_,i+1,_,⟨v,r,e,h,q⟩,k=>by subst e;simp at k;obtain⟨d,b,a⟩:=Reps.get q k;exact⟨d,by simpa using b,a⟩
theorem Reps.get' {H:Hp}:∀{ds:List D} {vs:List V} {i:Nat} {d:D},Reps H ds vs->ds[i]?=some d->∃v,vs[i]?=some v/\bD H d v
 | [],_,_,_,_,e=>by simp at e
 | d::_,_,0,_,⟨v,r,e,h,q⟩,k=>by subst e;simp at k;subst k;exact⟨v,rfl,h⟩
 | _::_,_,i+1,_,⟨v,r,e,h,q⟩,k=>by subst e;simp at k;obtain⟨w,b,a⟩:=Reps.get' q k;exact⟨w,by simpa using b,a⟩
mutual
noncomputable def eqD:D->D->Bool
 | .non,.non=>true
 | .bl a,.bl b=>a == b
 | .bl a,.int b=>(if a then 1 else 0) == b
 | .int a,.bl b=>a == (if b then 1 else 0)
 | .int a,.int b=>a == b
 | .str a,.str b=>a == b
 | .tup xs,.tup ys=>eqDs xs ys
 | .lst xs,.lst ys=>eqDs xs ys
 | _,_=>false
noncomputable def eqDs:List D->List D->Bool
 | [],[]=>true
 | x::xs,y::ys=>eqD x y && eqDs xs ys
 | _,_=>false
end
mutual
noncomputable def depD:D->Nat
 | .tup xs=>depDs xs+1
 | .lst xs=>depDs xs+1
 | _=>0
noncomputable def depDs:List D->Nat
 | []=>0
 | x::xs=>max (depD x) (depDs xs)
end
end L2
namespace L2
open PySem PySem.Spec PyProof.Rows PySem.SeqAt
mutual
theorem bD.inj {H:Hp}:∀{d e:D} {v:V},bD H d v->bD H e v->d=e
 | .non,e,v,h,k=>by cases h;cases e <;> first|rfl|(exact absurd k (by simp[bD]))|(obtain⟨_,_,z,_⟩:=k;cases z)
 | .bl b,e,v,h,k=>by cases h;cases e <;> first|(cases k;rfl)|(exact absurd k (by simp[bD]))|(obtain⟨_,_,z,_⟩:=k;cases z)
 | .int b,e,v,h,k=>by cases h;cases e <;> first|(cases k;rfl)|(exact absurd k (by simp[bD]))|(obtain⟨_,_,z,_⟩:=k;cases z)
 | .str b,e,v,h,k=>by cases h;cases e <;> first|(cases k;rfl)|(exact absurd k (by simp[bD]))|(obtain⟨_,_,z,_⟩:=k;cases z)
 | .tup ds,e,v,⟨a,vs,m,i,l⟩,k=>by
  subst m;cases e with
  | tup o =>
   obtain⟨b,j,f,c,g⟩:=k;cases f;rw[i]at c;cases c;rw[Reps.inj l g]
  | lst o =>
   obtain⟨b,j,f,c,g⟩:=k;cases f;rw[i]at c;cases c
  | _=>exact absurd k (by simp[bD])
 | .lst ds,e,v,⟨a,vs,m,i,l⟩,k=>by
  subst m;cases e with
  | lst o =>
   obtain⟨b,j,f,c,g⟩:=k;cases f;rw[i]at c;cases c;rw[Reps.inj l g]
  | tup o =>
   obtain⟨b,j,f,c,g⟩:=k;cases f;rw[i]at c;cases c
  | _=>exact absurd k (by simp[bD])
theorem Reps.inj {H:Hp}:∀{ds a:List D} {vs:List V},Reps H ds vs->Reps H a vs->ds=a
 | [],[],_,_,_=>rfl
 | [],e::a,_,h,k=>by cases h;obtain⟨_,_,z,_⟩:=k;cases z
 | d::ds,[],_,h,k=>by cases k;obtain⟨_,_,z,_⟩:=h;cases z
 | d::ds,e::a,_,⟨v,r,j,i,g⟩,⟨w,q,f,c,b⟩=>by subst j;cases f;rw[bD.inj i c,Reps.inj g b]
end
mutual
theorem fN:∀d:D,eqD d d=true
 | .non=>rfl
 | .bl b=>by simp[eqD]
 | .int b=>by simp[eqD]
 | .str b=>by simp[eqD]
 | .tup xs=>by rw[eqD];exact qV xs
 | .lst xs=>by rw[eqD];exact qV xs
theorem qV:∀ds:List D,eqDs ds ds=true
 | []=>rfl
 | d::ds=>by rw[eqDs,fN d,qV ds];rfl
end
theorem vB (n:Nat)(f:Nat->Bool):(List.range (n+1)).all f=(f 0 && (List.range n).all λj=>f (j+1)):=by have e:=List.range_succ_eq_map (n:=n);rw[e,List.all_cons,List.all_map];rfl
theorem iI:∀ds a:List D,eqDs ds a=((List.range (min ds.length a.length)).all (λj=>eqD (ds.getD j .non) (a.getD j .non)) && ds.length == a.length)
 | [],[]=>rfl
 | [],e::a=>by simp[eqDs]
 | d::ds,[]=>by simp[eqDs]
 | d::ds,e::a=>by
  rw[eqDs,iI ds a];have b:min (d::ds).length (e::a).length=min ds.length a.length+1:=by simp only[aq];omega
  rw[b,vB];simp only[List.getD_cons_zero,List.getD_cons_succ,aq];rw[Bool.and_assoc];congr 2;rw[bS];simp
section
variable {P:Program}{w:World}{H:Hp}{s:Shared}
theorem iH (ok:hV P w H s.heap){a:Addr}{vs:List V}(h:H a=some (.lst vs)):∃its:bX,aY vs its/\s.heap.IsList a its.toArray:=by obtain⟨_,its,n,r,e⟩:=ok a _ h;exact⟨its,r,⟨_,e,rfl,n,rfl⟩⟩
theorem jS (ok:hV P w H s.heap){a:Addr}{vs:List V}(h:H a=some (.tup vs)):∃its:bX,aY vs its/\s.heap.IsTuple a its.toArray:=by obtain⟨_,its,r,e⟩:=ok a _ h;exact⟨its,r,e⟩
theorem fB (A:Around):A.in1.units=A.units+1:=rfl
def TF (u:Value):Prop:=u = .none∨(∃b,u = .bool b)∨(∃i t,u = .int i t)∨(∃x t,u = .str x t)∨∃a,u = .ref a
theorem JW {H:Hp}{d:D}{v:V}{u:Value}(h:bD H d v)(r:aX v u):TF u:=by
 cases d with
 | non=>cases h;exact .inl r
 | bl b=>cases h;exact .inr (.inl ⟨b,r⟩)
 | int i=>cases h;obtain⟨t,e⟩:=r;exact .inr (.inr (.inl ⟨i,t,e⟩))
 | str x=>cases h;obtain⟨t,e⟩:=r;exact .inr (.inr (.inr (.inl ⟨x,t,e⟩)))
 | tup ds=>obtain⟨a,vs,e,_⟩:=h;subst e;exact .inr (.inr (.inr (.inr ⟨a,r⟩)))
 | lst ds=>obtain⟨a,vs,e,_⟩:=h;subst e;exact .inr (.inr (.inr (.inr ⟨a,r⟩)))
theorem OY {A:Around}{s:Shared}{u a:Value}{b:Bool}(f:TF u)(c:TF a)(g:u≠a)(q:RcAt A s u a b):EqAt A s u a b:=by intro prog w E Q h;unfold eqBool;refine cf ?_;refine wpAny_ite_split (λd=>absurd (eq_of_beq d) g) (λ_=>?_);have q':=q prog w E (λv e=>wpAny (model prog w) A (truthOfDropped v) Q E e) (wpAny_truthy_bool h);rcases f with rfl|⟨_,rfl⟩|⟨_,_,rfl⟩|⟨_,_,rfl⟩|⟨_,rfl⟩ <;> rcases c with rfl|⟨_,rfl⟩|⟨_,_,rfl⟩|⟨_,_,rfl⟩|⟨_,rfl⟩ <;> exact aa q'
theorem GA {A:Around}{d e:D}{v b:V}{u a:Value}(h:bD H d v)(k:bD H e b)(r:aX v u)(c:aX b a)(q:RcAt A s u a (eqD d e)):EqAt A s u a (eqD d e):=by
 by_cases f:u=a
 ·subst f;have i:v=b:=r.inj c;subst i;have g:=bD.inj h k;subst g;rw[fN];exact EqAt.same u
 ·exact OY (JW h r) (JW k c) f q
def sW (s:Shared)(H:Hp)(n:Nat):Prop:=∀(d e:D) (A:Around) (v v':V) (u u':Value),depD d<n->bD H d v->bD H e v'->aX v u->aX v' u'->A.units+depD d<cLine->RcAt A s u u' (eqD d e)
theorem AC {n:Nat}(C:sW s H n):∀{ds b:List D} {A:Around} {vs f:List V} {us a:bX},depDs ds<n->Reps H ds vs->Reps H b f->aY vs us->aY f a->A.units+depDs ds<cLine ->
  ∀j (g:j<us.length) (o:j<a.length),EqAt A s us[j] a[j] (eqD (ds.getD j .non) (b.getD j .non)):=by
 intro ds
 induction ds with
 | nil=>intro b A vs f us a _ h _ r _ _ j g;cases h;cases r;exact absurd g (Nat.not_lt_zero _)
 | cons d ds E =>
  intro b A vs f us a m h k r p l j g o;cases b with
  | nil=>cases k;cases p;exact absurd o (Nat.not_lt_zero _)
  | cons e b =>
   obtain⟨v,G,x,q,w⟩:=h;obtain⟨y,F,B,t,z⟩:=k;subst x B;rw[depDs]at l m;cases r with
   | cons r1 u =>
    cases p with
    | cons c i =>
     cases j with
     | zero=>exact GA q t r1 c (C d e A v y _ _ (aj (Nat.le_max_left _ _) m) q t r1 c (aj (bx (Nat.le_max_left _ _) _) l))
     | succ j=>exact E (aj (Nat.le_max_right _ _) m) w z u i (aj (bx (Nat.le_max_right _ _) _) l) j (Nat.lt_of_succ_lt_succ g) (Nat.lt_of_succ_lt_succ o)
theorem M4 (ok:hV P w H s.heap){n:Nat}(C:sW s H n){ds d:List D}{A:Around}{v l:V}{u m:Value}(E:depDs ds<n)(h:bD H (.tup ds) v)(k:bD H (.tup d) l)(r:aX v u)(x:aX l m)(K:A.units+depDs ds+1<cLine):RcAt A s u m (eqD (.tup ds) (.tup d)):=by
 obtain⟨a,vs,i,g,t⟩:=h;obtain⟨b,J,B,z,p⟩:=k;subst i B;cases r;cases x;obtain⟨its,o,F⟩:=jS ok g;obtain⟨its2,c,f⟩:=jS ok z;have q:=RcAt.tuples (A:=A) F f (by omega) (e:=λj=>eqD (ds.getD j .non) (d.getD j .non)) λj i g=>AC C E t p o c (A:=A.in1) (by rw[fB];omega) j i g;have I:its.toArray.size=ds.length:=by rw[ag,←o.length,t.length]
 have G:its2.toArray.size=d.length:=by rw[ag,←c.length,p.length]
 rw[I,G,←iI]at q;exact q
theorem M5 (ok:hV P w H s.heap){n:Nat}(J:sW s H n){ds c:List D}{A:Around}{v o:V}{u p:Value}(K:depDs ds<n)(h:bD H (.lst ds) v)(k:bD H (.lst c) o)(r:aX v u)(F:aX o p)(N:A.units+depDs ds+1<cLine):RcAt A s u p (eqD (.lst ds) (.lst c)):=by
 obtain⟨a,vs,i,g,B⟩:=h;obtain⟨b,L,I,G,x⟩:=k;subst i I;cases r;cases F;obtain⟨its,t,z⟩:=iH ok g;obtain⟨its2,d,f⟩:=iH ok G;have m:its.toArray.size=ds.length:=by rw[ag,←t.length,B.length]
 have E:its2.toArray.size=c.length:=by rw[ag,←d.length,x.length]
 by_cases hz:its.toArray.size=its2.toArray.size
 ·have q:=RcAt.lists (A:=A) z f hz (by omega) (e:=λj=>eqD (ds.getD j .non) (c.getD j .non)) λj i g=>AC J K B x t d (A:=A.in1) (by rw[fB];omega) j i g;have C:ds.length=c.length:=by rw[←m,←E];exact hz
  have l:eqD (.lst ds) (.lst c)=(List.range its.toArray.size).all λj=>eqD (ds.getD j .non) (c.getD j .non):=by rw[eqD,iI,C,Nat.min_self,m,C,beq_self_eq_true,Bool.and_true]
  rw[l];exact q
 ·have q:=RcAt.lists_lengths (A:=A) z f (bne_iff_ne.mpr hz) (by omega);have l:eqD (.lst ds) (.lst c)=false:=by rw[eqD,iI];have:(ds.length == c.length)=false:=cw.mpr (by rw[←m,←E];exact hz);rw[this,Bool.and_false]
  rw[l];exact q
inductive Kd (s:Shared):D->Value->Prop
 | non:Kd s .non .none
 | bl (b:Bool):Kd s (.bl b) (.bool b)
 | int (i:Int) (t:Tok):Kd s (.int i) (.int i t)
 | str (x:Str) (t:Tok):Kd s (.str x) (.str x t)
 | tup {ds:List D} {a:Addr} {its:bX}:s.heap.IsTuple a its.toArray->Kd s (.tup ds) (.ref a)
 | lst {ds:List D} {a:Addr} {its:bX}:s.heap.IsList a its.toArray->Kd s (.lst ds) (.ref a)
theorem FV (ok:hV P w H s.heap):∀{d:D} {v:V} {u:Value},bD H d v->aX v u->Kd s d u
 | .non,_,_,h,r=>by cases h;cases r;exact .non
 | .bl b,_,_,h,r=>by cases h;cases r;exact .bl b
 | .int i,_,_,h,r=>by cases h;obtain⟨t,rfl⟩:=r;exact .int i t
 | .str x,_,_,h,r=>by cases h;obtain⟨t,rfl⟩:=r;exact .str x t
 | .tup _,_,_,⟨_,_,e,h,_⟩,r=>by subst e;cases r;obtain⟨_,_,a⟩:=jS ok h;exact .tup a
 | .lst _,_,_,⟨_,_,e,h,_⟩,r=>by subst e;cases r;obtain⟨_,_,a⟩:=iH ok h;exact .lst a
theorem M6 {A:Around}{d e:D}{u f:Value}(a:A.units<cLine)(h:Kd s d u)(k:Kd s e f)(n1:∀xs ys,d = .tup xs->e≠.tup ys)(n2:∀xs ys,d = .lst xs->e≠.lst ys):RcAt A s u f (eqD d e):=by
 cases h with
 | non=>cases k with
  | non=>exact RcAt.none_none
  | bl c=>exact RcAt.none_bool c
  | int c t=>exact RcAt.none_int c t
  | str c t=>exact RcAt.none_str c t
  | tup l=>exact RcAt.none_tuple l a
  | lst l=>exact RcAt.none_list l a
 | bl x=>cases k with
  | non=>exact RcAt.bool_none x
  | bl c=>exact RcAt.bool_bool x c
  | int c t=>exact RcAt.bool_int x c t
  | str c t=>exact RcAt.bool_str x c t
  | tup l=>exact RcAt.bool_tuple x l a
  | lst l=>exact RcAt.bool_list x l a
 | int x b=>cases k with
  | non=>exact RcAt.int_none x b
  | bl c=>exact RcAt.int_bool x b c
  | int c t=>exact RcAt.int_int x b c t
  | str c t=>exact RcAt.int_str x b c t
  | tup l=>exact RcAt.int_tuple x b l a
  | lst l=>exact RcAt.int_list x b l a
 | str x b=>cases k with
  | non=>exact RcAt.str_none x b
  | bl c=>exact RcAt.str_bool x b c
  | int c t=>exact RcAt.str_int x b c t
  | str c t=>exact RcAt.str_str x b c t
  | tup l=>exact RcAt.str_tuple x b l a
  | lst l=>exact RcAt.str_list x b l a
 | tup m=>cases k with
  | non=>exact RcAt.tuple_none m a
  | bl c=>exact RcAt.tuple_bool c m a
  | int c t=>exact RcAt.tuple_int c t m a
  | str c t=>exact RcAt.tuple_str c t m a
  | tup l=>exact absurd rfl (n1 _ _ rfl)
  | lst l=>exact RcAt.tuple_list m l a
 | lst m=>cases k with
  | non=>exact RcAt.list_none m a
  | bl c=>exact RcAt.list_bool c m a
  | int c t=>exact RcAt.list_int c t m a
  | str c t=>exact RcAt.list_str c t m a
  | tup l=>exact RcAt.list_tuple m l a
  | lst l=>exact absurd rfl (n2 _ _ rfl)
theorem oV (ok:hV P w H s.heap):∀n,sW s H n
 | 0=>λ_ _ _ _ _ _ _ h=>absurd h (Nat.not_lt_zero _)
 | n+1=>λd e A v m u o b h k r c a=>by
  have l:A.units<cLine:=aj (Nat.le_add_right _ _) a;by_cases j:∃xs ys,d = .tup xs/\e = .tup ys
  ·obtain⟨xs,ys,rfl,rfl⟩:=j;rw[depD]at a b;exact M4 ok (oV ok n) (Nat.lt_of_succ_lt_succ b) h k r c a
  ·by_cases i:∃xs ys,d = .lst xs/\e = .lst ys
   ·obtain⟨xs,ys,rfl,rfl⟩:=i;rw[depD]at a b;exact M5 ok (oV ok n) (Nat.lt_of_succ_lt_succ b) h k r c a
   ·exact M6 l (FV ok h r) (FV ok k c) (λxs ys g f=>j ⟨xs,ys,g,f⟩) (λxs ys g f=>i ⟨xs,ys,g,f⟩)
theorem rcAtD (ok:hV P w H s.heap)(d e:D)(A:Around)(v a:V)(u b:Value)(h:bD H d v)(k:bD H e a)(r:aX v u)(c:aX a b)(f:A.units+depD d<cLine):RcAt A s u b (eqD d e):=oV ok _ d e A v a u b (Nat.lt_succ_self _) h k r c f
theorem eqAtD (ok:hV P w H s.heap)(d e:D)(A:Around)(v a:V)(u b:Value)(h:bD H d v)(k:bD H e a)(r:aX v u)(c:aX a b)(f:A.units+depD d<cLine):EqAt A s u b (eqD d e):=GA h k r c (rcAtD ok d e A v a u b h k r c f)
end
section
variable {X:Cx}
noncomputable def rEqD:R2:=λx y H Q=>∃d e,bD H d x/\bD H e y/\depD d<=60/\Q (.bl (eqD d e)) H
noncomputable def rNeD:R2:=λx y H Q=>∃d e,bD H d x/\bD H e y/\depD d<=60/\Q (.bl (!eqD d e)) H
theorem d9 (g:X.A.units+64<cLine):jL X (compareOp .Eq) rEqD:=by intro a s σ H x y v u Q I c b h;obtain⟨d,e,hd,f,hz,q⟩:=h;exact rcAtD I.hok d e X.A x y v u hd f c b (by omega) X.prog X.w X.xe _ ⟨.bl _,H,I,rfl,q⟩
end
section
variable {P:Program}{w:World}{H:Hp}{s:Shared}
theorem MZ (ok:hV P w H s.heap){ds d:List D}{A:Around}{v l:V}{u m:Value}(h:bD H (.tup ds) v)(k:bD H (.tup d) l)(r:aX v u)(x:aX l m)(I:A.units+depDs ds+1<cLine):RcNeAt A s u m (!eqD (.tup ds) (.tup d)):=by
 obtain⟨a,vs,i,g,t⟩:=h;obtain⟨b,G,B,z,p⟩:=k;subst i B;cases r;cases x;obtain⟨its,o,C⟩:=jS ok g;obtain⟨its2,c,f⟩:=jS ok z;have q:=RcNeAt.tuples (A:=A) C f (by omega) (e:=λj=>eqD (ds.getD j .non) (d.getD j .non)) λj i g=>AC (oV ok _) (Nat.lt_succ_self _) t p o c (A:=A.in1) (by rw[fB];omega) j i g;have F:its.toArray.size=ds.length:=by rw[ag,←o.length,t.length]
 have E:its2.toArray.size=d.length:=by rw[ag,←c.length,p.length]
 rw[F,E,←iI]at q;exact q
theorem M0 (ok:hV P w H s.heap){ds c:List D}{A:Around}{v o:V}{u p:Value}(h:bD H (.lst ds) v)(k:bD H (.lst c) o)(r:aX v u)(F:aX o p)(K:A.units+depDs ds+1<cLine):RcNeAt A s u p (!eqD (.lst ds) (.lst c)):=by
 obtain⟨a,vs,i,g,B⟩:=h;obtain⟨b,J,I,G,x⟩:=k;subst i I;cases r;cases F;obtain⟨its,t,z⟩:=iH ok g;obtain⟨its2,d,f⟩:=iH ok G;have m:its.toArray.size=ds.length:=by rw[ag,←t.length,B.length]
 have E:its2.toArray.size=c.length:=by rw[ag,←d.length,x.length]
 by_cases hz:its.toArray.size=its2.toArray.size
 ·have q:=RcNeAt.lists (A:=A) z f hz (by omega) (e:=λj=>eqD (ds.getD j .non) (c.getD j .non)) λj i g=>AC (oV ok _) (Nat.lt_succ_self _) B x t d (A:=A.in1) (by rw[fB];omega) j i g;have C:ds.length=c.length:=by rw[←m,←E];exact hz
  have l:eqD (.lst ds) (.lst c)=(List.range its.toArray.size).all λj=>eqD (ds.getD j .non) (c.getD j .non):=by rw[eqD,iI,C,Nat.min_self,m,C,beq_self_eq_true,Bool.and_true]
  rw[l];exact q
 ·have q:=RcNeAt.lists_lengths (A:=A) z f (bne_iff_ne.mpr hz) (by omega);have l:eqD (.lst ds) (.lst c)=false:=by rw[eqD,iI];have:(ds.length == c.length)=false:=cw.mpr (by rw[←m,←E];exact hz);rw[this,Bool.and_false]
  rw[l];exact q
theorem M3 {A:Around}{d e:D}{u f:Value}(a:A.units<cLine)(h:Kd s d u)(k:Kd s e f)(n1:∀xs ys,d = .tup xs->e≠.tup ys)(n2:∀xs ys,d = .lst xs->e≠.lst ys):RcNeAt A s u f (!eqD d e):=by
 cases h with
 | non=>cases k with
  | non=>exact RcNeAt.none_none
  | bl c=>exact RcNeAt.none_bool c
  | int c t=>exact RcNeAt.none_int c t
  | str c t=>exact RcNeAt.none_str c t
  | tup l=>exact RcNeAt.none_tuple l a
  | lst l=>exact RcNeAt.none_list l a
 | bl x=>cases k with
  | non=>exact RcNeAt.bool_none x
  | bl c=>exact RcNeAt.bool_bool x c
  | int c t=>exact RcNeAt.bool_int x c t
  | str c t=>exact RcNeAt.bool_str x c t
  | tup l=>exact RcNeAt.bool_tuple x l a
  | lst l=>exact RcNeAt.bool_list x l a
 | int x b=>cases k with
  | non=>exact RcNeAt.int_none x b
  | bl c=>exact RcNeAt.int_bool x b c
  | int c t=>exact RcNeAt.int_int x b c t
  | str c t=>exact RcNeAt.int_str x b c t
  | tup l=>exact RcNeAt.int_tuple x b l a
  | lst l=>exact RcNeAt.int_list x b l a
 | str x b=>cases k with
  | non=>exact RcNeAt.str_none x b
  | bl c=>exact RcNeAt.str_bool x b c
  | int c t=>exact RcNeAt.str_int x b c t
  | str c t=>exact RcNeAt.str_str x b c t
  | tup l=>exact RcNeAt.str_tuple x b l a
  | lst l=>exact RcNeAt.str_list x b l a
 | tup m=>cases k with
  | non=>exact RcNeAt.tuple_none m a
  | bl c=>exact RcNeAt.tuple_bool c m a
  | int c t=>exact RcNeAt.tuple_int c t m a
  | str c t=>exact RcNeAt.tuple_str c t m a
  | tup l=>exact absurd rfl (n1 _ _ rfl)
  | lst l=>exact RcNeAt.tuple_list m l a
 | lst m=>cases k with
  | non=>exact RcNeAt.list_none m a
  | bl c=>exact RcNeAt.list_bool c m a
  | int c t=>exact RcNeAt.list_int c t m a
  | str c t=>exact RcNeAt.list_str c t m a
  | tup l=>exact RcNeAt.list_tuple m l a
  | lst l=>exact absurd rfl (n2 _ _ rfl)
theorem M7 (ok:hV P w H s.heap)(d e:D)(A:Around)(v g:V)(u i:Value)(h:bD H d v)(k:bD H e g)(r:aX v u)(b:aX g i)(a:A.units+depD d<cLine):RcNeAt A s u i (!eqD d e):=by
 have m:A.units<cLine:=aj (Nat.le_add_right _ _) a;by_cases l:∃xs ys,d = .tup xs/\e = .tup ys
 ·obtain⟨xs,ys,rfl,rfl⟩:=l;rw[depD]at a;exact MZ ok h k r b a
 ·by_cases j:∃xs ys,d = .lst xs/\e = .lst ys
  ·obtain⟨xs,ys,rfl,rfl⟩:=j;rw[depD]at a;exact M0 ok h k r b a
  ·exact M3 m (FV ok h r) (FV ok k b) (λxs ys f c=>l ⟨xs,ys,f,c⟩) (λxs ys f c=>j ⟨xs,ys,f,c⟩)
end
section
variable {X:Cx}
theorem fC (g:X.A.units+64<cLine):jL X (compareOp .NotEq) rNeD:=by intro a s σ H x y v u Q I c b h;obtain⟨d,e,hd,f,hz,q⟩:=h;exact M7 I.hok d e X.A x y v u hd f c b (by omega) X.prog X.w X.xe _ ⟨.bl _,H,I,rfl,q⟩
noncomputable def inD (d:D)(ds:List D):Bool:=ds.any λe=>eqD e d
noncomputable def rInD (a:Bool):R2:=λx y H Q=>∃d ds,bD H d x/\(bD H (.lst ds) y∨bD H (.tup ds) y)/\depDs ds<=60/\Q (.bl (if a then !inD d ds else inD d ds)) H
open Classical in
noncomputable def datOf (H:Hp)(y:Value):D:=if h:∃d v,absV y=some v/\bD H d v then h.choose else .non
theorem L5 {H:Hp}{d:D}{v:V}{y:Value}(r:aX v y)(h:bD H d v):datOf H y=d:=by
 have e:∃d v,absV y=some v/\bD H d v:=⟨d,v,r.abs,h⟩
 unfold datOf;rw[dif_pos e];obtain⟨c,a,b⟩:=e.choose_spec;rw[r.abs]at a;cases a;exact bD.inj b h
theorem uO {P:Program}{w:World}{H:Hp}{s:Shared}(ok:hV P w H s.heap){A:Around}{d:D}{v:V}{u:Value}(h:bD H d v)(r:aX v u):∀(ds:List D) (vs:List V) (us:bX),Reps H ds vs->aY vs us->A.units+depDs ds<cLine ->
  (∀y∈us,EqAt A s y u (eqD (datOf H y) d))/\us.any (λy=>eqD (datOf H y) d)=inD d ds
 | [],vs,us,a,r1,_=>by cases a;cases r1;exact⟨by simp,rfl⟩
 | e::ds,vs,us,a,r1,q=>by
  obtain⟨g,f,o,b,m⟩:=a;subst o;rw[depDs]at q;cases r1 with
  | @cons _ j _ i r1 l =>
   obtain⟨x,t⟩:=uO ok (A:=A) h r ds f i m l (by omega);have hd:=eqAtD ok e d A g v j u b h r1 r (by omega);have c:=L5 r1 b;refine⟨λy p=>?_,?_⟩
   ·rcases cr.mp p with z|z
    ·subst z;rw[c];exact hd
    ·exact x y z
   ·rw[List.any_cons,c,t];rfl
theorem DO (w:X.A.units+64<cLine):jL X (compareOp .In) (λx y H Q=>rInD false x y H Q∨∃i j,x = .str i/\y = .str j/\Q (.bl (!(Builtin.Str.occurrences j i 0 j.length 1).isEmpty)) H):=by
 refine jL.or ?_ qH;intro t s σ H x y v u Q I r p h;obtain⟨d,ds,hd,b,hz,q⟩:=h;have q:Q (.bl (inD d ds)) H:=q;rcases b with⟨a,vs,e,l,f⟩|⟨a,vs,e,l,f⟩
 ·subst e;cases p;obtain⟨its,c,g⟩:=iH I.hok l;obtain⟨o,m⟩:=uO I.hok (A:=X.A.in1) hd r ds vs its f c (by rw[fB];omega);refine in_listAt (λy=>eqD (datOf H y) d) g (λy b=>o y (by simpa using b)) ?_;refine⟨.bl (inD d ds),H,I,?_,q⟩;show _=Value.bool _;rw[←m];simp
 ·subst e;cases p;obtain⟨its,c,g⟩:=jS I.hok l;obtain⟨o,m⟩:=uO I.hok (A:=X.A.in1) hd r ds vs its f c (by rw[fB];omega);refine in_tupleAt (λy=>eqD (datOf H y) d) g (λy b=>o y (by simpa using b)) ?_;refine⟨.bl (inD d ds),H,I,?_,q⟩;show _=Value.bool _;rw[←m];simp
theorem qI (w:X.A.units+64<cLine):jL X (compareOp .NotIn) (λx y H Q=>rInD true x y H Q∨∃i j,x = .str i/\y = .str j/\Q (.bl (!(!(Builtin.Str.occurrences j i 0 j.length 1).isEmpty))) H):=by
 refine jL.or ?_ zE;intro t s σ H x y v u Q I r p h;obtain⟨d,ds,hd,b,hz,q⟩:=h;have q:Q (.bl (!inD d ds)) H:=q;rcases b with⟨a,vs,e,l,f⟩|⟨a,vs,e,l,f⟩
 ·subst e;cases p;obtain⟨its,c,g⟩:=iH I.hok l;obtain⟨o,m⟩:=uO I.hok (A:=X.A.in1) hd r ds vs its f c (by rw[fB];omega);refine notIn_listAt (λy=>eqD (datOf H y) d) g (λy b=>o y (by simpa using b)) ?_;refine⟨.bl (!inD d ds),H,I,?_,q⟩;show _=Value.bool _;rw[←m];simp
 ·subst e;cases p;obtain⟨its,c,g⟩:=jS I.hok l;obtain⟨o,m⟩:=uO I.hok (A:=X.A.in1) hd r ds vs its f c (by rw[fB];omega);refine notIn_tupleAt (λy=>eqD (datOf H y) d) g (λy b=>o y (by simpa using b)) ?_;refine⟨.bl (!inD d ds),H,I,?_,q⟩;show _=Value.bool _;rw[←m];simp
end
end L2
namespace L2
open PySem PySem.Spec PyProof.Rows
section
variable {X:Cx}{pins:cY}{σ:St}{H:Hp}{s:Shared}
noncomputable def tyN (H:Hp):V->Option String
 | .non=>some "NoneType"
 | .bl _=>some "bool"
 | .int _=>some "int"
 | .str _=>some "str"
 | .ref p=>match H p with
  | some (.lst _)=>some "list"
  | some (.tup _)=>some "tuple"
  | some (.dK _)=>some "dict"
  | _=>none
 | _=>none
noncomputable def okT (c:String):Bool:=c == "str" || c == "int" || c == "bool" || c == "list" || c == "tuple" || c == "dict"
noncomputable def subT (t c:String):Bool:=t == c || (t == "bool" && c == "int")
noncomputable def tysV:List V->Option (List String)
 | []=>some []
 | .ty n::r=>(tysV r).map (n :: ·)
 | _::_=>none
noncomputable def clsV (H:Hp):V->Option (List String)
 | .ty n=>some [n]
 | .ref p=>match H p with
  | some (.tup vs)=>tysV vs
  | _=>none
 | _=>none
noncomputable def isV (H:Hp)(x c:V):Option Bool:=match tyN H x,clsV H c with
 | some t,some a=>if a.all okT then some (a.any (subT t))else none
 | _,_=>none
theorem SN {x:V}{u:Value}{t:String}(I:aR X pins σ H s)(a:aX x u)(e:tyN H x=some t) :
  ∃HH:Heap->Prop,PySem.W.KitX X.K u (.type t) HH/\HH s.heap/\u≠.builtin "__main__.__loader__#opaque":=by
 cases x with
 | non=>cases e;cases a;exact⟨_,PySem.W.kitx_none,True.intro,λz=>nomatch z⟩
 | bl b=>cases e;cases a;exact⟨_,PySem.W.kitx_bool,True.intro,λz=>nomatch z⟩
 | int i=>cases e;obtain⟨t,rfl⟩:=a;exact⟨_,PySem.W.kitx_int,True.intro,λz=>nomatch z⟩
 | str i=>cases e;obtain⟨t,rfl⟩:=a;exact⟨_,PySem.W.kitx_str,True.intro,λz=>nomatch z⟩
 | ref p =>
  cases a;unfold tyN at e;dsimp only at e;split at e
  ·rename_i xs c;cases e;obtain⟨_,_,n,_,d⟩:=(show bZ X.prog X.w H s.heap p (.lst xs)from I.hok p _ c)
   exact⟨_,PySem.W.kitx_list,⟨_,d,rfl⟩,λz=>nomatch z⟩
  ·rename_i xs c;cases e;obtain⟨_,_,_,o,d,g,_⟩:=(show bZ X.prog X.w H s.heap p (.tup xs)from I.hok p _ c)
   exact⟨_,PySem.W.kitx_tuple,⟨o,d,g⟩,λz=>nomatch z⟩
  ·rename_i f c;cases e;obtain⟨_,_,vs,_,o,h,j,d,g,_⟩:=(show bZ X.prog X.w H s.heap p (.dK f)from I.hok p _ c)
   exact⟨_,PySem.W.kitx_dict,⟨o,d,g.1⟩,λz=>nomatch z⟩
  ·cases e
 | _=>cases e
theorem QC {x:V}{t:String}(e:tyN H x=some t):t="NoneType"∨t="bool"∨t="int"∨t="str"∨t="list"∨t="tuple"∨t="dict":=by
 cases x with
 | non=>cases e;simp
 | bl b=>cases e;simp
 | int i=>cases e;simp
 | str i=>cases e;simp
 | ref p =>
  unfold tyN at e;dsimp only at e;split at e <;> cases e <;> simp
 | _=>cases e
theorem RD {c:String}(e:okT c=true):c="str"∨c="int"∨c="bool"∨c="list"∨c="tuple"∨c="dict":=by simp only[okT,Bool.or_eq_true,beq_iff_eq]at e;rcases e with((((e|e)|e)|e)|e)|e <;> simp[e]
theorem FS {K:PySem.W.Frag}{x:V}{t c:String}(e:tyN H x=some t)(hc:okT c=true):PySem.W.kitOne K (.type t) (.type c)=some (subT t c):=by rcases QC e with rfl|rfl|rfl|rfl|rfl|rfl|rfl <;> rcases RD hc with rfl|rfl|rfl|rfl|rfl|rfl <;> with_unfolding_all rfl
theorem FT {K:PySem.W.Frag}{x:V}{t:String}(e:tyN H x=some t):∀{a:List String},a.all okT=true->PySem.W.kitAny K (.type t) (a.map Value.type)=some (a.any (subT t))
 | [],_=>rfl
 | c::r,h=>by
  replace h:=Bool.and_eq_true_iff.mp (List.all_cons ▸ h)
  rw[bc];unfold PySem.W.kitAny;rw[FS e h.1];cases q:subT t c with
  | true=>simp[q]
  | false=>simp only[List.any_cons,q,Bool.false_or];exact FT e h.2
theorem wF:∀{vs:List V} {a:List String} {us:bX},tysV vs=some a->aY vs us->us=a.map Value.type
 | [],a,us,h,r=>by cases h;cases r;rfl
 | .ty n::vs,a,us,h,r=>by
  unfold tysV at h;cases e:tysV vs with
  | none=>rw[e]at h;cases h
  | some c =>
   rw[e]at h;cases h;cases r with
   | cons r1 b =>
    cases r1;rw[bc,wF e b]
 | .non::_,_,_,h,_=>by cases h
 | .bl _::_,_,_,h,_=>by cases h
 | .int _::_,_,_,h,_=>by cases h
 | .str _::_,_,_,h,_=>by cases h
 | .byt _::_,_,_,h,_=>by cases h
 | .flt _::_,_,_,h,_=>by cases h
 | .ref _::_,_,_,h,_=>by cases h
noncomputable def rIs:List V->Hp->VK->Prop:=λxs H Q=>∃x c b,xs=[x,c]/\isV H x c=some b/\Q (.bl b) H
theorem aM:cL X (.builtin "isinstance") rIs:=by
 intro d s σ H xs us Q I r h;obtain⟨x,c,b,rfl,e,q⟩:=h;cases r with
 | cons u A =>
  cases A with
  | cons l z =>
   cases z;unfold isV at e;split at e
   ·rename_i t G j a;split at e
    ·rename_i g;cases e;obtain⟨HH,Z,m,f⟩:=SN I u j;have fin:∀tk,EP X d σ Q (.bool (G.any (subT t))) {s with toks:=tk}:=λtk=>⟨.bl _,H,I.tok tk,rfl,q⟩
     cases c with
     | ty n =>
      cases l;cases a;have i:okT n=true:=by simpa using g
      refine PySem.W.kia_one Z I.kIn m (FS j i) f ?_;intro tk;have:=fin tk
      simpa using this
     | ref p =>
      cases l;unfold clsV at a;dsimp only at a;split at a
      ·rename_i vs B;obtain⟨_,its,v,o,i,E,n,C⟩:=(show bZ X.prog X.w H s.heap p (.tup vs)from I.hok p _ B)
       obtain⟨cl,L,K,J⟩:=o;cases E;cases C;have F:=wF a v;subst F;exact PySem.W.kia_tup Z I.kIn m i (FT j g) f fin
      ·cases a
     | _=>cases a
    ·cases e
   ·cases e
noncomputable def seqV (H:Hp):V->Option (List V)
 | .ref p=>match H p with
  | some (.lst xs)=>some xs
  | some (.tup xs)=>some xs
  | _=>none
 | _=>none
theorem uZ:cL X (.type "list") (λxs H Q=>∃x ys,xs=[x]/\seqV H x=some ys/\∀l,H l=none->Q (.ref l) (upd H l (.lst ys))):=by
 refine AF.imp λxs H Q h=>?_;obtain⟨x,ys,rfl,e,q⟩:=h;cases x with
 | ref p =>
  unfold seqV at e;dsimp only at e;split at e
  ·rename_i b a;cases e;exact⟨p,_,rfl,.inl (fQ.of a),q⟩
  ·rename_i b a;cases e;exact⟨p,_,rfl,.inr (iE.of a),q⟩
  ·cases e
 | _=>cases e
theorem IZ:cL X (.builtin "abs") (λxs H Q=>∃i,xs=[.int i]/\Q (.int (if i<0 then -i else i)) H):=L7
noncomputable def rSlF:V->Option Int->Option Int->Hp->VK->Prop:=λx b c H Q=>∃a,x = .ref a /\
 ((∃xs,H a=some (.lst xs)/\∀p,H p=none->Q (.ref p) (upd H p (.lst (cutV xs b c)))) ∨
  (∃xs,H a=some (.tup xs)/\¬(HT.sIx xs.length 0 b=0/\HT.sIx xs.length xs.length c=xs.length)/\∀p,H p=none->Q (.ref p) (upd H p (.tup (cutV xs b c)))))
end
def rH (J:It)(g:TG)(d:TS)(D:iJ)(σ:St)(f:Hp):Prop:=∃W:Nat->Nat->St->Hp->Prop,(∃m,W 0 m σ f)/\∀i m σ H,W i m σ H ->
 (J.stop i H/\D.nx σ H)∨(J.go i H/\∃N:St->Hp->Prop,(∀a H',N a H'->∃b,b<m/\W (i+1) b a H')/\∀x H',J.yld i H x H'->g x σ H' λc e=>d {D with nx:=N,ct:=N,bk:=D.nx} c e)
theorem tFor_eq {a:TI}{g:TG}{b:TS}{D:iJ}{σ:St}{H:Hp}:tFor a g b D σ H=a σ H λJ c=>rH J g b D σ c:=rfl
def nR (J:It)(g:TG)(b:TT)(c:TE)(Q:VK)(σ:St)(d:Hp):Prop:=∃W:CW,(∃m,W 0 m [] σ d)/\P5 J g b c (λa H=>∀p,H p=none->Q (.ref p) (upd H p (.lst a))) W
theorem tComp_eq {src:List (Option Nat)}{a:TI}{g:TG}{b:TT}{c:TE}{σ:St}{H:Hp}{Q:VK}:tComp src a g b c σ H Q=a σ H λJ d=>nR J g b c Q (stC src σ) d:=rfl
section
variable {X:Cx}{tg:Expr}
noncomputable def iAny (K:PySem.W.Frag)(tl:TE):TI:=λσ H R=>tl σ H λx b=>∃a,x = .ref a/\((∃xs,b a=some (.lst xs)/\R (P3 K a) b)∨(∃xs,b a=some (.tup xs)/\R (P2 K a) b))
end
section
variable {g:TG}{tb:TS}{D:iJ}{σ:St}{H:Hp}{tt:TT}{te:TE}{Q:VK}{K:PySem.W.Frag}
theorem fM {a:Int}{n:Nat}(Pv:Nat->St->Hp->Prop)(d:Pv 0 σ H)
  (c:∀i σ H,i<n->Pv i σ H->g (.int (a+i)) σ H λb e=>tb {D with nx:=Pv (i+1),ct:=Pv (i+1),bk:=D.nx} b e) (hd:∀σ H,Pv n σ H->D.nx σ H):rH (ML a n) g tb D σ H:=IG Pv d c hd
theorem II {a:Addr}(xs:List V)(Pv:Nat->St->Hp->Prop)(f:Pv 0 σ H)(d:∀i σ H,i<=xs.length->Pv i σ H->H a=some (.lst xs))
  (c:∀i x σ H,xs[i]?=some x->Pv i σ H->g x σ H λb h=>tb {D with nx:=Pv (i+1),ct:=Pv (i+1),bk:=D.nx} b h) (hd:∀σ H,Pv xs.length σ H->D.nx σ H):rH (P3 K a) g tb D σ H :=
 LL Pv f (λi σ H e p=>fQ.of (d i σ H e p)) c hd
theorem LM {a:Addr}(xs:List V)(Pv:Nat->St->Hp->Prop)(f:Pv 0 σ H)(d:∀i σ H,i<=xs.length->Pv i σ H->H a=some (.tup xs))
  (c:∀i x σ H,xs[i]?=some x->Pv i σ H->g x σ H λb h=>tb {D with nx:=Pv (i+1),ct:=Pv (i+1),bk:=D.nx} b h) (hd:∀σ H,Pv xs.length σ H->D.nx σ H):rH (P2 K a) g tb D σ H :=
 OS Pv f (λi σ H e p=>iE.of (d i σ H e p)) c hd
noncomputable def CStep (g:TG)(e:TT)(f:TE)(x:V)(a:List V)(σ:St)(H:Hp)(N:List V->St->Hp->Prop):Prop :=
 g x σ H λc i=>e c i λb d=>if b=true then f c d λy h=>a.length<sizeLine/\N (a++[y]) c h else N a c d
theorem mH {J:It}{n:Nat}(Pv:Nat->List V->St->Hp->Prop)(j:Pv 0 [] σ H)
  (h:∀i c σ H,i<n->Pv i c σ H->J.go i H/\∀x H',J.yld i H x H'->CStep g tt te x c σ H' (Pv (i+1)))
  (hd:∀c σ H,Pv n c σ H->J.stop n H/\∀p,H p=none->Q (.ref p) (upd H p (.lst c))):nR J g tt te Q σ H:=by
 refine⟨λi m c σ H=>m=n - i/\i<=n/\Pv i c σ H,⟨n,by simp,av _,j⟩,?_⟩;rintro i m c σ H ⟨rfl,l,p⟩;by_cases d:i<n
 ·obtain⟨go,step⟩:=h i c σ H d p;refine .inr ⟨go,λx H' y=>?_⟩;have e:∀c σ H,(∃f,f<n - i/\f=n - (i+1)/\i+1<=n/\Pv (i+1) c σ H)=Pv (i+1) c σ H:=λc σ H=>propext ⟨λ⟨_,_,_,_,q⟩=>q,λq=>⟨n - (i+1),by omega,rfl,d,q⟩⟩;simp only[e];exact step x H' y
 ·have e:i=n:=by omega
  subst e;obtain⟨a,b⟩:=hd c σ H p;exact .inl ⟨a,b⟩
theorem jT {b:Int}{n:Nat}(Pv:Nat->List V->St->Hp->Prop)(e:Pv 0 [] σ H)(d:∀i a σ H,i<n->Pv i a σ H->CStep g tt te (.int (b+i)) a σ H (Pv (i+1)))
  (hd:∀a σ H,Pv n a σ H->∀p,H p=none->Q (.ref p) (upd H p (.lst a))):nR (ML b n) g tt te Q σ H :=
 mH Pv e (λi a σ H c p=>⟨c,λx H' y=>by obtain⟨rfl,rfl⟩:=y;exact d i a σ _ c p⟩) λa σ H p=>⟨ac _,hd a σ H p⟩
theorem EH {a:Addr}(xs:List V)(Pv:Nat->List V->St->Hp->Prop)(f:Pv 0 [] σ H)(c:∀i b σ H,i<=xs.length->Pv i b σ H->H a=some (.lst xs))
  (e:∀i x b σ H,xs[i]?=some x->Pv i b σ H->CStep g tt te x b σ H (Pv (i+1))) (hd:∀b σ H,Pv xs.length b σ H->∀p,H p=none->Q (.ref p) (upd H p (.lst b))):nR (P3 K a) g tt te Q σ H :=
 mH (n:=xs.length) Pv f (λi b σ H d p=>⟨⟨xs,xs[i],fQ.of (c i b σ H (Nat.le_of_lt d) p),by simp[d]⟩,λx H' y=>by obtain⟨rfl,y⟩:=y;exact e i x b σ _ (y xs (fQ.of (c i b σ _ (Nat.le_of_lt d) p))) p⟩)
  λb σ H p=>⟨⟨xs,fQ.of (c _ b σ H (ac _) p),ac _⟩,hd b σ H p⟩
theorem IQ {a:Addr}(xs:List V)(Pv:Nat->List V->St->Hp->Prop)(f:Pv 0 [] σ H)(c:∀i b σ H,i<=xs.length->Pv i b σ H->H a=some (.tup xs))
  (e:∀i x b σ H,xs[i]?=some x->Pv i b σ H->CStep g tt te x b σ H (Pv (i+1))) (hd:∀b σ H,Pv xs.length b σ H->∀p,H p=none->Q (.ref p) (upd H p (.lst b))):nR (P2 K a) g tt te Q σ H :=
 mH (n:=xs.length) Pv f (λi b σ H d p=>⟨⟨xs,xs[i],iE.of (c i b σ H (Nat.le_of_lt d) p),by simp[d]⟩,λx H' y=>by obtain⟨rfl,y⟩:=y;exact e i x b σ _ (y xs (iE.of (c i b σ _ (Nat.le_of_lt d) p))) p⟩)
  λb σ H p=>⟨⟨xs,iE.of (c _ b σ H (ac _) p),ac _⟩,hd b σ H p⟩
theorem JH {c:TT}(Pv:St->Hp->Prop)(μ:St->Hp->Nat)(h:Pv σ H)
  (f:∀σ H,Pv σ H->∃b:Bool,(∀R:Bool->Hp->Prop,R b H->c σ H R)/\(b=true->tb {D with nx:=λa H'=>Pv a H'/\μ a H'<μ σ H,ct:=λa H'=>Pv a H'/\μ a H'<μ σ H,bk:=D.nx} σ H)/\(b=false->D.nx σ H)):yC c tb D σ H:=by
 refine⟨λm σ H=>m=μ σ H/\Pv σ H,⟨_,rfl,h⟩,?_⟩;rintro m σ H ⟨rfl,p⟩;obtain⟨b,hc,e,g⟩:=f σ H p;refine hc _ ?_;cases b with
 | true=>exact⟨_,λa H' ⟨d,l⟩=>⟨_,l,rfl,d⟩,e rfl⟩
 | false=>exact g rfl
theorem D5 {n:Nat}{i:Int}(b:0<=i)(a:i<n):ixN n i=some i.toNat:=by unfold ixN;rw[ai b,ai a]
theorem jD {α:Type}{xs:List α}{i:Int}(b:0<=i)(a:i<xs.length):atI xs i=xs[i.toNat]?:=by unfold atI;rw[D5 b a];rfl
theorem atI_zero {α:Type}{a:α}{xs:List α}:atI (a::xs) 0=some a:=by rw[jD (by decide) (by simp only[aq];omega)];rfl
theorem atI_one {α:Type}{a b:α}{xs:List α}:atI (a::b::xs) 1=some b:=by rw[jD (by decide) (by simp only[aq];omega)];rfl
theorem ixN_zero {n:Nat}:ixN (n+1) 0=some 0:=by rw[D5 (by decide) (by omega)];rfl
theorem ixN_one {n:Nat}:ixN (n+1+1) 1=some 1:=by rw[D5 (by decide) (by omega)];rfl
end
theorem aH.upd {H:Hp}{a:Addr}{o:HO}(h:H a=none):aH H (upd H a o):=λb u e=>by rw[aC (aF e h)];exact e
def bC (p:Addr)(H H':Hp):Prop:=∀b o,b≠p->H b=some o->H' b=some o
theorem bC.refl (p:Addr)(H:Hp):bC p H H:=λ_ _ _ h=>h
theorem bC.trans {p:Addr}{H e d:Hp}(a:bC p H e)(b:bC p e d):bC p H d:=λc o n h=>b c o n (a c o n h)
theorem bC.upd (p:Addr)(H:Hp)(o:HO):bC p H (upd H p o):=λc u n h=>by rw[aC n];exact h
theorem bC.new {p a:Addr}{H:Hp}{o:HO}(h:H a=none):bC p H (L2.upd H a o):=λc u n e=>by rw[aC (aF e h)];exact e
theorem aH.but {p:Addr}{H H':Hp}(s:aH H H'):bC p H H':=λb o _ h=>s b o h
end L2
namespace L2
open PySem PySem.Spec PyProof.Rows PyProof.Rows.LSm
section
variable {X:Cx}
theorem rR:∀{bs:List Bool} {us:bX},aY (bs.map V.bl) us->BoolsAre us bs
 | [],_,r=>by cases r;exact .nil
 | b::bs,_,r=>by
  cases r with
  | cons r1 a=>cases r1;exact .cons b (rR a)
theorem D6 {prog:Program}{w:World}{A:Around}{E:cE}{s:Shared}{p:Addr}{its:bX}{bs:List Bool}(d:Bool){K:Bool->Shared->Prop}{a:Nat->(Nat->Bool)->Bool}(m:A.handled=none)(at_:s.heap.IsList p its.toArray)(f:BoolsAre its bs)
  (k:∀h' tk,(∀b x,s.heap.get? b=some x->h'.get? b=some x)->K (a bs.length λi=>(bs[i]?).getD d) {s with heap:=h',toks:=tk}) :
  wpAny (model prog w) A (pyIter (.ref p)) (λit t=>∃I fp h n P St tr,it = .ref I/\Walks prog w A I fp h n P St/\St 0 t.heap/\TruthOf prog w A P tr /\
   ∀h' tk,(∀b x,b∉h->t.heap.get? b=some x->h'.get? b=some x)->K (a n tr) {t with heap:=h',toks:=tk}) E s:=by
 have ne:p≠s.heap.objs.size:=let⟨_,e,_⟩:=id at_;bn (ba e);have c:TruthOf prog w A (λi v=>its.toArray[i]?=some v) λi=>(bs[i]?).getD d:=by intro i v t Q X j g;obtain⟨b,is,rfl⟩:=LSm.BoolsAre.get f i v (by simpa using j);have g:Q ((bs[i]?).getD d) t:=g;rw[is]at g;exact wpAny_truthy_bool g
 have len:its.toArray.size=bs.length:=(ag ..).trans (LSm.BoolsAre.length f);refine wpAny_pyIter_list at_ ⟨_,_,_,_,_,_,_,rfl,Walks.list m s.heap.objs.size p ne its.toArray,?_,c,λh' tk l=>?_⟩
 ·exact aI ⟨_,au _ rfl,rfl,rfl⟩ (at_.push _)
 ·rw[len];exact k h' tk (LSm.kept_iter l)
noncomputable def rAll:List V->Hp->VK->Prop:=λxs H Q=>∃(p:Addr) (bs:List Bool),xs=[.ref p]/\H p=some (.lst (bs.map V.bl))/\Q (.bl (bs.all id)) H
noncomputable def rAny:List V->Hp->VK->Prop:=λxs H Q=>∃(p:Addr) (bs:List Bool),xs=[.ref p]/\H p=some (.lst (bs.map V.bl))/\Q (.bl (bs.any id)) H
noncomputable def rSum:List V->Hp->VK->Prop:=λxs H Q=>∃(p:Addr) (ns:List Int),xs=[.ref p]/\H p=some (.lst (ns.map V.int))/\Q (.int ns.sum) H
theorem u7 (hc:X.calm=true){nm:String}{c:Nat->(Nat->Bool)->Bool}{a:List Bool->Bool}(d:Bool)(is:∀bs:List Bool,c bs.length (λi=>(bs[i]?).getD d)=a bs)
  (ask:∀{s:Shared} {x:Value} {Q E:cE},wpAny (model X.prog X.w) X.A.in1 (pyIter x) (λit t=>∃I fp g n P St tr,it = .ref I/\Walks X.prog X.w X.A.in1 I fp g n P St/\St 0 t.heap/\TruthOf X.prog X.w X.A.in1 P tr /\
   ∀h' tk,(∀b x,b∉g->t.heap.get? b=some x->h'.get? b=some x)->Q (.bool (c n tr)) {t with heap:=h',toks:=tk}) E s->wpAny (model X.prog X.w) X.A (call (.builtin nm) [x]) Q E s) :
  cL X (.builtin nm) λxs H Q=>∃(p:Addr) (bs:List Bool),xs=[.ref p]/\H p=some (.lst (bs.map V.bl))/\Q (.bl (a bs)) H:=by
 rintro f s σ H _ us Q I r ⟨p,bs,rfl,j,q⟩;obtain⟨u,rfl,e⟩:=vals1 r;cases e;obtain⟨its,h,pl,_⟩:=I.list (fQ.of j);refine ask (D6 (K:=λb t=>EP X f σ Q (.bool b) t) d (show X.A.in1.handled=none from I.ok.hd hc) pl.isList (rR h) λh' tk l=>?_);rw[is bs];exact⟨.bl (a bs),H,I.kept (t':=tk) l,rfl,q⟩
theorem q9 (hc:X.calm=true):cL X (.builtin "all") rAll:=u7 hc true LSm.range_all call_all_walk
theorem IY (hc:X.calm=true):cL X (.builtin "any") rAny:=u7 hc false LSm.range_any call_any_walk
theorem IU (hc:X.calm=true):cL X (.builtin "max") (λxs H Q=>∃i j,xs=[.int i,.int j]/\Q (.int (if j > i then j else i)) H):=IV hc
theorem xT (hc:X.calm=true):cL X (.builtin "min") (λxs H Q=>∃i j,xs=[.int i,.int j]/\Q (.int (if j<i then j else i)) H):=IT hc
end
end L2
namespace L2
open PySem PySem.Spec PyProof.Rows
section
variable {X:Cx}{pins:cY}{σ:St}{H:Hp}{s:Shared}{h':Heap}
theorem aR.turnedL {t':Nat}{ch:List Addr}(I:aR X pins σ H s)(k:∀b o,b∉ch->s.heap.get? b=some o->h'.get? b=some o)(d:∀b∈ch,fV X pins H b):aR X pins σ H {s with heap:=h',toks:=t'}:=by
 have a:∀b u,H b=some u->b∉ch:=λb u e z=>by rw[(d b z).1]at e;cases e
 have h:X.env.locals∉ch:=λz=>(d _ z).2.1 rfl;refine I.step (g':=s.gens) (d':=s.drawn) (ch:=ch) (λb g=>?_) (λb o _ _ hc e _=>k b o hc e) (λb o _ _ hc e _=>⟨o.slots,k b o hc e⟩) (λ_ _ _ _ n=>n)
  (λb o hc e=>⟨o,k b o hc e⟩) (λ_ _ e=>e) (λ_ _ _ e=>e) (λb ps e=>⟨#[],by rw[e];simp⟩) (λm f=>?_) (λb u e=>?_) I.bare
 ·obtain⟨f0,f1,f2,f3,f4,i⟩:=d b g;exact⟨f3,f1,f4,i⟩
 ·obtain⟨o,j,l,ho,r⟩:=f;exact⟨o,j,l,k _ o h ho,r⟩
 ·refine(I.hok b u e).stay (λc v hc q=>k c v ?_ q) (λ_ q=>q) λ_ _ q=>q;rcases hc with z|z
  ·rw[z];exact a b u e
  ·exact a c _ z
theorem aR.turnedLaid {t':Nat}{ch:List Addr}{T:Addr}{o:HO}(I:aR X pins σ H s)(k:∀b o,b∉ch->s.heap.get? b=some o->h'.get? b=some o)(h:∀b∈ch,fV X pins H b)
  (i:s.heap.objs.size<=T) (new:bZ X.prog X.w (upd H T o) h' T o):aR X pins σ (upd H T o) {s with heap:=h',toks:=t'}:=by
 have d:H T=none:=I.hok.fresh i;have a:∀b u,H b=some u->b∉ch:=λb u e z=>by rw[(h b z).1]at e;cases e
 have l:X.env.locals∉ch:=λz=>(h _ z).2.1 rfl;have lt:∀b f,s.heap.get? b=some f->b≠T:=λb f e=>bn (bd (ba e) i);refine I.step (g':=s.gens) (d':=s.drawn) (ch:=ch) (λb g=>?_) (λb o _ _ hc e _=>k b o hc e) (λb o _ _ hc e _=>⟨o.slots,k b o hc e⟩) (λb f _ e n=>by rw[aC (lt b f e)];exact n)
  (λb o hc e=>⟨o,k b o hc e⟩) (λb xs e=>by rw[aC (aF e d)];exact e) (λb _ _ e=>by rw[aC (aF e d)];exact e) (λb ps e=>⟨#[],by rw[aC (aF e d),e];simp⟩) (λm j=>?_) (λb u e=>?_) I.bare
 ·obtain⟨f0,f1,f2,f3,f4,p⟩:=h b g;exact⟨f3,f1,f4,p⟩
 ·obtain⟨o,t,x,ho,r⟩:=j;exact⟨o,t,x,k _ o l ho,r⟩
 ·by_cases g:b=T
  ·subst g;rw[upd_same]at e;cases e;exact new
  ·rw[aC g]at e;refine(I.hok b u e).stay (λc v hc q=>k c v ?_ q) (λc q=>by rw[aC (aF q d)];exact q) λc xs q=>by rw[aC (aF q d)];exact q
   rcases hc with z|z
   ·rw[z];exact a b u e
   ·exact a c _ z
end
noncomputable def UI (K:PySem.W.Frag)(a b:Addr):It :=
 ⟨λi H=>∃xs ys x y,fQ K H a xs/\fQ K H b ys/\xs[i]?=some x/\ys[i]?=some y,
  λi H z H'=>∃T x y,z = .ref T/\H T=none/\H'=upd H T (.tup [x,y])/\∀xs ys,fQ K H a xs->fQ K H b ys->xs[i]?=some x/\ys[i]?=some y,
  λi H=>∃xs ys,fQ K H a xs/\fQ K H b ys/\(xs.length<=i∨ys.length<=i)⟩
structure ZipAt (z TI TO i1 i2:Addr):Prop where
 TIz:TI≠z
 TOz:TO≠z
 i1z:i1≠z
 i2z:i2≠z
 TITO:TI≠TO
 TIi1:TI≠i1
 TIi2:TI≠i2
 TOi1:TO≠i1
 TOi2:TO≠i2
 i12:i1≠i2
section
variable {X:Cx}{elts:lR}{tk0:_}{tpos:Pos}
noncomputable def iZip (K:PySem.W.Frag)(d:TA):TI:=λσ H R=>d σ H λvs c=>∃a b,vs=[.ref a,.ref b]/\(∃xs,fQ K c a xs)/\(∃ys,fQ K c b ys)/\R (UI K a b) c
end
def SA (J:It)(g:TG)(f:TT)(h:TE)(Fin:List V->St->Hp->Prop)(W:CW):Prop:=∀i m a σ H,W i m a σ H ->
 (J.stop i H/\Fin a σ H) ∨
 (J.go i H/\∀x H',J.yld i H x H'->g x σ H' λd l=>f d l λb e =>
  if b=true then h d e λy j=>a.length<sizeLine/\∃c,c<m/\W (i+1) c (a++[y]) d j else ∃c,c<m/\W (i+1) c a d e)
def UK (J:It)(g:TG)(b:TT)(c:TE)(Fin:List V->St->Hp->Prop)(a:List V)(σ:St)(H:Hp):Prop:=∃W:CW,(∃m,W 0 m a σ H)/\SA J g b c Fin W
def MI (J:It)(l:TG)(c:TI)(j:TG)(g:TT)(h:TE)(Q:VK)(σ:St)(t:Hp):Prop:=∃W:CW,(∃m,W 0 m [] σ t)/\∀i m a σ H,W i m a σ H ->
 (J.stop i H/\∀p,H p=none->Q (.ref p) (upd H p (.lst a))) ∨
 (J.go i H/\∀x H',J.yld i H x H'->l x σ H' λd s=>c d s λo r=>UK o j g h (λb f q=>∃e,e<m/\W (i+1) e b f q) a d r)
noncomputable def QK (src:List (Option Nat))(b:TI)(f:TG)(a:TI)(e:TG)(c:TT)(d:TE):TE:=λσ H Q=>b σ H λJ g=>MI J f a e c d Q (stC src σ) g
end L2
namespace L2
open PySem PySem.Spec PyProof.Rows
open PySem.AutoSeq1 (wpAny_loadPart')
open PySem.MeetsSeq PySem.MeetsSeq2 PySem.MeetsSeq3
def ES (items:jK)(i:Nat)(ns:List Int):Prop:=i<=items.size/\IntsAre (items.toList.drop i) ns
theorem ES.end_ {items:jK}{i:Nat}(h:ES items i []):items.size=i/\items[i]?=none:=by obtain⟨b,a⟩:=h;have e:=a.length;rw[bu,bo,List.length_nil]at e;exact⟨by omega,Array.getElem?_eq_none (by omega)⟩
theorem ES.next {items:jK}{i:Nat}{a:Int}{ns:List Int}(h:ES items i (a::ns)):i<items.size/\(∃t,items[i]?=some (.int a t))/\ES items (i+1) ns:=by
 obtain⟨f,b⟩:=h;generalize e:items.toList.drop i=us at b;cases b with
 | cons _ t r =>
  have lt:i<items.toList.length:=by have z:=congrArg List.length e;rw[bu,aq]at z;omega
  rw[List.drop_eq_getElem_cons lt]at e;injection e with d c;rw[bo]at lt;refine⟨lt,⟨t,?_⟩,lt,c ▸ r⟩;rw[Array.getElem?_eq_getElem lt,←d];rfl
noncomputable abbrev AL (l b:Addr)(ol ob:Obj)(xs ys:List Int):PySem.Spec:=λ_ R s=>s.heap.get? l=some ol/\s.heap.get? b=some ob/\R (.ok (.ret (.bool (HT.lexLt xs ys)))) s
noncomputable abbrev ltAsk (l b:Addr)(i:Nat):Args:=⟨[.ref l,.ref b,rawInt i,rawInt 0],[]⟩
theorem BK {l b:Addr}{ol a:Obj}{xs ys:List Int}{i:Nat}{prog:Program}{w:World}{A:Around}{R:Result->Shared->Prop}{s:Shared}(m:Meets (Builtin.«list.__eq__.loop» (ltAsk l b i)) (AL l b ol a xs ys))(h:AL l b ol a xs ys A R s) :
  (Code.builtin "list.__eq__.loop" (ltAsk l b i)).quiet=true/\codeAny (model prog w) A (.builtin "list.__eq__.loop" (ltAsk l b i)) R s:=by
 refine⟨plainId_quiet plain_eq_loop (ltAsk l b i),codeAny_builtin entry_eq_loop ?_⟩;have u:=A.under_plainId plain_eq_loop (ltAsk l b i);rw[u];exact m prog w A R s h
theorem FL (l b:Addr)(us vs:jK)(n k:Nat)(C B:Option Addr)(v u:Array (Option Value)):∀(xs ys:List Int) (i:Nat),ES us i xs->ES vs i ys ->
  Meets (Builtin.«list.__eq__.loop» (ltAsk l b i)) (AL l b {cls:=.type "list",dict:=C,data:=.seq us n,slots:=v} {cls:=.type "list",dict:=B,data:=.seq vs k,slots:=u} xs ys)
 | [],ys,i,f,g=>by
  rintro prog w A R ⟨q,s,d,tk,os⟩ ⟨a,c,h⟩;obtain⟨z,no⟩:=f.end_;have j:HT.lexLt [] ys=decide (us.size<vs.size):=by
   cases ys with
   | nil=>exact(bi (by rw[z,(g.end_).1];exact bI _)).symm
   | cons y r=>exact(bg (by rw[z];exact(g.next).1)).symm
  rw[j]at h
  wp_walk using bf a,bf c
  rw[show((i:Nat):Int).toNat=i from rfl,no];cases vs[i]? <;> wp_walk using bf a,bf c <;> exact h
 | x::xs,[],i,f,g=>by
  rintro prog w A R ⟨q,s,d,tk,os⟩ ⟨a,c,h⟩;obtain⟨z,no⟩:=g.end_;obtain⟨lt,⟨t,is⟩,_⟩:=f.next
  have j:HT.lexLt (x::xs) []=decide (us.size<vs.size):=(bi (by omega)).symm;rw[j]at h
  wp_walk using bf a,bf c
  rw[show((i:Nat):Int).toNat=i from rfl,no,is]
  wp_walk using bf a,bf c
  exact h
 | x::xs,y::ys,i,f,g=>by
  have go:=FL l b us vs n k C B v u xs ys (i+1) (f.next).2.2 (g.next).2.2;rintro prog w A R ⟨q,s,d,tk,os⟩ ⟨a,c,h⟩;obtain⟨_,⟨t,o⟩,_⟩:=f.next
  obtain⟨_,⟨t',isV⟩,_⟩:=g.next
  wp_walk using bf a,bf c
  rw[show((i:Nat):Int).toNat=i from rfl,o,isV];obtain⟨e,asked,iff⟩:=HT.eqAt_int A.in1 ⟨q,s,d,tk,os⟩ x t y t';refine aa (asked prog w _ _ ?_);by_cases p:x=y
  ·rw[HT.lexLt_cons,ai p]at h;rw[iff.mpr p]
   wp_walk
   exact BK go ⟨a,c,h⟩
  ·rw[HT.lexLt_cons,ab p]at h;have E:e=false:=by cases e with|false=>rfl|true=>exact absurd (iff.mp rfl) p
   subst E;have m:=HT.rcLt_int A.in1 ⟨q,s,d,tk,os⟩ x t y t' prog w
   wp_walk using bf a,bf c
   rw[o,isV]
   wp_walk using m
   exact h
theorem zM (l b:Addr)(us vs:jK)(n k:Nat)(i g:Option Addr)(f e:Array (Option Value))(xs ys:List Int)(m:IntsAre us.toList xs)(j:IntsAre vs.toList ys) :
  Meets (Builtin.«list.__lt__» ⟨[.ref l,.ref b],[]⟩) (AL l b {cls:=.type "list",dict:=i,data:=.seq us n,slots:=f} {cls:=.type "list",dict:=g,data:=.seq vs k,slots:=e} xs ys):=by
 have go:=FL l b us vs n k i g f e xs ys 0 ⟨av _,m⟩ ⟨av _,j⟩;rintro prog w A R ⟨o,p,d,tk,os⟩ ⟨a,c,h⟩;have kind:=AutoSeq1.sub_list_list
 wp_walk using bf a,bf c
 exact BK go ⟨a,c,h⟩
section
variable {prog:Program}{w:World}{A:Around}{E:cE}{s:Shared}
theorem BJ {l b:Addr}{items a:jK}{ns c:List Int}{Q:cE}(q:s.heap.IsList l items)(u:s.heap.IsList b a)(t:IntsAre items.toList ns)(r:IntsAre a.toList c)
  (p:A.units<cLine) (h:Q (.bool (HT.lexLt ns c)) s):wpAny (model prog w) A (compareOp .Lt (.ref l) (.ref b)) Q E s:=by
 obtain⟨⟨cls,v,data,o⟩,ho,hc,n,hd⟩:=id q;obtain⟨⟨m,i,j,g⟩,d,f,n2,e⟩:=id u;simp only at hc hd f e;subst hc hd f e;exact richCompare_meets_room (op:=.Lt) ⟨_,ho,rfl⟩ ⟨_,d,rfl⟩ PySem.F.slot_list_lt PySem.F.entry_list_lt (PySem.F.args_list_lt_2 _ _) (zM l b items a n n2 v i o g ns c t r)
  ⟨ho,d,show Value.bool (HT.lexLt ns c)≠Value.notImplemented/\Q (.bool (HT.lexLt ns c)) s from⟨(λx=>nomatch x),h⟩⟩ p
end
section
variable {X:Cx}
noncomputable def rLtL:R2:=λx y H Q=>∃a b ns c,x = .ref a/\y = .ref b/\H a=some (.lst (ns.map V.int))/\H b=some (.lst (c.map V.int))/\Q (.bl (HT.lexLt ns c)) H
theorem Q3 (o:X.A.units<cLine):jL X (compareOp .Lt) rLtL:=by intro c s σ H x y v u Q I f e h;obtain⟨a,b,ns,d,rfl,rfl,r,p,q⟩:=h;cases f;cases e;obtain⟨its,r1,j,_⟩:=I.list (fQ.of r);obtain⟨its2,g,i,_⟩:=I.list (fQ.of p);have m:IntsAre its.toArray.toList ns:=uN r1;have l:IntsAre its2.toArray.toList d:=uN g;exact BJ j.isList i.isList m l o ⟨.bl (HT.lexLt ns d),H,I,rfl,q⟩
end
end L2
namespace L2
open PySem PySem.Spec PyProof.Rows
section
variable {X:Cx}{pos:Pos}
theorem ND {i j:Nat}{x y:Str}{e d:Pos}{k:_}(hc:X.calm=true)(c:X.N.Nodup)(g:X.N[i]?=some x)(f:X.N[j]?=some y)(b:X.env.scope.names.lookup x=some .local)(a:X.env.scope.names.lookup y=some .local) :
  PG X (.Tuple [.Name x e,.Name y d] k pos) (gTup X.K 2 (gCons (gName i) (gCons (gName j) gNil))) :=
 J7 hc (oY (bO c g (.inl b) (.inr b)) (oY (bO c f (.inl a) (.inr a)) FC))
end
section
variable {g g1 g2:TG}{tb:TS}{D:iJ}{σ:St}{H:Hp}{tt:TT}{te:TE}{Q:VK}{K:PySem.W.Frag}{wi2:TI}{acc:List V}{Fin:List V->St->Hp->Prop}
theorem tComp2_eq {src:List (Option Nat)}{a:TI}{σ:St}{H:Hp}{Q:VK}:QK src a g1 wi2 g2 tt te σ H Q=a σ H λJ b=>MI J g1 wi2 g2 tt te Q (stC src σ) b:=rfl
end
section
variable {X:Cx}
theorem jA (a:X.A.units+64<cLine):jL X (compareOp .Lt) (λx y H Q=>(rI0 (λi j=>.bl (decide (i<j))) x y H Q∨(∃i j,x = .str i/\y = .str j/\Q (.bl (decide (i.cps.toList<j.cps.toList))) H))∨rLtL x y H Q) :=
 (SK.or G8).or (Q3 (by omega))
end
section
variable {H:Hp}{a p:Addr}{xs:List V}{Q:VK}{K:PySem.W.Frag}
theorem rIs_eq {x c:V}:rIs [x,c] H Q = ∃b,isV H x c=some b/\Q (.bl b) H:=propext ⟨λ⟨a,d,b,e,h,q⟩=>by cases e;exact⟨b,h,q⟩,λ⟨b,h,q⟩=>⟨x,c,b,rfl,h,q⟩⟩
theorem truV_bl {b k:Bool}:O7 K (.bl b) H k=(k=b):=rfl
theorem isV_ii {n:Int}:isV H (.int n) (.ty "int")=some true:=rfl
theorem isV_ib {n:Int}:isV H (.int n) (.ty "bool")=some false:=rfl
theorem isV_bb {n:Bool}:isV H (.bl n) (.ty "bool")=some true:=rfl
theorem isV_ll (h:H a=some (.lst xs)):isV H (.ref a) (.ty "list")=some true:=by unfold isV tyN;simp only[h];rfl
theorem LH (h:H a=some (.lst xs))(b:H p=some (.tup [.ty "list",.ty "tuple"])):isV H (.ref a) (.ref p)=some true:=by unfold isV tyN clsV;simp only[h,b];rfl
theorem LG (h:H a=some (.tup xs))(b:H p=some (.tup [.ty "list",.ty "tuple"])):isV H (.ref a) (.ref p)=some true:=by unfold isV tyN clsV;simp only[h,b];rfl
theorem lenV_l (h:H a=some (.lst xs)):lenV H (.ref a)=some xs.length:=by unfold lenV;simp only[h]
theorem lenV_t (h:H a=some (.tup xs)):lenV H (.ref a)=some xs.length:=by unfold lenV;simp only[h]
theorem seqV_l (h:H a=some (.lst xs)):seqV H (.ref a)=some xs:=by unfold seqV;simp only[h]
theorem seqV_t (h:H a=some (.tup xs)):seqV H (.ref a)=some xs:=by unfold seqV;simp only[h]
theorem ixV_l {i:Int}(h:H a=some (.lst xs)):ixV H (.ref a) (.int i)=atI xs i:=by unfold ixV;simp only[h]
theorem ixV_t {i:Int}(h:H a=some (.tup xs)):ixV H (.ref a) (.int i)=atI xs i:=by unfold ixV;simp only[h]
end
section
def fY (H:Hp)(a:Addr)(xs:List V):Prop:=H a=some (.lst xs)∨H a=some (.tup xs)
theorem fY.same {H H':Hp}{a:Addr}{xs:List V}(h:fY H a xs)(s:aH H H'):fY H' a xs:=h.elim (λe=>.inl (s _ _ e)) λe=>.inr (s _ _ e)
variable {g:TG}{tt:TT}{te:TE}{Q:VK}{K:PySem.W.Frag}{σ:St}{H:Hp}
variable {tb:TS}{D:iJ}
end
section
variable {X:Cx}{pos:Pos}{tg:Expr}
theorem cJ (K:PySem.W.Frag)(h:X.K=K){i j:Nat}{x y:Str}{b a:Pos}{k:_}(hc:X.calm=true)(g:X.N.Nodup)(f:X.N[i]?=some x)(e:X.N[j]?=some y)(d:X.env.scope.names.lookup x=some .local)(c:X.env.scope.names.lookup y=some .local) :
  PG X (.Tuple [.Name x b,.Name y a] k pos) (gTup K 2 (gCons (gName i) (gCons (gName j) gNil))):=by subst h;exact ND hc g f e d c
noncomputable def tTruth (K:PySem.W.Frag)(b:TE):TT:=λσ H Q=>b σ H λx a=>∃k,O7 K x a k/\Q k a
theorem a0 (K:PySem.W.Frag)(f:X.K=K){a:Expr}{c:TE}(e:PE X a c)(d:∀b,isTrue a X.env b=(do let v ←b;standAt a.pos;holding [v] (truthy v))):PT X a (tTruth K c):=by subst f;exact J4 e d
end
def PH (K:PySem.W.Frag)(a:Addr)(xs:List V)(J:It)(H:Hp):Prop:=(J=P3 K a/\H a=some (.lst xs))∨(J=P2 K a/\H a=some (.tup xs))
noncomputable def iSq (K:PySem.W.Frag)(tl:TE):TI:=λσ H R=>tl σ H λx b=>∃a xs,x = .ref a/\fY b a xs/\∀J,PH K a xs J b->R J b
section
variable {X:Cx}{tg:Expr}
theorem dQ (K:PySem.W.Frag)(w:X.K=K){l:Expr}{tl:TE}(u:PE X l tl):PI X tg l (iSq K tl):=by
 subst w;intro f s σ H R I h;refine thn (u f s σ H _ I h) λv c ⟨x,j,d,r1,r⟩=>?_;obtain⟨a,xs,e,t,q⟩:=r;subst e;cases r1;rcases t with g|g
 ·obtain⟨its,m,p,hz⟩:=d.list (fQ.of g);refine wpAny_pyIter_list p.isList ?_;refine⟨c.heap.objs.size,[c.heap.objs.size],_,_,j,rfl,d.kept (t':=c.toks) λb o e=>af _ e,GP a _,⟨_,au _ rfl,rfl,rfl⟩,λb i=>?_,q _ (.inl ⟨rfl,g⟩)⟩;have e:b=c.heap.objs.size:=by simpa using i
  subst e;exact d.fpOk (ac _) (d.hok.fresh (ac _))
 ·obtain⟨its,m,p,hz⟩:=d.tuple (iE.of g);refine wpAny_pyIter_tuple (show c.heap.IsTuple a its.toArray from p) ?_;refine⟨c.heap.objs.size,[c.heap.objs.size],_,_,j,rfl,d.kept (t':=c.toks) λb o e=>af _ e,CT a _,⟨_,au _ rfl,rfl,rfl⟩,λb i=>?_,q _ (.inr ⟨rfl,g⟩)⟩;have e:b=c.heap.objs.size:=by simpa using i
  subst e;exact d.fpOk (ac _) (d.hok.fresh (ac _))
end
section
variable {g g1 g2:TG}{tb:TS}{D:iJ}{σ:St}{H:Hp}{tt:TT}{te:TE}{Q:VK}{K:PySem.W.Frag}{wi2:TI}{J:It}{a:Addr}{xs:List V}
theorem lA (j:PH K a xs J H)(Pv:Nat->St->Hp->Prop)(f:Pv 0 σ H)(d:∀i σ H',i<=xs.length->Pv i σ H'->H' a=H a)
  (c:∀i x σ H,xs[i]?=some x->Pv i σ H->g x σ H λh l=>tb {D with nx:=Pv (i+1),ct:=Pv (i+1),bk:=D.nx} h l) (hd:∀σ H,Pv xs.length σ H->D.nx σ H):rH J g tb D σ H:=by
 rcases j with⟨rfl,e⟩|⟨rfl,e⟩
 ·exact II xs Pv f (λi σ H' b p=>(d i σ H' b p).trans e) c hd
 ·exact LM xs Pv f (λi σ H' b p=>(d i σ H' b p).trans e) c hd
theorem dA (j:PH K a xs J H)(Pv:Nat->List V->St->Hp->Prop)(h:Pv 0 [] σ H)(f:∀i b σ H',i<=xs.length->Pv i b σ H'->H' a=H a)
  (d:∀i x b σ H,xs[i]?=some x->Pv i b σ H->CStep g tt te x b σ H (Pv (i+1))) (hd:∀b σ H,Pv xs.length b σ H->∀p,H p=none->Q (.ref p) (upd H p (.lst b))):nR J g tt te Q σ H:=by
 rcases j with⟨rfl,e⟩|⟨rfl,e⟩
 ·exact EH xs Pv h (λi b σ H' c p=>(f i b σ H' c p).trans e) d hd
 ·exact IQ xs Pv h (λi b σ H' c p=>(f i b σ H' c p).trans e) d hd
end
noncomputable def rSlU:V->Option Int->Option Int->Hp->VK->Prop:=λx b c H Q=>∃a xs,x = .ref a/\fY H a xs/\((∃ys,H a=some (.tup ys))->¬(HT.sIx xs.length 0 b=0/\HT.sIx xs.length xs.length c=xs.length)) /\
 ∀p o,H p=none->(o = .lst (cutV xs b c)/\H a=some (.lst xs)∨o = .tup (cutV xs b c)/\H a=some (.tup xs))->Q (.ref p) (upd H p o)
theorem kR {X:Cx}:SV X rSlU:=by
 intro b s σ H x v f e l o g Q I i m pl j h;obtain⟨a,xs,rfl,c|c,r,q⟩:=h
 ·exact MU b s σ H _ v f e l o g Q I i m pl j ⟨a,xs,rfl,fQ.of c,λp d=>q p _ d (.inl ⟨rfl,c⟩)⟩
 ·exact QN b s σ H _ v f e l o g Q I i m pl j ⟨a,xs,rfl,iE.of c,r ⟨_,c⟩,λp d=>q p _ d (.inr ⟨rfl,c⟩)⟩
section
variable {H:Hp}{Q:VK}
theorem rEqD_ii {i j:Int}:rEqD (.int i) (.int j) H Q=Q (.bl (decide (i=j))) H:=by
 have e:eqD (.int i) (.int j)=decide (i=j):=by show(i == j)=_;rw[bS];simp
 refine propext ⟨λ⟨d,c,b,a,_,q⟩=>?_,λq=>⟨.int i,.int j,rfl,rfl,av _,by rw[e];exact q⟩⟩;have g:d = .int i:=bD.inj b (show bD H (.int i) (.int i)from rfl);have f:c = .int j:=bD.inj a (show bD H (.int j) (.int j)from rfl);rw[g,f,e]at q;exact q
theorem rNeD_ii {i j:Int}:rNeD (.int i) (.int j) H Q=Q (.bl (!decide (i=j))) H:=by
 have e:eqD (.int i) (.int j)=decide (i=j):=by show(i == j)=_;rw[bS];simp
 refine propext ⟨λ⟨d,c,b,a,_,q⟩=>?_,λq=>⟨.int i,.int j,rfl,rfl,av _,by rw[e];exact q⟩⟩;have g:d = .int i:=bD.inj b (show bD H (.int i) (.int i)from rfl);have f:c = .int j:=bD.inj a (show bD H (.int j) (.int j)from rfl);rw[g,f,e]at q;exact q
theorem rEqD_ss {i j:Str}:rEqD (.str i) (.str j) H Q=Q (.bl (decide (i=j))) H:=by
 have e:eqD (.str i) (.str j)=decide (i=j):=by show(i == j)=_;rw[bS];simp
 refine propext ⟨λ⟨d,c,b,a,_,q⟩=>?_,λq=>⟨.str i,.str j,rfl,rfl,av _,by rw[e];exact q⟩⟩;have g:d = .str i:=bD.inj b (show bD H (.str i) (.str i)from rfl);have f:c = .str j:=bD.inj a (show bD H (.str j) (.str j)from rfl);rw[g,f,e]at q;exact q
theorem rNeD_ss {i j:Str}:rNeD (.str i) (.str j) H Q=Q (.bl (!decide (i=j))) H:=by
 have e:eqD (.str i) (.str j)=decide (i=j):=by show(i == j)=_;rw[bS];simp
 refine propext ⟨λ⟨d,c,b,a,_,q⟩=>?_,λq=>⟨.str i,.str j,rfl,rfl,av _,by rw[e];exact q⟩⟩;have g:d = .str i:=bD.inj b (show bD H (.str i) (.str i)from rfl);have f:c = .str j:=bD.inj a (show bD H (.str j) (.str j)from rfl);rw[g,f,e]at q;exact q
theorem sV {a b:Addr}{xs ys:List V}(d:H a=some (.lst xs))(c:H b=some (.lst ys))(hz:xs.length+ys.length<=sizeLine):catO H (.ref a) (.ref b)=some (.lst (xs++ys)):=by unfold catO;simp only[d,c];rw[ai hz]
theorem catO_i {i:Int}{y:V}:catO H (.int i) y=none:=by cases y <;> rfl
theorem catO_s {i:Str}{y:V}:catO H (.str i) y=none:=by cases y <;> rfl
end
noncomputable def rTupU:List V->Hp->VK->Prop:=λxs H Q=>∃p ys,xs=[.ref p]/\fY H p ys/\∀l H',(H p=some (.tup ys)/\l=p/\H'=H∨H p=some (.lst ys)/\H l=none/\H'=upd H l (.tup ys))->Q (.ref l) H'
theorem dY {X:Cx}:cL X (.type "tuple") rTupU:=by
 refine vX.imp λxs H Q h=>?_;obtain⟨p,ys,rfl,a|a,q⟩:=h
 ·exact⟨p,ys,rfl,.inl ⟨fQ.of a,λl b=>q l _ (.inr ⟨a,b,rfl⟩)⟩⟩
 ·exact⟨p,ys,rfl,.inr ⟨iE.of a,q p _ (.inl ⟨a,rfl,rfl⟩)⟩⟩
section
variable {X:Cx}{x:Str}{C:Addr}{np cpos pos:Pos}{e:Expr}{ta:TA}{E:XK}
noncomputable def tRaise (C:Addr)(E:XK)(a:TA):TS:=λ_ σ H=>a σ H λvs b=>vs.length<=1000/\E (.ref C) none b
end
noncomputable abbrev Cx.tr (X:Cx)(pn:cY)(E:cE):Cx:={X with pn:=pn,xe:=E}
section
variable {X:Cx}{pins:cY}{σ:St}{H:Hp}{s:Shared}{e:Value}
theorem Cx.Ok.tr (ok:X.Ok)(pn:cY)(E:cE):(X.tr pn E).Ok :=
 ⟨ok.mod,ok.kind,ok.glob,ok.blt,ok.above,ok.inj,ok.has,ok.cab,ok.hd,ok.frames,ok.stk,ok.exf,ok.bs,ok.bsz,ok.noex,ok.exfs,ok.funs,ok.frf⟩
theorem aR.tr (I:aR X pins σ H s)(E:cE):aR (X.tr (X.pn++pins) E) [] σ H s:=⟨I.ok.tr _ E,I.os,I.bare,I.base,I.loc,I.cell,I.free,I.freeC,λp a=>I.pin p (by simpa using a),I.hok,I.len⟩
theorem aR.untr {E:cE}{pl:cY}(ok:X.Ok)(I:aR (X.tr (X.pn++pins) E) pl σ H s):aR X pins σ H s:=⟨ok,I.os,I.bare,I.base,I.loc,I.cell,I.free,I.freeC,λp a=>I.pin p (cb _ a),I.hok,I.len⟩
theorem SP.untr {D:iJ}{f:Flow}{a:Shared}{E:cE}{pl:cY}(ok:X.Ok)(h:SP (X.tr (X.pn++pins) E) pl D f a):SP X pins D f a:=by
 cases f with
 | next=>obtain⟨σ,H,I,q⟩:=h;exact⟨σ,H,I.untr ok,q⟩
 | brk=>obtain⟨σ,H,I,q⟩:=h;exact⟨σ,H,I.untr ok,q⟩
 | cont=>obtain⟨σ,H,I,q⟩:=h;exact⟨σ,H,I.untr ok,q⟩
 | ret v=>obtain⟨x,σ,H,I,r,q⟩:=h;exact⟨x,σ,H,I.untr ok,r,q⟩
end
section
variable {X:Cx}{x:Str}{C:Addr}{np hp pos:Pos}{EX:XK}{b0:Stmt}{suite body:List Stmt}{tb th:TS}
noncomputable def tTry (c:TS)(EX:XK)(b:TS):TS:=λD σ H=>c D σ H/\∀cls d a H',EX cls d H'->b D a H'
end
noncomputable def UJ (K:PySem.W.Frag)(a:Addr):It :=
 ⟨λi H=>∃xs x,fQ K H a xs/\xs[i]?=some x,λi H z H'=>∃T x,z = .ref T/\H T=none/\H'=upd H T (.tup [.int i,x])/\∀xs,fQ K H a xs->xs[i]?=some x,λi H=>∃xs,fQ K H a xs/\xs.length<=i⟩
noncomputable def iEnum (K:PySem.W.Frag)(c:TA):TI:=λσ H R=>c σ H λvs b=>∃a,vs=[.ref a]/\(∃xs,fQ K b a xs)/\R (UJ K a) b
def jX (h:Heap)(i a:Addr)(k:Nat):Prop:=h.IsListIter i a k∨h.IsTupleIter i a k
def rG (h:Heap)(a:Addr)(xs:jK):Prop:=∃o n,h.get? a=some o/\o.data = .seq xs n
theorem jX.at {h h':Heap}{i a:Addr}{k:Nat}(x:jX h i a k)(e:∀o,h.get? i=some o->h'.get? i=some o):jX h' i a k:=x.elim (λy=>.inl (y.at e)) λy=>.inr (y.at e)
theorem rG.at {h h':Heap}{a:Addr}{xs:jK}(x:rG h a xs)(e:∀o,h.get? a=some o->h'.get? a=some o):rG h' a xs:=by obtain⟨o,n,ho,hd⟩:=x;exact⟨o,n,e o ho,hd⟩
theorem jX.obj {h:Heap}{i a:Addr}{k:Nat}(x:jX h i a k):∃o,h.get? i=some o/\o.data = .fields #[.ref a,.int k 0]:=by
 rcases x with⟨o,e,_,d⟩|⟨o,e,_,d⟩
 ·exact⟨o,e,d⟩
 ·exact⟨o,e,d⟩
section
variable {prog:Program}{w:World}{A:Around}{E:cE}{s:Shared}{it l:Addr}{i:Nat}{items:jK}
theorem nA {T id:String}{b:Builtin}{Q:cE}(kind:s.TypeIs (.ref it) T)(slot:Slot T "__next__" id)(a:entryFor table id=some b)(args:argsOk id ⟨[.ref it],[]⟩)
  (h:wpAny (model prog w) A.in1 (b ⟨[.ref it],[]⟩) (λf t=>∃v,f = .done (.ret v)/\Q v t) E s):wpAny (model prog w) A (Builtin.SmallTypes.nextOf (.ref it)) Q E s:=by
 have asked:wpAny (model prog w) A (callSpecial? (.ref it) "__next__") (λr t=>∃v,r=some v/\Q v t) E s :=
  wpAny_callSpecial?_slot kind slot (wpAny_call_entry slot kind a (thn h λf t ⟨v,e,q⟩=>⟨v,e,v,rfl,q⟩) args)
 refine aa (thn asked ?_);rintro _ t ⟨v,rfl,q⟩;exact al q
structure mI (prog:Program)(w:World)(A:Around)(E:cE)(s:Shared)(it l:Addr)(i:Nat)(items:jK):Prop where
 seq:∀(Q:cE),Q (.ref l) s->wpAny (model prog w) A (field (.ref it) 0) Q E s
 place:∀(Q:cE),Q (.int i 0) s->wpAny (model prog w) A (field (.ref it) 1) Q E s
 items:∀(Q:Option (jK)->Shared->Prop),Q (some items) s->wpAny (model prog w) A (seqItems? (.ref l)) Q E s
 set:∀(k:Nat) (v:Value) (Q:Unit->Shared->Prop),k<2->Q () {s with heap:=s.heap.update it (Obj.mapFields (·.setIfInBounds k v))}->wpAny (model prog w) A (setField (.ref it) k v) Q E s
theorem mI.of {o:Obj}(ho:s.heap.get? it=some o)(hd:o.data = .fields #[.ref l,.int i 0])(c:rG s.heap l items):mI prog w A E s it l i items:=by obtain⟨ol,nl,a,b⟩:=c;exact⟨λ_ h=>wpAny_field ho hd rfl h,λ_ h=>wpAny_field ho hd rfl h,λ_ h=>wpAny_seqItems a b h,λk v _ d h=>wpAny_setField ho hd d h⟩
noncomputable abbrev BV (b:Builtin):Prop:=b=Builtin.«list_iterator.__next__»∨b=Builtin.«tuple_iterator.__next__»
theorem rL {b:Builtin}{x:Value}{Q:cE}(g:BV b)(R:mI prog w A E s it l i items)(e:items[i]?=some x)
  (j:Q x {s with heap:=s.heap.update it (Obj.mapFields (·.setIfInBounds 1 (rawInt (i+1))))}):wpAny (model prog w) A (b ⟨[.ref it],[]⟩) (λf t=>∃v,f = .done (.ret v)/\Q v t) E s:=by
 have d:=R.seq;have r1:=R.place;have c:=R.items;have a:=λQ h=>R.set 1 (rawInt (i+1)) Q (by decide) h;rcases g with rfl|rfl
 all_goals
  wp_walk using d,r1,c,a
  rw[ck,e]
  wp_walk using d,r1,c,a
  exact⟨x,rfl,j⟩
theorem tR {b:Builtin}{Q:PySem.Fin->Shared->Prop}(g:A.handled=none)(j:BV b)(R:mI prog w A E s it l i items)(f:items[i]?=none)
  (m:∀h' e,Heap.ExtBut it s.heap h'->(∃o,h'.get? e=some o/\o.cls = .type "StopIteration")->E (.ref e) {s with heap:=h'}):wpAny (model prog w) A (b ⟨[.ref it],[]⟩) Q E s:=by
 have d:=R.seq;have r1:=R.place;have c:=R.items;have a:=λQ h=>R.set 0 .none Q (by decide) h;rcases j with rfl|rfl
 all_goals
  wp_walk using d,r1,c,a
  rw[ck,f]
  wp_walk using d,r1,c,a
  exact wpAny_raiseNew_none g (m _ _ (((Heap.SameBut.update ..).extBut.push _).push _) ⟨_,au _ rfl,rfl⟩)
theorem OD {x:Value}{Q:cE}(b:jX s.heap it l i)(f:rG s.heap l items)(e:items[i]?=some x)(g:∀h',jX h' it l (i+1)->Heap.SameBut it s.heap h'->Q x {s with heap:=h'}):wpAny (model prog w) A (Builtin.SmallTypes.nextOf (.ref it)) Q E s:=by
 obtain⟨o,ho,hd⟩:=b.obj;have new:(s.heap.update it (Obj.mapFields (·.setIfInBounds 1 (rawInt (i+1))))).get? it=some (o.mapFields (·.setIfInBounds 1 (rawInt (i+1)))):=Heap.get?_update_self _ ho (Obj.isFreed_of_fields (Obj.data_mapFields hd _));have data:(o.mapFields (·.setIfInBounds 1 (rawInt (i+1)))).data = .fields #[.ref l,.int (i+1:Nat) 0]:=by rw[Obj.data_mapFields hd];simp[rawInt]
 have cls:(o.mapFields (·.setIfInBounds 1 (rawInt (i+1)))).cls=o.cls:=Obj.cls_mapFields ..;have same:Heap.SameBut it s.heap (s.heap.update it (Obj.mapFields (·.setIfInBounds 1 (rawInt (i+1))))):=Heap.SameBut.update ..;rcases b with d|c
 ·obtain⟨h,a,hc,_⟩:=id d;rw[ho]at a;cases a;exact nA d.typeIs slot_listiter_next entry_listiter_next (args_listiter_next _) (rL (.inl rfl) (mI.of ho hd f) e (g _ (.inl ⟨_,new,cls.trans hc,data⟩) same))
 ·obtain⟨h,a,hc,_⟩:=id c;rw[ho]at a;cases a;exact nA c.typeIs PySem.F.slot_tuple_iterator_next PySem.F.entry_tuple_iterator_next (PySem.F.args_tuple_iterator_next_1 _) (rL (.inr rfl) (mI.of ho hd f) e (g _ (.inr ⟨_,new,cls.trans hc,data⟩) same))
theorem RE {Q:cE}(h:A.handled=none)(a:jX s.heap it l i)(c:rG s.heap l items)(b:items[i]?=none)
  (d:∀h' e,Heap.ExtBut it s.heap h'->(∃o,h'.get? e=some o/\o.cls = .type "StopIteration")->E (.ref e) {s with heap:=h'}):wpAny (model prog w) A (Builtin.SmallTypes.nextOf (.ref it)) Q E s:=by
 obtain⟨o,ho,hd⟩:=a.obj;have no:A.in1.handled=none:=h;rcases a with g|f
 ·exact nA g.typeIs slot_listiter_next entry_listiter_next (args_listiter_next _) (tR no (.inl rfl) (mI.of ho hd c) b d)
 ·exact nA f.typeIs PySem.F.slot_tuple_iterator_next PySem.F.entry_tuple_iterator_next (PySem.F.args_tuple_iterator_next_1 _) (tR no (.inr rfl) (mI.of ho hd c) b d)
end
structure RZ (z TI TO i1 i2 l1 l2:Addr):Prop extends ZipAt z TI TO i1 i2 where
 n1:l1∉[z,TO,i1,i2]
 n2:l2∉[z,TO,i1,i2]
structure ZS (h0:Heap)(z TI TO i1 i2 l1 l2:Addr)(xs ys:jK)(h:Heap)(f a b:Value)(k1 k2:Nat):Prop where
 ap:RZ z TI TO i1 i2 l1 l2
 zip:IsZip h z TI TO f
 tin:IsPair h TI (.ref i1) (.ref i2)
 tout:IsPair h TO a b
 one:jX h i1 l1 k1
 two:jX h i2 l2 k2
 src1:rG h l1 xs
 src2:rG h l2 ys
 far:∀c o,c∉[z,TO,i1,i2]->h0.get? c=some o->h.get? c=some o
section
variable {prog:Program}{w:World}{A:Around}{E:cE}{s:Shared}{z TI TO i1 i2 l1 l2:Addr}{k1 k2:Nat}{xs ys:jK}{f a b:Value}{h0 h h':Heap}
theorem off4 {c:Addr}(hc:c∉[z,TO,i1,i2]):c≠z/\c≠TO/\c≠i1/\c≠i2:=by simpa using hc
theorem ZS.self (Z:ZS h0 z TI TO i1 i2 l1 l2 xs ys h f a b k1 k2)(e:Heap.ExtBut z h h'){f':Value}(hz:IsZip h' z TI TO f'):ZS h0 z TI TO i1 i2 l1 l2 xs ys h' f' a b k1 k2 :=
 ⟨Z.ap,hz,e _ _ Z.ap.TIz Z.tin,e _ _ Z.ap.TOz Z.tout,Z.one.at λo=>e _ o Z.ap.i1z,Z.two.at λo=>e _ o Z.ap.i2z,Z.src1.at λo=>e _ o (off4 Z.ap.n1).1,Z.src2.at λo=>e _ o (off4 Z.ap.n2).1,λc o hc q=>e c o (off4 hc).1 (Z.far c o hc q)⟩
theorem ZS.out (Z:ZS h0 z TI TO i1 i2 l1 l2 xs ys h f a b k1 k2)(e:Heap.ExtBut TO h h'){g d:Value}(i:IsPair h' TO g d):ZS h0 z TI TO i1 i2 l1 l2 xs ys h' f g d k1 k2 :=
 ⟨Z.ap,e _ _ Z.ap.TOz.symm Z.zip,e _ _ Z.ap.TITO Z.tin,i,Z.one.at λo=>e _ o Z.ap.TOi1.symm,Z.two.at λo=>e _ o Z.ap.TOi2.symm,Z.src1.at λo=>e _ o (off4 Z.ap.n1).2.1,Z.src2.at λo=>e _ o (off4 Z.ap.n2).2.1,λc o hc q=>e c o (off4 hc).2.1 (Z.far c o hc q)⟩
theorem ZS.on1 (Z:ZS h0 z TI TO i1 i2 l1 l2 xs ys h f a b k1 k2)(e:Heap.ExtBut i1 h h'){k:Nat}(d:jX h' i1 l1 k):ZS h0 z TI TO i1 i2 l1 l2 xs ys h' f a b k k2 :=
 ⟨Z.ap,e _ _ Z.ap.i1z.symm Z.zip,e _ _ Z.ap.TIi1 Z.tin,e _ _ Z.ap.TOi1 Z.tout,d,Z.two.at λo=>e _ o Z.ap.i12.symm,Z.src1.at λo=>e _ o (off4 Z.ap.n1).2.2.1,Z.src2.at λo=>e _ o (off4 Z.ap.n2).2.2.1,λc o hc q=>e c o (off4 hc).2.2.1 (Z.far c o hc q)⟩
theorem ZS.on2 (Z:ZS h0 z TI TO i1 i2 l1 l2 xs ys h f a b k1 k2)(e:Heap.ExtBut i2 h h'){k:Nat}(d:jX h' i2 l2 k):ZS h0 z TI TO i1 i2 l1 l2 xs ys h' f a b k1 k :=
 ⟨Z.ap,e _ _ Z.ap.i2z.symm Z.zip,e _ _ Z.ap.TIi2 Z.tin,e _ _ Z.ap.TOi2 Z.tout,Z.one.at λo=>e _ o Z.ap.i12,d,Z.src1.at λo=>e _ o (off4 Z.ap.n1).2.2.2,Z.src2.at λo=>e _ o (off4 Z.ap.n2).2.2.2,λc o hc q=>e c o (off4 hc).2.2.2 (Z.far c o hc q)⟩
theorem ZS.push (Z:ZS h0 z TI TO i1 i2 l1 l2 xs ys h f a b k1 k2)(o:Obj):ZS h0 z TI TO i1 i2 l1 l2 xs ys (h.push o) f a b k1 k2:=by have e:∀c x,h.get? c=some x->(h.push o).get? c=some x:=λc x q=>af o q;exact⟨Z.ap,e _ _ Z.zip,e _ _ Z.tin,e _ _ Z.tout,Z.one.at (e _),Z.two.at (e _),Z.src1.at (e _),Z.src2.at (e _),λc x hc q=>e c x (Z.far c x hc q)⟩
structure ZF (prog:Program)(w:World)(A:Around)(E:cE)(s:Shared)(z TI TO i1 i2:Addr)(f a b:Value):Prop where
 f0:∀(Q:cE),Q f s->wpAny (model prog w) A (field (.ref z) 0) Q E s
 f2:∀(Q:cE),Q (.bool false) s->wpAny (model prog w) A (field (.ref z) 2) Q E s
 f3:∀(Q:cE),Q (.ref TI) s->wpAny (model prog w) A (field (.ref z) 3) Q E s
 f4:∀(Q:cE),Q (.ref TO) s->wpAny (model prog w) A (field (.ref z) 4) Q E s
 ins:∀(Q:Option (jK)->Shared->Prop),Q (some #[.ref i1,.ref i2]) s->wpAny (model prog w) A (seqItems? (.ref TI)) Q E s
 outs:∀(Q:Option (jK)->Shared->Prop),Q (some #[a,b]) s->wpAny (model prog w) A (seqItems? (.ref TO)) Q E s
 set:∀(v:Value) (Q:Unit->Shared->Prop),(∀h',IsZip h' z TI TO v->Heap.SameBut z s.heap h'->Q () {s with heap:=h'})->wpAny (model prog w) A (setField (.ref z) 0 v) Q E s
 put:∀(k:Nat) (v:Value) (Q:Unit->Shared->Prop),(∀h',IsPair h' TO (if k=0 then v else a) (if k=1 then v else b)->Heap.SameBut TO s.heap h'->Q () {s with heap:=h'})->k<2->wpAny (model prog w) A (updateSeq TO (·.setIfInBounds k v)) Q E s
theorem ZS.asked (Z:ZS h0 z TI TO i1 i2 l1 l2 xs ys s.heap f a b k1 k2):ZF prog w A E s z TI TO i1 i2 f a b:=by
 refine⟨λ_ q=>wpAny_field Z.zip rfl rfl q,λ_ q=>wpAny_field Z.zip rfl rfl q,λ_ q=>wpAny_field Z.zip rfl rfl q,λ_ q=>wpAny_field Z.zip rfl rfl q,λ_ q=>wpAny_seqItems Z.tin rfl q,λ_ q=>wpAny_seqItems Z.tout rfl q,λv _ q=>?_,λk v _ q d=>?_⟩
 ·exact wpAny_setField_rec Z.zip (by simp) λh' e c=>q h' e c
 ·refine wpAny_updateSeq_pair Z.tout λh' e c=>q h' ?_ c
  match k,d with
  | 0,_=>exact e
  | 1,_=>exact e
noncomputable abbrev SS (h0:Heap)(z TI TO i1 i2 l1 l2:Addr)(xs ys:jK)(a b:Value)(k1 k2:Nat)(h:Heap):List (Value×Nat)->Prop
 | []=>∃x y,xs[k1]?=some x/\ys[k2]?=some y/\ZS h0 z TI TO i1 i2 l1 l2 xs ys h .ellipsis x y (k1+1) (k2+1)
 | [p]=>p=(.ref i2,1)/\∃x,xs[k1]?=some x/\ZS h0 z TI TO i1 i2 l1 l2 xs ys h .ellipsis x b (k1+1) k2
 | [p,q]=>p=(.ref i1,0)/\q=(.ref i2,1)/\ZS h0 z TI TO i1 i2 l1 l2 xs ys h .ellipsis a b k1 k2
 | _=>False
noncomputable abbrev AN (h:Heap)(e:Addr):Prop:=∃o,h.get? e=some o/\o.cls = .type "StopIteration"
theorem v9 {a:Sem (Option Value)}{i l:Addr}{k:Nat}{items:jK}{Q:Option Value->Shared->Prop}(hd:a=(Builtin.SmallTypes.nextOf (.ref i) >>= λv=>pure (some v)))(f:A.handled=none)(it:jX s.heap i l k)(src:rG s.heap l items)(hz:IsZip s.heap z TI TO .ellipsis)(d:i≠z)
  (item:∀v h',items[k]?=some v->jX h' i l (k+1)->Heap.SameBut i s.heap h'->Q (some v) {s with heap:=h'})
  (stop:items[k]?=none->∀h' b e,Heap.ExtBut i s.heap h'->Heap.SameBut z h' b->AN b e->E (.ref e) {s with heap:=b}) :
  wpAny (model prog w) A (a.onRaise λ_=>setField (.ref z) 0 .none) Q E s:=by
 subst hd;refine wpAny_onRaise (aa ?_);cases e:items[k]? with
 | some v=>exact OD it src e λh' h g=>al (item v h' e h g)
 | none =>
  refine RE f it src e λh' x ext ⟨o,ho,hc⟩=>?_;have zip:=ext z _ d.symm hz;have ne:x≠z:=λq=>by rw[q,zip]at ho;cases ho;exact absurd (show Value.type "zip" = .type "StopIteration" from hc) (by decide)
  exact wpAny_setField_rec zip (by simp) λb _ c=>stop e h' b x ext c ⟨o,c.extBut x o ne ho,hc⟩
theorem GJ {Q:cE}(W:A.handled=none)(Z:ZS s.heap z TI TO i1 i2 l1 l2 xs ys s.heap .none a b k1 k2)
  (item:∀x y h',xs[k1]?=some x->ys[k2]?=some y->ZS s.heap z TI TO i1 i2 l1 l2 xs ys h' (rawInt s.heap.objs.size) x y (k1+1) (k2+1)->IsPair h' s.heap.objs.size x y->h'.objs.size=s.heap.objs.size+1->Q (.ref s.heap.objs.size) {s with heap:=h'})
  (stop:(xs[k1]?=none∨ys[k2]?=none)->∀h' e,(∀c o,c∉[z,TO,i1,i2]->s.heap.get? c=some o->h'.get? c=some o)->AN h' e->E (.ref e) {s with heap:=h'}) :
  wpAny (model prog w) A (Builtin.«zip.__next__» ⟨[.ref z],[]⟩) (λf t=>∃v,f = .done (.ret v)/\Q v t) E s:=by
 have F:=Z.asked (prog:=prog) (w:=w) (A:=A) (E:=E);have g0:=F.f0;have g2:=F.f2;have g3:=F.f3;have g4:=F.f4;have gi:=F.ins;have Y:=F.set .ellipsis;obtain⟨h,g,d,tk,os⟩:=s;dsimp only at Z item stop
 wp_walk using g0,g2,g3,g4,gi,Y
 intro X O J;have Z1:=Z.self J.extBut O;have H:X.objs.size=h.objs.size:=J.1;clear F g0 g2 g3 g4 gi Y
 wp_walk using wpAny_forIn_list _ (λrest r t=>r=((none:Option PySem.Fin),())/\∃h',t=⟨h',g,d,tk,os⟩/\h'.objs.size=h.objs.size/\SS h z TI TO i1 i2 l1 l2 xs ys a b k1 k2 h' rest) _
 case turn =>
  rintro p rest r t ⟨rfl,K,rfl,j,zr⟩
  match rest,zr with
  | [],⟨e,x,P,l⟩ =>
   subst e;refine aa (v9 rfl W l.two l.src2 l.zip l.ap.i2z (λv T R N m=>?_) λno T C e ext i st=>?_)
   ·have u:=l.on2 m.extBut N;refine aa (wpAny_seqItems u.tout rfl (aa (wpAny_updateSeq_pair u.tout λC L i=>aa (wpAny_letGo (al ?_)))));exact⟨rfl,C,rfl,by rw[i.1,m.1];exact j,x,v,P,R,u.out i.extBut L⟩
   ·exact stop (.inr no) C e (λc o hc q=>i.extBut c o (off4 hc).1 (ext c o (off4 hc).2.2.2 (l.far c o hc q))) st
  | [q],⟨e1,e2,l⟩ =>
   subst e1 e2;refine aa (v9 rfl W l.one l.src1 l.zip l.ap.i1z (λv T R N m=>?_) λno T C e ext i st=>?_)
   ·have u:=l.on1 m.extBut N;refine aa (wpAny_seqItems u.tout rfl (aa (wpAny_updateSeq_pair u.tout λC L i=>aa (wpAny_letGo (al ?_)))));exact⟨rfl,C,rfl,by rw[i.1,m.1];exact j,rfl,v,R,u.out i.extBut L⟩
   ·exact stop (.inl no) C e (λc o hc q=>i.extBut c o (off4 hc).1 (ext c o (off4 hc).2.2.1 (l.far c o hc q))) st
  | _::_::_,zr=>exact zr.elim
 case fin =>
  rintro r t ⟨rfl,K,rfl,j,x,y,P,hy,l⟩;refine aa (wpAny_seqItems l.tout rfl (aa (wpAny_newTuple ?_)));have u:=l.push {cls:=.type "tuple",data:=.seq #[x,y]};refine aa (aa (wpAny_setField_rec u.zip (by simp) λC U i=>wpAny_setField_rec U (by simp) λS z5 I=>al ⟨_,rfl,?_⟩));have G:S.objs.size=h.objs.size+1:=by rw[I.1,i.1,Heap.size_push,j]
  have new:z≠K.objs.size:=bn (ba l.zip);have B:IsPair S K.objs.size x y:=I.extBut _ _ new.symm (i.extBut _ _ new.symm (au _ rfl));have Z5:=(u.self i.extBut (f':=rawInt K.objs.size) U).self I.extBut (f':=rawInt K.objs.size) z5;rw[j]at B Z5⊢;exact item x y S P hy Z5 B G
 case h=>exact⟨rfl,X,rfl,H,rfl,rfl,Z1⟩
theorem G1 {it:Addr}{T id:String}{b:Builtin}{Q:Option Value->Shared->Prop}(kind:s.TypeIs (.ref it) T)(slot:Slot T "__next__" id)(a:entryFor table id=some b)(args:argsOk id ⟨[.ref it],[]⟩)
  (h:wpAny (model prog w) A.in1 (b ⟨[.ref it],[]⟩) (λf t=>∃v,f = .done (.ret v)/\Q (some v) t) (λx t=>∃e,x = .ref e/\AN t.heap e/\Q none t) s):wpAny (model prog w) A (pyNext (.ref it)) Q E s:=by
 have asked:wpAny (model prog w) A (callSpecial? (.ref it) "__next__") (λr t=>∃v,r=some v/\Q (some v) t) (λx t=>∃e,x = .ref e/\AN t.heap e/\Q none t) s :=
  wpAny_callSpecial?_slot kind slot (wpAny_call_entry slot kind a (thn h λf t ⟨v,e,q⟩=>⟨v,e,v,rfl,q⟩) args)
 refine aa (wpAny_attempt (wpAny_mono asked ?_ ?_))
 ·rintro _ t ⟨v,rfl,q⟩;exact al q
 ·rintro _ t ⟨e,rfl,⟨o,ho,hc⟩,q⟩;exact aa (wpAny_isInstance ⟨o,ho,hc⟩ isSubtype_stop (al q))
theorem wV {Q:Option Value->Shared->Prop}(d:A.handled=none)(Z:ZS s.heap z TI TO i1 i2 l1 l2 xs ys s.heap .none a b k1 k2)
  (item:∀x y h',xs[k1]?=some x->ys[k2]?=some y->ZS s.heap z TI TO i1 i2 l1 l2 xs ys h' (rawInt s.heap.objs.size) x y (k1+1) (k2+1)->IsPair h' s.heap.objs.size x y->h'.objs.size=s.heap.objs.size+1->Q (some (.ref s.heap.objs.size)) {s with heap:=h'})
  (stop:(xs[k1]?=none∨ys[k2]?=none)->∀h',(∀c o,c∉[z,TO,i1,i2]->s.heap.get? c=some o->h'.get? c=some o)->Q none {s with heap:=h'}):wpAny (model prog w) A (pyNext (.ref z)) Q E s :=
 G1 (b:=Builtin.«zip.__next__») ⟨_,Z.zip,rfl⟩ PySem.F.slot_zip_next PySem.F.entry_zip_next (PySem.F.args_zip_next_1 _) (GJ (Q:=λv t=>Q (some v) t) d Z item λno h' e far st=>⟨e,rfl,st,stop no h' far⟩)
end
def L9 (h:Heap)(l:Addr)(nm:String):Prop:=(∃xs,h.IsList l xs/\nm="list_iterator")∨(∃xs,h.IsTuple l xs/\nm="tuple_iterator")
theorem L9.push {h:Heap}{l:Addr}{nm:String}{o:Obj}(x:L9 h l nm):L9 (h.push o) l nm:=by
 rcases x with⟨xs,y,e⟩|⟨xs,y,e⟩
 ·exact .inl ⟨xs,y.push _,e⟩
 ·exact .inr ⟨xs,y.push _,e⟩
theorem LF {prog:Program}{w:World}{A:Around}{E:cE}{s:Shared}{l:Addr}{nm:String}{Q:cE}(x:L9 s.heap l nm)
  (h:Q (.ref s.heap.objs.size) {s with heap:=s.heap.push {cls:=.type nm,data:=.fields #[.ref l,.int 0 0]} }):wpAny (model prog w) A (pyIter (.ref l)) Q E s:=by
 rcases x with⟨xs,y,rfl⟩|⟨xs,y,rfl⟩
 ·exact wpAny_pyIter_list y h
 ·exact wpAny_pyIter_tuple y h
theorem IR {prog:Program}{w:World}{A:Around}{E:cE}{s:Shared}{r C:Addr}{n1 n2:String}{Q:cE}(T:L9 s.heap r n1)(S:L9 s.heap C n2)
  (k:∀h' z TI TO f b,ZipAt z TI TO f b->(∀c∈[z,TI,TO,f,b],s.heap.objs.size<=c)->IsZip h' z TI TO .none->IsPair h' TI (.ref f) (.ref b)->IsPair h' TO .none .none->jX h' f r 0->jX h' b C 0->(∀c o,s.heap.get? c=some o->h'.get? c=some o)->Q (.ref z) {s with heap:=h'}):wpAny (model prog w) A (call (.type "zip") [.ref r,.ref C]) Q E s:=by
 have made:Meets (Builtin.«zip.__new__» ⟨[.type "zip",.ref r,.ref C],[]⟩) (λ_ R t=>L9 t.heap r n1/\L9 t.heap C n2/\∀f b TI TO z x v u m,f=t.heap.objs.size->x=t.heap.push {cls:=.type n1,data:=.fields #[.ref r,.int 0 0]} ->
   b=x.objs.size->v=x.push {cls:=.type n2,data:=.fields #[.ref C,.int 0 0]}->TI=v.objs.size->u=v.push {cls:=.type "tuple",data:=.seq #[.ref f,.ref b]}->TO=u.objs.size->m=u.push {cls:=.type "tuple",data:=.seq #[.none,.none]}->z=m.objs.size ->
   R (.ok (.ret (.ref z))) {t with heap:=m.push {cls:=.type "zip",data:=.fields #[.none,.bool false,.bool false,.ref TI,.ref TO]} }):=by
  refine .of_wp λprog w A R t ⟨b1,b2,q⟩=>?_;have J:=sub_zip;obtain⟨h,g,d,tk,os⟩:=t;have r1:=λ(Q:cE) q=>LF (prog:=prog) (w:=w) (A:=A.in1) (E:=λe I=>R (.error e) I) (Q:=Q) b1 q;have X:=λ(Q:cE) q=>LF (prog:=prog) (w:=w) (A:=A.in1) (E:=λe I=>R (.error e) I) (Q:=Q) (s:=⟨h.push {cls:=.type n1,data:=.fields #[.ref r,.int 0 0]},g,d,tk,os⟩) (L9.push b2) q
  wp_walk using r1,X
  exact⟨_,rfl,q _ _ _ _ _ _ _ _ _ rfl rfl rfl rfl rfl rfl rfl rfl rfl⟩
 refine callType_new PySem.F.called_zip (by decide) (PySem.F.typeCall_zip_2 _ _) (PySem.F.newCall_zip_2 _ _) (λobj=>PySem.F.args_object_init_3 obj _ _) PySem.F.entry_zip_new made ⟨T,S,?_⟩;intro f b TI TO z x v u m e1 O e2 N e3 L e4 K e5;have W:x.objs.size=s.heap.objs.size+1:=by rw[O,Heap.size_push]
 have s2:v.objs.size=s.heap.objs.size+2:=by rw[N,Heap.size_push,W]
 have U:u.objs.size=s.heap.objs.size+3:=by rw[L,Heap.size_push,s2]
 have s4:m.objs.size=s.heap.objs.size+4:=by rw[K,Heap.size_push,U]
 have H:∀c o,s.heap.get? c=some o->x.get? c=some o:=λc o q=>by rw[O];exact af _ q
 have G:∀c o,x.get? c=some o->v.get? c=some o:=λc o q=>by rw[N];exact af _ q
 have B:∀c o,v.get? c=some o->u.get? c=some o:=λc o q=>by rw[L];exact af _ q
 have p:∀c o,u.get? c=some o->m.get? c=some o:=λc o q=>by rw[K];exact af _ q
 have p1:x.get? f=some {cls:=.type n1,data:=.fields #[.ref r,.int 0 0]}:=by rw[e1,O];exact au _ rfl
 have p2:v.get? b=some {cls:=.type n2,data:=.fields #[.ref C,.int 0 0]}:=by rw[e2,N];exact au _ rfl
 have Z:u.get? TI=some {cls:=.type "tuple",data:=.seq #[.ref f,.ref b]}:=by rw[e3,L];exact au _ rfl
 have Y:m.get? TO=some {cls:=.type "tuple",data:=.seq #[.none,.none]}:=by rw[e4,K];exact au _ rfl
 have j:∀c o,m.get? c=some o->(m.push {cls:=.type "zip",data:=.fields #[.none,.bool false,.bool false,.ref TI,.ref TO]}).get? c=some o:=λc o q=>af _ q;have P:IsZip (m.push {cls:=.type "zip",data:=.fields #[.none,.bool false,.bool false,.ref TI,.ref TO]}) z TI TO .none:=by rw[e5];exact au _ rfl
 have sq:∀{l i:Addr} {nm:String} {h:Heap},L9 s.heap l nm->h.get? i=some {cls:=.type nm,data:=.fields #[.ref l,.int 0 0]}->jX h i l 0:=λa e=>by
  rcases a with⟨_,_,rfl⟩|⟨_,_,rfl⟩
  ·exact .inl ⟨_,e,rfl,rfl⟩
  ·exact .inr ⟨_,e,rfl,rfl⟩
 have D:ZipAt z TI TO f b:=by constructor <;> (intro q;have q:(_:Nat)=_:=q;omega)
 refine⟨⟨_,P,rfl⟩,k _ z TI TO f b D (λc hc=>?_) P (j _ _ (p _ _ Z)) (j _ _ Y) (sq T (j _ _ (p _ _ (B _ _ (G _ _ p1))))) (sq S (j _ _ (p _ _ (B _ _ p2)))) λc o q=>j _ _ (p _ _ (B _ _ (G _ _ (H _ _ q))))⟩;simp only[cr,List.not_mem_nil,or_false]at hc;rcases hc with q|q|q|q|q <;> (rw[q];show(_:Nat)<=_;omega)
noncomputable def R7 (a b:Addr):It :=
 ⟨λi H=>∃xs ys x y,fY H a xs/\fY H b ys/\xs[i]?=some x/\ys[i]?=some y,
  λi H z H'=>∃T x y,z = .ref T/\H T=none/\H'=upd H T (.tup [x,y])/\∀xs ys,fY H a xs->fY H b ys->xs[i]?=some x/\ys[i]?=some y,
  λi H=>∃xs ys,fY H a xs/\fY H b ys/\(xs.length<=i∨ys.length<=i)⟩
theorem fY.inj {H:Hp}{a:Addr}{xs ys:List V}(h:fY H a xs)(k:fY H a ys):xs=ys:=by rcases h with h|h <;> rcases k with k|k <;> rw[h]at k <;> cases k <;> rfl
theorem aR.sq {X:Cx}{b:cY}{σ:St}{H:Hp}{s:Shared}{a:Addr}{xs:List V}(I:aR X b σ H s)(h:fY H a xs):∃its:bX,aY xs its/\rG s.heap a its.toArray/\∃nm,L9 s.heap a nm:=by
 rcases h with h|h
 ·obtain⟨its,f,p,_⟩:=I.list (fQ.of h);obtain⟨o,e,c,n,d⟩:=p.isList;exact⟨its,f,⟨o,n,e,d⟩,_,.inl ⟨_,p.isList,rfl⟩⟩
 ·obtain⟨its,f,p,_⟩:=I.tuple (iE.of h);have p':s.heap.IsTuple a its.toArray:=p;obtain⟨o,e,c,n,d⟩:=id p';exact⟨its,f,⟨o,n,e,d⟩,_,.inr ⟨_,p',rfl⟩⟩
theorem fY.some {H:Hp}{a:Addr}{xs:List V}(h:fY H a xs):∃o,H a=some o:=h.elim (λe=>⟨_,e⟩) λe=>⟨_,e⟩
theorem PJ {X:Cx}{d:cY}{σ:St}{H:Hp}{s:Shared}{a b z TI TO g f:Addr}{i:Nat}{xs ys:List V}(I:aR X d σ H s)(F:∀c∈[z,TI,TO,g,f],fV X d H c)(D:ZipAt z TI TO g f)
  (st:IsZip s.heap z TI TO .none/\IsPair s.heap TI (.ref g) (.ref f)/\(∃u v,IsPair s.heap TO u v)/\jX s.heap g a i/\jX s.heap f b i) (j:fY H a xs) (h:fY H b ys) :
  ∃its:bX,aY xs its/\rG s.heap a its.toArray/\(∃its2:bX,aY ys its2/\rG s.heap b its2.toArray)/\∀its2:bX,(aY ys its2/\rG s.heap b its2.toArray)->∃u v,ZS s.heap z TI TO g f a b its.toArray its2.toArray s.heap .none u v i i:=by
 obtain⟨its,B,p,_⟩:=I.sq j;obtain⟨its2,l,E,_⟩:=I.sq h;obtain⟨hz,t,⟨u,v,m⟩,J,G⟩:=st;have off:∀{c:Addr} {w:List V},fY H c w->c∉[z,TO,g,f]:=λ{c w} q A=>by obtain⟨o,e⟩:=q.some;rw[(F c (by simp at A⊢;rcases A with r|r|r|r <;> simp[r])).1]at e;cases e
 exact⟨its,B,p,⟨its2,l,E⟩,λx C=>⟨u,v,{toZipAt:=D,n1:=off j,n2:=off h},hz,t,m,J,G,p,C.2,λ_ _ _ e=>e⟩⟩
theorem GN {P:Program}{w:World}{K:PySem.W.Frag}{S:lR}{tk0}{L:Pos}(a b z TI TO m l:Addr)(D:ZipAt z TI TO m l) :
  n9 P w K (.Tuple S tk0 L) (R7 a b) [z,TI,TO,m,l] z (λi h=>IsZip h z TI TO .none/\IsPair h TI (.ref m) (.ref l)/\(∃u v,IsPair h TO u v)/\jX h m a i/\jX h l b i) where
 mem:=by simp
 obj:=λi h st c hc=>by
  obtain⟨hz,C,⟨u,v,B⟩,h1,F⟩:=st;obtain⟨o1,e1,d1⟩:=h1.obj;obtain⟨o2,e2,d2⟩:=F.obj;simp only[cr,List.not_mem_nil,or_false]at hc;rcases hc with rfl|rfl|rfl|rfl|rfl
  ·exact⟨_,hz,λv z=>by cases z⟩
  ·exact⟨_,C,λv z=>by cases z⟩
  ·exact⟨_,B,λv z=>by cases z⟩
  ·exact⟨_,e1,λv z=>by rw[d1]at z;cases z⟩
  ·exact⟨_,e2,λv z=>by rw[d2]at z;cases z⟩
 keep:=λi h h' st k=>by obtain⟨hz,C,⟨u,v,B⟩,h1,F⟩:=st;exact⟨k z (by simp) _ hz,k TI (by simp) _ C,⟨u,v,k TO (by simp) _ B⟩,h1.at λo e=>k m (by simp) o e,F.at λo e=>k l (by simp) o e⟩
 item:=by
  rintro X hP hw hK hc i j s σ H E I G st ⟨xs,ys,x,y,g,f,hx,hy⟩;subst hP hw hK;obtain⟨its,T,p,p',Z⟩:=PJ I G D st g f;obtain⟨its2,d⟩:=p';obtain⟨u0,v0,Z⟩:=Z its2 d;refine wV (I.ok.hd hc) Z (λu v h' R Q Z' pr size=>?_) λno=>?_
  ·obtain⟨u',A,ru⟩:=T.get hx;obtain⟨v',t,U⟩:=d.1.get hy;rw[show its.toArray[i]?=its[i]? from by simp]at R;rw[show its2.toArray[i]?=its2[i]? from by simp]at Q;rw[A]at R;rw[t]at Q;cases R;cases Q;refine⟨_,rfl,wpAny_letOwnedTupleGo_zip (s:={s with heap:=h'}) Z'.zip λF hz2 N=>?_⟩;have J:=Z'.self N.extBut hz2;have new:z≠s.heap.objs.size:=bn (ba Z.zip);have pr2:IsPair F s.heap.objs.size u v:=N.extBut _ _ new.symm pr;have far:∀c o,c∉[z,TI,TO,m,l]->s.heap.get? c=some o->F.get? c=some o:=λc o hc e=>J.far c o (λq=>hc (by simp at q⊢;rcases q with r|r|r|r <;> simp[r])) e;have I2:aR X j σ (upd H s.heap.objs.size (.tup [x,y])) {s with heap:=F}:=I.turnedLaid (t':=s.toks) (ch:=[z,TI,TO,m,l]) far G (ac _) ⟨by show 2<=sizeLine;decide,[u,v],.cons ru (.cons U .nil),⟨_,pr2,rfl,_,rfl⟩⟩;refine⟨.ref s.heap.objs.size,_,I2,rfl,⟨s.heap.objs.size,x,y,rfl,I.hok.fresh (ac _),rfl,λxs' ys' q1 Y=>?_⟩,⟨J.zip,J.tin,⟨u,v,J.tout⟩,J.one,J.two⟩,λc hc=>?_⟩
   ·rw[q1.inj g,Y.inj f];exact⟨hx,hy⟩
   ·have O:∃o,s.heap.get? c=some o:=by
     simp only[cr,List.not_mem_nil,or_false]at hc;rcases hc with rfl|rfl|rfl|rfl|rfl
     ·exact⟨_,Z.zip⟩
     ·exact⟨_,Z.tin⟩
     ·exact⟨_,Z.tout⟩
     ·obtain⟨o,e,_⟩:=Z.one.obj;exact⟨o,e⟩
     ·obtain⟨o,e,_⟩:=Z.two.obj;exact⟨o,e⟩
    obtain⟨o,e⟩:=O;rw[aC (bn (ba e))];exact(G c hc).1
  ·obtain⟨u',A,_⟩:=T.get hx;obtain⟨v',t,_⟩:=d.1.get hy;rcases no with q|q
   ·rw[show its.toArray[i]?=its[i]? from by simp,A]at q;cases q
   ·rw[show its2.toArray[i]?=its2[i]? from by simp,t]at q;cases q
 done:=by
  rintro X hP hw hK hc i j s σ H E I G st ⟨xs,ys,g,f,hd⟩;subst hP hw hK;obtain⟨its,T,p,p',Z⟩:=PJ I G D st g f;obtain⟨its2,d⟩:=p';obtain⟨u0,v0,Z⟩:=Z its2 d;have e1:=T.length;have e2:=d.1.length;refine wV (I.ok.hd hc) Z (λu v h' R Q _ _ _=>?_) λ_ h' far=>⟨rfl,?_⟩
  ·obtain⟨q1,_⟩:=Array.getElem?_eq_some_iff.mp R;obtain⟨Y,_⟩:=Array.getElem?_eq_some_iff.mp Q;rw[ag]at q1 Y;omega
  ·exact I.turnedL (t':=s.toks) (ch:=[z,TI,TO,m,l]) (λc o hc e=>far c o (λq=>hc (by simp at q⊢;rcases q with r|r|r|r <;> simp[r])) e) G
 self:=λ_ _ _ _ _ st h=>wpAny_pyIter_zip st.1 h
noncomputable def iZip2 (d:TA):TI:=λσ H R=>d σ H λvs c=>∃a b xs ys,vs=[.ref a,.ref b]/\fY c a xs/\fY c b ys/\R (R7 a b) c
theorem NC {X:Cx}{j:lR}{m:_}{d:Pos}{a b:Expr}{o:TA}{p f:Pos}(P:Gl X "zip")(N:X.mg "zip" = none)(Q:PA X [a,b] o)(L:starEach [a,b] X.env=[(false,eval a X.env),(false,eval b X.env)]:=by rfl)(i:starEach [b] X.env=[(false,eval b X.env)]:=by rfl) :
  PI X (.Tuple j m d) (.Call (.Name "zip" p) [a,b] [] f) (iZip2 o):=by
 intro g s σ H R I h;refine Call_ (nY I P N boot_zip (PyProof.Rows.callWith_type1 (thn (Q f g s σ H _ I h) λus r ⟨vs,H1,l,r1,x⟩=>?_) (by rw[L,i]) (by rw[i];rfl)));obtain⟨E,C,xs,ys,e,K,J,q⟩:=x;subst e;obtain⟨u1,u2,rfl,T,S⟩:=vals2 r1;cases T;cases S;obtain⟨its,rv,p1,B,G⟩:=l.sq K;obtain⟨its2,w,p2,A,F⟩:=l.sq J;refine IR G F λh' z TI TO u t D new v Z Y W U O=>?_;refine wpAny_pyIter_zip (s:={r with heap:=h'}) v ?_;exact⟨z,[z,TI,TO,u,t],_,_,H1,rfl,l.kept (t':=r.toks) O,GN E C z TI TO u t D,⟨v,Z,⟨_,_,Y⟩,W,U⟩,λc hc=>l.fpOk (new c hc) (l.hok.fresh (new c hc)),q⟩
theorem rNeD_bb {H:Hp}{Q:VK}{i j:Bool}:rNeD (.bl i) (.bl j) H Q=Q (.bl (!decide (i=j))) H:=by
 have e:eqD (.bl i) (.bl j)=decide (i=j):=by cases i <;> cases j <;> rfl
 refine propext ⟨λ⟨d,c,b,a,_,q⟩=>?_,λq=>⟨.bl i,.bl j,rfl,rfl,av _,by rw[e];exact q⟩⟩;have g:d = .bl i:=bD.inj b (show bD H (.bl i) (.bl i)from rfl);have f:c = .bl j:=bD.inj a (show bD H (.bl j) (.bl j)from rfl);rw[g,f,e]at q;exact q
theorem rEqD_bb {H:Hp}{Q:VK}{i j:Bool}:rEqD (.bl i) (.bl j) H Q=Q (.bl (decide (i=j))) H:=by
 have e:eqD (.bl i) (.bl j)=decide (i=j):=by cases i <;> cases j <;> rfl
 refine propext ⟨λ⟨d,c,b,a,_,q⟩=>?_,λq=>⟨.bl i,.bl j,rfl,rfl,av _,by rw[e];exact q⟩⟩;have g:d = .bl i:=bD.inj b (show bD H (.bl i) (.bl i)from rfl);have f:c = .bl j:=bD.inj a (show bD H (.bl j) (.bl j)from rfl);rw[g,f,e]at q;exact q
end L2
namespace L2
open PySem
theorem S4 {H:Hp}{p:Addr}{i:Int}:ixV H (.ref p) (.int i)=(match H p with
  | some (.lst xs)=>atI xs i
  | some (.tup xs)=>atI xs i
  | some (.frz _ (.lst xs))=>atI xs i
  | _=>none):=rfl
noncomputable def abc:Str:="abcdefghijklmnopqrstuvwxyz"
theorem RY (j:Nat)(h:j<26):abc.cps.toList[j]?=some (97+j):=by
 have:∀j:Fin 26,abc.cps.toList[j.1]?=some (97+j.1):=by decide +kernel
 exact this ⟨j,h⟩
theorem O6:abc.cps.toList.length=26:=by decide +kernel
theorem RS {H:Hp}{i:Int}(b:0<=i)(a:i<26):ixV H (.str abc) (.int i)=some (.str ⟨#[97+i.toNat]⟩):=by show(if abc.length<=sizeLine then(atI abc.cps.toList i).map λc=>V.str ⟨#[c]⟩else none)=_;rw[ai (by decide +kernel),jD b (by rw[O6];exact a),RY _ (by omega)];rfl
noncomputable def wordL:Nat->Int->List Nat
 | 0,_=>[]
 | k+1,n=>(97+(n % 26).toNat)::wordL k (n / 26)
theorem pR:∀k n,(wordL k n).length=k
 | 0,_=>rfl
 | k+1,n=>by simp[wordL,pR k]
noncomputable def wordS (k:Nat)(n:Int):Str:=⟨(wordL k n).toArray⟩
theorem tyL {K:PySem.W.Frag}{H:Hp}{p:Addr}{xs:List V}(h:H p=some (.lst xs)):tyV K "list" (.ref p) H:=.inl ⟨rfl,xs,fQ.of h⟩
def jJ (x:Str):Prop:=1<=x.cps.toList.length/\x.cps.toList.length<=6/\∀c∈x.cps.toList,97<=c/\c<=122
theorem AQ:∀(k:Nat) (n:Int),∀c∈wordL k n,97<=c/\c<=122
 | 0,_,_,h=>by simp[wordL]at h
 | k+1,n,c,h=>by
  rw[wordL]at h;rcases cr.mp h with e|e
  ·have d:=Int.emod_nonneg n (b:=26) (by decide);have a:=Int.emod_lt_of_pos n (b:=26) (by decide);omega
  ·exact AQ k _ c e
theorem JF {k:Nat}{n:Int}(b:1<=k)(a:k<=6):jJ (wordS k n):=by
 have e:(wordS k n).cps.toList=wordL k n:=by simp[wordS]
 refine⟨?_,?_,?_⟩
 ·rw[e,pR];exact b
 ·rw[e,pR];exact a
 ·rw[e];exact AQ k n
theorem GK {k:Nat}{a b:Int}(c:1<=k)(h:wordS k a=wordS k b):a % 26=b % 26:=by
 obtain⟨j,rfl⟩:∃j,k=j+1:=⟨k - 1,by omega⟩
 have e:(wordS (j+1) a).cps.toList=(wordS (j+1) b).cps.toList:=by rw[h]
 simp only[wordS,wordL]at e;injection e with g _;have f:=Int.emod_nonneg a (b:=26) (by decide);have d:=Int.emod_nonneg b (b:=26) (by decide);omega
theorem wT {α:Type}[DecidableEq α]:∀{xs ys:List α},xs.Nodup->(∀x∈xs,x∈ys)->xs.length<=ys.length
 | [],_,_,_=>av _
 | x::xs,ys,nd,h=>by obtain⟨d,c⟩:=cx.mp nd;have b:=h x aw;have q:=wT (ys:=ys.erase x) c λy a=>(List.mem_erase_of_ne (λe=>d (by rw[←e];exact a))).mpr (h y (az _ a));rw[List.length_erase_of_mem b]at q;have:=List.length_pos_of_mem b;simp only[aq];omega
theorem pQ {k:Nat}{n:Int}{c:aQ}{t:Nat}(f:1<=k)(o:t<=26)(h:∀i,i<t->wordS k (n+i)∈c):t<=c.length:=by
 have nd:((List.range t).map λi=>wordS k (n+(i:Nat))).Nodup:=by rw[List.nodup_iff_pairwise_ne,List.pairwise_map];refine List.Pairwise.imp_of_mem ?_ (List.pairwise_lt_range (n:=t));intro a b m j l e;have:=GK f e;have r:=List.mem_range.mp m;have p:=List.mem_range.mp j;omega
 have q:=wT nd (ys:=c) λx d=>by obtain⟨i,g,rfl⟩:=cu.mp d;exact h i (List.mem_range.mp g)
 simpa using q
theorem qD {H:Hp}:∀(a:aQ),Reps H (a.map D.str) (a.map V.str)
 | []=>rfl
 | x::r=>⟨.str x,r.map V.str,rfl,rfl,qD r⟩
theorem dep_strs:∀a:aQ,depDs (a.map D.str)=0
 | []=>rfl
 | x::r=>by rw[bc,depDs,dep_strs r];rfl
theorem uP {x:Str}:∀a:aQ,inD (.str x) (a.map D.str)=decide (x∈a)
 | []=>by simp[inD]
 | y::r=>by
  have b:=uP (x:=x) r;unfold inD at b⊢;rw[bc,List.any_cons,b];have e:eqD (.str y) (.str x)=decide (y=x):=by show(y == x)=_;rw[bS];simp
  rw[e,bS];simp only[Bool.or_eq_true,decide_eq_true_eq,cr];constructor
  ·rintro(h|h)
   ·exact .inl h.symm
   ·exact .inr h
  ·rintro(h|h)
   ·exact .inl h.symm
   ·exact .inr h
noncomputable def del (H:Hp)(p:Addr):Hp:=λb=>if b=p then none else H b
theorem fP {H:Hp}{p b:Addr}{o:HO}(h:H b=some o)(n:b≠p):del H p b=some o:=by unfold del;rw[ab n];exact h
theorem eC {H:Hp}{p b:Addr}{o:HO}(h:del H p b=some o):H b=some o/\b≠p:=by
 unfold del at h;by_cases e:b=p
 ·rw[ai e]at h;cases h
 ·rw[ab e]at h;exact⟨h,e⟩
theorem B7 (H:Hp)(p:Addr):aH (del H p) H:=λb o h=>(eC h).1
end L2
section
local macro_rules | `(tactic| walk_at "rd")=>do
 let xs:Array (Lean.TSyntax [`Lean.Parser.Tactic.simpStar,`Lean.Parser.Tactic.simpErase,`Lean.Parser.Tactic.simpLemma]):=("L2.start List.map_cons List.map_nil List.length_cons List.length_nil Nat.reduceAdd Nat.reduceSub Nat.zero_add List.replicate_succ List.replicate_zero List.cons_append List.nil_append List.set_cons_zero List.set_cons_succ L2.tSeq L2.tIfS L2.tTest L2.tOp L2.tVar L2.tC L2.rI0 L2.tAsg L2.gName L2.gSub L2.rI L2.tRet L2.tNext L2.rSetL L2.rAddF L2.rRep L2.tCB L2.r1 L2.tCons L2.tNil L2.tDrop L2.tAnd L2.tOr L2.tNot L2.tIf L2.tLst L2.tTup L2.tCall L2.tFor_eq L2.tComp_eq L2.tComp2_eq L2.iRng1 L2.iRng2 L2.iAny L2.iSq L2.iZip L2.iZip2 L2.iEnum L2.tRaise L2.tTry L2.rLtL L2.rAll L2.rAny L2.rSum L2.tUn L2.rU L2.gTup L2.gCons L2.gNil L2.tBM L2.tBM0 L2.rAppend L2.rPop L2.rPopAt L2.rExtend L2.tSl L2.tNoPart L2.tPart L2.rSlF L2.rSlU L2.rTupU L2.CStep L2.tYes L2.stC Option.bind_some Option.bind_none Option.join_some L2.tAndV L2.tOrV L2.tNotV L2.tNever not_true_eq_false not_false_eq_true L2.tChain L2.tTruth L2.rIs_eq L2.truV_bl L2.isV_ii L2.isV_ib L2.isV_ll L2.lenV_l L2.lenV_t L2.seqV_l L2.seqV_t L2.ixV_l L2.ixV_t if_true if_false Bool.not_true Bool.not_false Bool.false_eq_true Option.bind_eq_bind Option.pure_def L2.rEqD_ii L2.rNeD_ii L2.rEqD_bb L2.rNeD_bb L2.isV_bb L2.rEqD_ss L2.rNeD_ss Int.zero_add L2.catO_i L2.catO_s L2.addV L2.intV L2.atI_zero L2.atI_one L2.ixN_zero L2.ixN_one L2.upd_same L2.upd_upd Option.map_some Option.map_none List.getElem?_cons_zero List.getElem?_cons_succ Option.some.injEq L2.V.int.injEq L2.V.ref.injEq L2.V.bl.injEq L2.V.str.injEq L2.HO.lst.injEq List.cons.injEq and_true true_and exists_eq_left exists_eq_left' exists_eq_right exists_eq_right' exists_and_left exists_and_right exists_const reduceCtorEq false_and and_false exists_false or_false false_or decide_eq_true_eq ite_eq_left_iff Bool.not_eq_true Bool.not_eq_eq_eq_not decide_eq_false_iff_not decide_true decide_false".splitOn " ").toArray.map λs=>⟨Lean.mkNode `Lean.Parser.Tactic.simpLemma #[Lean.mkNullNode,Lean.mkNullNode,Lean.mkIdent s.toName]⟩
 let xs:=xs.push ⟨Lean.mkNode `Lean.Parser.Tactic.simpStar #[Lean.mkAtom "*"]⟩
 `(tactic| simp only [$xs,*])
namespace Lw
open PySem L2
noncomputable def CK:aQ:=["_law_script","_law_k"]
noncomputable def mR:aQ:=["_law_script","_law_k"]
theorem yV:aT CK mR (aD fK):=⟨rfl,rfl,rfl,by decide +kernel,rfl,by decide +kernel,by decide +kernel⟩
noncomputable def vJ:aQ:=["_law_script","_law_k","_law_cell_here"]
noncomputable def oF:aQ:=["_law_script","_law_k"]
theorem rJ:aT vJ oF (aD gJ):=⟨rfl,rfl,rfl,by decide +kernel,rfl,by decide +kernel,by decide +kernel⟩
noncomputable def rZ:aQ:=["_law_pot_here","_law_many","_law_digit"]
noncomputable def mL:aQ:=["_law_pot_here","_law_many"]
theorem oS:aT rZ mL (aD fG):=⟨rfl,rfl,rfl,by decide +kernel,rfl,by decide +kernel,by decide +kernel⟩
noncomputable def rX:aQ:=["_law_size","_law_number","_law_word_here","_law_k"]
noncomputable def mK:aQ:=["_law_size","_law_number"]
theorem gU:aT rX mK (aD fF):=⟨rfl,rfl,rfl,by decide +kernel,rfl,by decide +kernel,by decide +kernel⟩
noncomputable def pN:aQ:=["_law_pot_here","_law_many","_law_found","_law_k","_law_size","_law_number"]
noncomputable def lK:aQ:=["_law_pot_here","_law_many"]
theorem fA:aT pN lK (aD eT):=⟨rfl,rfl,rfl,by decide +kernel,rfl,by decide +kernel,by decide +kernel⟩
noncomputable def iW:aQ:=["_law_pot_here","_law_many","_law_sums","_law_names_here","_law_sure","_law_fixed","_law_left","_law_told","_law_name","_law_nought"]
noncomputable def lJ:aQ:=["_law_pot_here"]
theorem bY:aT iW lJ (aD dD):=⟨rfl,rfl,rfl,by decide +kernel,rfl,by decide +kernel,by decide +kernel⟩
noncomputable def nO:aQ:=["_law_pot_here","_law_found","_law_k","_law_wish","_law_j"]
noncomputable def j7:aQ:=["_law_pot_here"]
theorem eE:aT nO j7 (aD dZ):=⟨rfl,rfl,rfl,by decide +kernel,rfl,by decide +kernel,by decide +kernel⟩
noncomputable def mU:aQ:=["_law_pot_here","_law_told","_law_own_here","_law_bare","_law_some_here"]
noncomputable def mQ:aQ:=["_law_pot_here","_law_told","_law_own_here"]
theorem kT:aT mU mQ (aD eL):=⟨rfl,rfl,rfl,by decide +kernel,rfl,by decide +kernel,by decide +kernel⟩
noncomputable def iX:aQ:=["_law_told","_law_room","_law_found"]
noncomputable def lL:aQ:=["_law_told","_law_room"]
theorem jU:aT iX lL (aD dE):=⟨rfl,rfl,rfl,by decide +kernel,rfl,by decide +kernel,by decide +kernel⟩
noncomputable def rY:aQ:=["_law_pot_here","_law_told","_law_own_here","_law_room","_law_deep","_law_heads_here","_law_name","_law_parts","_law_left","_law_row","_law_k","_law_more_here"]
noncomputable def gO:aQ:=["_law_pot_here","_law_told","_law_own_here","_law_room","_law_deep"]
theorem dC:aT rY gO (aD dW):=⟨rfl,rfl,rfl,by decide +kernel,rfl,by decide +kernel,by decide +kernel⟩
noncomputable def r9:aQ:=["_law_term_here"]
noncomputable def mM:aQ:=["_law_term_here"]
theorem yU:aT r9 mM (aD fH):=⟨rfl,rfl,rfl,by decide +kernel,rfl,by decide +kernel,by decide +kernel⟩
noncomputable def pO:aQ:=["_law_one","_law_other","_law_here","_law_there"]
noncomputable def fT:aQ:=["_law_one","_law_other"]
theorem nG:aT pO fT (aD dF):=⟨rfl,rfl,rfl,by decide +kernel,rfl,by decide +kernel,by decide +kernel⟩
noncomputable def nQ:aQ:=["_law_name","_law_nought","_law_parts","_law_found","_law_part"]
noncomputable def j8:aQ:=["_law_name","_law_nought","_law_parts"]
theorem gW:aT nQ j8 (aD d5):=⟨rfl,rfl,rfl,by decide +kernel,rfl,by decide +kernel,by decide +kernel⟩
noncomputable def mX:aQ:=["_law_told","_law_term_here","_law_parts","_law_noughts","_law_found","_law_part","_law_at"]
noncomputable def gQ:aQ:=["_law_told","_law_term_here"]
theorem eM:aT mX gQ (aD dJ):=⟨rfl,rfl,rfl,by decide +kernel,rfl,by decide +kernel,by decide +kernel⟩
noncomputable def SZ:aQ:=["_law_script","_law_pot_here","_law_told","_law_signs_here","_law_own_here","_law_k","_law_filling_here"]
noncomputable def PZ:aQ:=["_law_script"]
theorem lV:aT SZ PZ (aD nH):=⟨rfl,rfl,rfl,by decide +kernel,rfl,by decide +kernel,by decide +kernel⟩
noncomputable def rE:aQ:=["thing"]
noncomputable def rB:aQ:=["thing"]
theorem DC:aT rE rB (aD gL):=⟨rfl,rfl,rfl,by decide +kernel,rfl,by decide +kernel,by decide +kernel⟩
noncomputable def vH:aQ:=["signs","thing"]
noncomputable def oC:aQ:=["signs","thing"]
theorem AY:aT vH oC (aD gH):=⟨rfl,rfl,rfl,by decide +kernel,rfl,by decide +kernel,by decide +kernel⟩
noncomputable def lN:aQ:=["signs","thing","todo","at","depth"]
noncomputable def lI:aQ:=["signs","thing"]
theorem iC:aT lN lI (aD dU):=⟨rfl,rfl,rfl,by decide +kernel,rfl,by decide +kernel,by decide +kernel⟩
noncomputable def CG:aQ:=["term","found","todo","at"]
noncomputable def vD:aQ:=["term"]
theorem mZ:aT CG vD (aD i5):=⟨rfl,rfl,rfl,by decide +kernel,rfl,by decide +kernel,by decide +kernel⟩
noncomputable def pM:aQ:=["term"]
noncomputable def lG:aQ:=["term"]
theorem vS:aT pM lG (aD eN):=⟨rfl,rfl,rfl,by decide +kernel,rfl,by decide +kernel,by decide +kernel⟩
noncomputable def mT:aQ:=["term"]
noncomputable def mJ:aQ:=["term"]
theorem yT:aT mT mJ (aD eI):=⟨rfl,rfl,rfl,by decide +kernel,rfl,by decide +kernel,by decide +kernel⟩
noncomputable def CH:aQ:=["name","term"]
noncomputable def vF:aQ:=["name","term"]
theorem GZ:aT CH vF (aD i8):=⟨rfl,rfl,rfl,by decide +kernel,rfl,by decide +kernel,by decide +kernel⟩
noncomputable def vI:aQ:=["name","nought","parts","left","part"]
noncomputable def oE:aQ:=["name","nought","parts"]
theorem lW:aT vI oE (aD gI):=⟨rfl,rfl,rfl,by decide +kernel,rfl,by decide +kernel,by decide +kernel⟩
noncomputable def lQ:aQ:=["signs","name","parts","nought"]
noncomputable def iM:aQ:=["signs","name","parts"]
theorem kF:aT lQ iM (aD cV):=⟨rfl,rfl,rfl,by decide +kernel,rfl,by decide +kernel,by decide +kernel⟩
noncomputable def kA:aQ:=["term","filling","whole","made","at","parts"]
noncomputable def j4:aQ:=["term","filling","whole"]
theorem gR:aT kA j4 (aD dH):=⟨rfl,rfl,rfl,by decide +kernel,rfl,by decide +kernel,by decide +kernel⟩
noncomputable def MB:aQ:=["signs","filling","term"]
noncomputable def vE:aQ:=["signs","filling","term"]
theorem GY:aT MB vE (aD cZ):=⟨rfl,rfl,rfl,by decide +kernel,rfl,by decide +kernel,by decide +kernel⟩
noncomputable def rF:aQ:=["thing"]
noncomputable def rD:aQ:=["thing"]
theorem DE:aT rF rD (aD gM):=⟨rfl,rfl,rfl,by decide +kernel,rfl,by decide +kernel,by decide +kernel⟩
noncomputable def vG:aQ:=["thing"]
noncomputable def oB:aQ:=["thing"]
theorem AX:aT vG oB (aD gG):=⟨rfl,rfl,rfl,by decide +kernel,rfl,by decide +kernel,by decide +kernel⟩
noncomputable def iR:aQ:=["thing","least","most","pair"]
noncomputable def iN:aQ:=["thing","least","most"]
theorem kG:aT iR iN (aD cG):=⟨rfl,rfl,rfl,by decide +kernel,rfl,by decide +kernel,by decide +kernel⟩
noncomputable def iF:aQ:=["pairs","names"]
noncomputable def j6:aQ:=["pairs"]
theorem lY:aT iF j6 (aD cM):=⟨rfl,rfl,rfl,by decide +kernel,rfl,by decide +kernel,by decide +kernel⟩
noncomputable def kB:aQ:=["fixed_rows","name","many"]
noncomputable def j5:aQ:=["fixed_rows"]
theorem lX:aT kB j5 (aD dI):=⟨rfl,rfl,rfl,by decide +kernel,rfl,by decide +kernel,by decide +kernel⟩
noncomputable def iS:aQ:=["sum_rows","bare_names","name","nought","noughts"]
noncomputable def iO:aQ:=["sum_rows","bare_names"]
theorem hZ:aT iS iO (aD cH):=⟨rfl,rfl,rfl,by decide +kernel,rfl,by decide +kernel,by decide +kernel⟩
noncomputable def iB:aQ:=["self","fixed","sums","fixed_rows","sum_rows"]
noncomputable def iA:aQ:=["self","fixed","sums"]
theorem gZ:aT iB iA (aD cA):=⟨rfl,rfl,rfl,by decide +kernel,rfl,by decide +kernel,by decide +kernel⟩
noncomputable def pP:aQ:=["self","name"]
noncomputable def lM:aQ:=["self","name"]
theorem vT:aT pP lM (aD eU):=⟨rfl,rfl,rfl,by decide +kernel,rfl,by decide +kernel,by decide +kernel⟩
noncomputable def mY:aQ:=["self","name"]
noncomputable def jI:aQ:=["self","name"]
theorem sE:aT mY jI (aD dP):=⟨rfl,rfl,rfl,by decide +kernel,rfl,by decide +kernel,by decide +kernel⟩
noncomputable def JC:aQ:=["signs","thing"]
noncomputable def rC:aQ:=["signs","thing"]
theorem DD:aT JC rC (aD h8):=⟨rfl,rfl,rfl,by decide +kernel,rfl,by decide +kernel,by decide +kernel⟩
noncomputable def sJ:aQ:=["signs","thing","wish","term"]
noncomputable def iP:aQ:=["signs","thing"]
theorem kH:aT sJ iP (aD cW):=⟨rfl,rfl,rfl,by decide +kernel,rfl,by decide +kernel,by decide +kernel⟩
noncomputable def mS:aQ:=["filling"]
noncomputable def jE:aQ:=["filling"]
theorem sD:aT mS jE (aD cP):=⟨rfl,rfl,rfl,by decide +kernel,rfl,by decide +kernel,by decide +kernel⟩
noncomputable def nN:aQ:=["signs","filling"]
noncomputable def jZ:aQ:=["signs","filling"]
theorem tQ:aT nN jZ (aD dG):=⟨rfl,rfl,rfl,by decide +kernel,rfl,by decide +kernel,by decide +kernel⟩
noncomputable def MC:aQ:=["signs","filling","some","looked"]
noncomputable def EO:aQ:=["signs","filling","some"]
theorem E8:aT MC EO (aD lZ):=⟨rfl,rfl,rfl,by decide +kernel,rfl,by decide +kernel,by decide +kernel⟩
noncomputable def AK:aQ:=["many","some","found","number","wish"]
noncomputable def lH:aQ:=["many","some"]
theorem fW:aT AK lH (aD eQ):=⟨rfl,rfl,rfl,by decide +kernel,rfl,by decide +kernel,by decide +kernel⟩
noncomputable def vK:aQ:=["_law_pot_here","_law_told","_law_wish","_law_noughts","_law_way","_law_name","_law_nought"]
noncomputable def oG:aQ:=["_law_pot_here","_law_told","_law_wish"]
theorem jP:aT vK oG (aD fI):=⟨rfl,rfl,rfl,by decide +kernel,rfl,by decide +kernel,by decide +kernel⟩
noncomputable def vL:aQ:=["_law_pot_here","_law_told","_law_some_here","_law_found","_law_k","_law_wish"]
noncomputable def jG:aQ:=["_law_pot_here","_law_told","_law_some_here"]
theorem gB:aT vL jG (aD dM):=⟨rfl,rfl,rfl,by decide +kernel,rfl,by decide +kernel,by decide +kernel⟩
noncomputable def CJ:aQ:=["_law_pot_here","_law_some_here"]
noncomputable def mP:aQ:=["_law_pot_here"]
theorem oU:aT CJ mP (aD fJ):=⟨rfl,rfl,rfl,by decide +kernel,rfl,by decide +kernel,by decide +kernel⟩
noncomputable def vY:aQ:=["_law_told","_law_filling_here","_law_found","_law_wish","_law_term_here"]
noncomputable def j9:aQ:=["_law_told","_law_filling_here"]
theorem gY:aT vY j9 (aD d8):=⟨rfl,rfl,rfl,by decide +kernel,rfl,by decide +kernel,by decide +kernel⟩
noncomputable def sA:aQ:=["_law_pot_here","_law_own_here","_law_found"]
noncomputable def mN:aQ:=["_law_pot_here","_law_own_here"]
theorem oT:aT sA mN (aD eJ):=⟨rfl,rfl,rfl,by decide +kernel,rfl,by decide +kernel,by decide +kernel⟩
noncomputable def sB:aQ:=["_law_pot_here","_law_found","_law_k","_law_figures"]
noncomputable def mO:aQ:=["_law_pot_here"]
theorem gX:aT sB mO (aD eK):=⟨rfl,rfl,rfl,by decide +kernel,rfl,by decide +kernel,by decide +kernel⟩
noncomputable def oI:aQ:=["_law_many","_law_beside","_law_some_here"]
noncomputable def oH:aQ:=["_law_many","_law_beside"]
theorem rK:aT oI oH (aD eS):=⟨rfl,rfl,rfl,by decide +kernel,rfl,by decide +kernel,by decide +kernel⟩
noncomputable def vM:aQ:=["_law_many","_law_beside","_law_held","_law_found","_law_due"]
noncomputable def jH:aQ:=["_law_many","_law_beside"]
theorem gC:aT vM jH (aD dN):=⟨rfl,rfl,rfl,by decide +kernel,rfl,by decide +kernel,by decide +kernel⟩
noncomputable def mW:aQ:=["_law_signs_here","_law_told","_law_filling_here","_law_some_here","_law_known","_law_due","_law_held","_law_found"]
noncomputable def jF:aQ:=["_law_signs_here","_law_told","_law_filling_here","_law_some_here"]
theorem eY:aT mW jF (aD cQ):=⟨rfl,rfl,rfl,by decide +kernel,rfl,by decide +kernel,by decide +kernel⟩
structure Txt (mg:fR):Prop where
 n_len:mg "len" = none
 n_range:mg "range" = none
 n_int:mg "int" = none
 n_abs:mg "abs" = none
 n_min:mg "min" = none
 n_max:mg "max" = none
 n_tuple:mg "tuple" = none
 n_list:mg "list" = none
 n_dict:mg "dict" = none
 n_set:mg "set" = none
 n_isinstance:mg "isinstance" = none
 n_str:mg "str" = none
 n_bool:mg "bool" = none
 n_sorted:mg "sorted" = none
 n_reversed:mg "reversed" = none
 n_all:mg "all" = none
 n_any:mg "any" = none
 n_zip:mg "zip" = none
 n_repr:mg "repr" = none
 c_WISH_SIGNS:∃u,mg "WISH_SIGNS" = some u/\aX (.str "abcdefghijklmnopqrstuvwxyz0123456789") u
 c_LETTERS:∃u,mg "LETTERS" = some u/\aX (.str "abcdefghijklmnopqrstuvwxyz") u
 c_LONGEST_WISH:∃u,mg "LONGEST_WISH" = some u/\aX (.int 9) u
 c_DEEPEST:∃u,mg "DEEPEST" = some u/\aX (.int 1000) u
 c_LONGEST_NAME:∃u,mg "LONGEST_NAME" = some u/\aX (.int 6) u
 c_MOST_FIXED:∃u,mg "MOST_FIXED" = some u/\aX (.int 12) u
 c_MOST_SUMS:∃u,mg "MOST_SUMS" = some u/\aX (.int 3) u
 c_MOST_PARTS:∃u,mg "MOST_PARTS" = some u/\aX (.int 3) u
section
variable {P:Program}{w:World}{K:PySem.W.Frag}{mg:fR}{base:Heap}
def C9 (K:PySem.W.Frag):Sp:=λvs H Q _=>∃(a:Addr) (k:Int) (ns:List Int),vs=[.ref a,.int k]/\fQ K H a (ns.map V.int)/\0<=k/\k<=1000/\∀n,Q (.int n) H
theorem OB {f:Addr}{d:FuncData}(F:fZ K "_law_cell" "_law_cell" fK f d)(T:Txt mg):bW P w K mg base bA 1 f d mR (C9 K):=by
 refine F.ok yV (λvs H Q E h=>?_) (λl A outer s H vs Q E g h=>?_)
 ·obtain⟨a,k,ns,rfl,_⟩:=h;rfl
 ·obtain⟨a,k,ns,rfl,b,j,m,q⟩:=h;have e:=g.units
  refine⟨_,(aE (bN (aS (jA e) (pv 1) (aK lD rfl T.n_len rfl (aA (pv 0) aB)) (nomark _)) (aG (aP (bQ LE (pv 0) (pv 1) (λ_ _=>rfl)))) aV)
   (aG (aP aJ))),?_⟩
  refine⟨_,rfl,_,rfl,a,_,rfl,.inl b,.inl (.inl ⟨_,_,rfl,rfl,_,rfl,?_⟩)⟩;refine ite2 (λc=>?_) (λc=>?_)
  ·have c:k<((ns.map V.int).length:Int):=by simpa using c
   have i:k.toNat<ns.length:=by rw[ae]at c;omega
   refine⟨_,rfl,_,rfl,.inl ⟨a,_,k,.int (ns[k.toNat]),rfl,rfl,b,?_,q _⟩⟩;rw[jD j c];simp[i]
  ·exact q 0
def spPot (K:PySem.W.Frag):Sp:=λvs H Q _=>∃(a:Addr) (k:Int) (ns:List Int),vs=[.ref a,.int k]/\fQ K H a (ns.map V.int)/\0<=k/\k<=1000/\∀p x y,H p=none->Q (.ref p) (upd H p (.lst [.int x,.int y]))
theorem Q9 {f:Addr}{d:FuncData}(F:fZ K "_law_pot" "_law_pot" gJ f d)(T:Txt mg)(b:cC P w K mg base bA 1 "_law_cell" (C9 K)):bW P w K mg base bA 2 f d oF (spPot K):=by
 refine F.ok rJ (λvs H Q E h=>?_) (λu A outer s H vs Q E c h=>?_)
 ·obtain⟨a,k,ns,rfl,_⟩:=h;rfl
 ·obtain⟨a,k,ns,rfl,g,l,j,q⟩:=h
  refine⟨_,(aE (aU (i:=2) rJ.nd rfl (Or.inl rfl) (aL b (c.mono (by decide)) pass0 rfl (aA (pv 0) (aA (pv 1) aB))))
   (aG (aP (bR (aA (bP (qG.or qF) (pv 2) (bH q8 rfl T.n_int rfl (aA (dX PP (pv 2) (bP Q2 aJ aJ) (nomark _)) aB))) (aA (bP bJ (bP bJ (bP (qG.or qF) (bP t8 (aK IZ rfl T.n_abs rfl (aA (pv 2) aB)) aJ) aJ) (bP (qG.or qF) aJ (pv 1))) aJ) aB)))))),?_⟩
  refine⟨_,rfl,_,rfl,a,k,ns,rfl,g,l,j,λn=>?_⟩;simp only[vJ];clear F T b c
  walk_at "rd"
  have t:S3 10 18:=⟨by decide,by decide,by decide⟩
  have r:∀i:Int,JE i (if (10:Int) ^ Int.toNat 18<=n then 1 else 0):=λi=>.inr (by split <;> decide);have o:∀i:Int,JE i 3:=λi=>.inr (by decide);have m:∀i:Int,JE 977 i:=λi=>.inl (by decide);exact⟨t,r _,by decide,o _,m _,by decide,λp e=>q p _ _ e⟩
def aZ (H:Hp)(p:Addr):Prop:=∃a b:Int,H p=some (.lst [.int a,.int b])
theorem aZ.but {p l:Addr}{H:Hp}{o:HO}(h:aZ H p)(n:p≠l):aZ (upd H l o) p:=by obtain⟨x,y,e⟩:=h;exact⟨x,y,by rw[aC n];exact e⟩
theorem aZ.ne {p l:Addr}{H:Hp}(h:aZ H p)(n:H l=none):p≠l:=by obtain⟨x,y,e⟩:=h;exact aF e n
def dB:Sp:=λvs H Q _=>∃p n,vs=[.ref p,.int n]/\aZ H p/\0<n/\n<1073741824/\∀d a b,0<=d->d<n->Q (.int d) (upd H p (.lst [.int a,.int b]))
theorem NX {f:Addr}{d:FuncData}(F:fZ K "_law_take" "_law_take" fG f d)(T:Txt mg):bW P w K mg base bA 1 f d mL dB:=by
 refine F.ok oS (λvs H Q E h=>?_) (λj A outer s H vs Q E e h=>?_)
 ·obtain⟨p,n,rfl,_⟩:=h;rfl
 ·obtain⟨p,n,rfl,⟨a,b,l⟩,c,g,k⟩:=h
  refine⟨_,(aE (bN (aS A8 (bQ cU (pv 0) aJ (λ_ _=>rfl)) aJ (nomark _)) (aE (aU (i:=2) oS.nd rfl (Or.inl rfl) (bP t8 (bQ cU (pv 0) aJ (λ_ _=>rfl)) (pv 1)))
   (aE (tV (bP zF (bQ cU (pv 0) aJ (λ_ _=>rfl)) (pv 1)) (J8 (pv 0) aJ AW))
   (aG (aP (pv 2))))) aV)
   (aE (tV (bP t8 (bP bJ (bP (qG.or qF) (bQ cU (pv 0) aJ (λ_ _=>rfl)) aJ) aJ) aJ) (J8 (pv 0) aJ AW))
   (aG (aP (bP t8 (bP zF (bQ cU (pv 0) aJ (λ_ _=>rfl)) aJ) (pv 1)))))),?_⟩
  simp only[rZ];clear e F T
  walk_at "rd"
  split
  ·exact⟨⟨c,g⟩,k _ _ _ (Int.emod_nonneg _ (by omega)) (Int.emod_lt_of_pos _ c)⟩
  ·exact⟨.inr (by decide),by decide,⟨by decide,by decide⟩,k _ _ _ (Int.emod_nonneg _ (by omega)) (Int.emod_lt_of_pos _ c)⟩
def CZ:Sp:=λvs H Q _=>∃(k:Nat) (n:Int),vs=[.int k,.int n]/\k<=6/\Q (.str (wordS k n)) H
theorem NU {f:Addr}{c:FuncData}(F:fZ K "_law_word" "_law_word" fF f c)(T:Txt mg):bW P w K mg base bA 1 f c mK CZ:=by
 refine F.ok gU (λvs H Q E h=>?_) (λj A outer s H vs Q E e h=>?_)
 ·obtain⟨k,n,rfl,_⟩:=h;rfl
 ·obtain⟨k,n,rfl,p,q⟩:=h
  refine⟨_,(aE (aU (i:=2) gU.nd rfl (Or.inl rfl) dR)
   (aE (eV df rfl (dS rfl T.n_range (aA (pv 0) aB)) (bO (i:=3) gU.nd rfl (Or.inl rfl)) (aE (aU (i:=2) gU.nd rfl (Or.inl rfl) (bP bJ (pv 2) (bQ cU dR (bP t8 (pv 1) aJ) (λ_ _=>rfl))))
   (aG (aU (i:=1) gU.nd rfl (Or.inl rfl) (bP zF (pv 1) aJ)))))
   (aG (aP (pv 2))))),?_⟩
  simp only[rX];clear e F T
  walk_at "rd"
  refine⟨by omega,by omega,?_⟩;rw[ck];refine fM (λi σ H'=>H'=H/\∃(m:Int) (l:List Nat) (o:Option V),σ=[some (.int k),some (.int m),some (.str ⟨l.toArray⟩),o]/\l.length=i/\l++wordL (k - i) m=wordL k n) ⟨rfl,n,[],none,rfl,rfl,rfl⟩ ?_ ?_
  ·rintro i σ H' r ⟨rfl,m,l,o,rfl,b,a⟩;have d:=RS (H:=H') (i:=m % 26) (Int.emod_nonneg _ (by decide)) (Int.emod_lt_of_pos _ (by decide));have hx':ixV H' (.str (PySem.Str.ofString "abcdefghijklmnopqrstuvwxyz")) (.int (m % 26))=some (.str ⟨#[97+(m % 26).toNat]⟩):=d
   walk_at "rd"
   have g:k - i=(k - (i+1))+1:=by omega
   rw[g,wordL]at a;refine⟨by decide,_,ai (ao (m:=100) ?_ (by decide)),⟨by decide,by decide⟩,_,l++[97+(m % 26).toNat],⟨rfl,congrArg V.str ?_⟩,by simp[b],by rw[cj];exact a⟩
   ·show l.toArray.size+1<=100;rw[ag];omega
   ·exact congrArg Str.mk (by simp)
  ·rintro σ H' ⟨rfl,m,l,o,rfl,b,a⟩
   walk_at "rd"
   rw[Nat.sub_self,wordL,bj]at a;rw[a];exact q
def yM:Sp:=λvs H Q _=>∃(p:Addr) (m:Nat),vs=[.ref p,.int m]/\aZ H p/\m<=15/\∀(l:Addr) (ws:aQ) (H':Hp),H l=none->H' l=some (.lst (ws.map V.str))->bC p H H'->aZ H' p->ws.length=m->ws.Nodup->(∀x∈ws,jJ x)->Q (.ref l) H'
def TJ (p l:Addr)(m:Nat)(H:Hp)(i:Nat)(σ:St)(b:Hp):Prop:=∃(a:aQ) (o1 o2 o3:Option V),σ=[some (.ref p),some (.int m),some (.ref l),o1,o2,o3]/\b l=some (.lst (a.map V.str))/\bC p H b/\aZ b p/\a.length=i/\a.Nodup/\∀x∈a,jJ x
theorem KQ {f:Addr}{fd:FuncData}(F:fZ K "_law_names" "_law_names" eT f fd)(T:Txt mg)(u:cC P w K mg base bA 1 "_law_take" dB)(g:cC P w K mg base bA 1 "_law_word" CZ):bW P w K mg base bA 2 f fd lK yM:=by
 refine F.ok fA (λvs H Q E h=>?_) (λcdv A outer s H vs Q E G h=>?_)
 ·obtain⟨p,m,rfl,_⟩:=h;rfl
 ·obtain⟨p,m,rfl,hp,hm,q⟩:=h;have hu:=G.units
  refine⟨_,(aE (aU (i:=2) fA.nd rfl (Or.inl rfl) (bR aB))
   (aE (eV df rfl (dS rfl T.n_range (aA (pv 1) aB)) (bO (i:=3) fA.nd rfl (Or.inl rfl)) (aE (aU (i:=4) fA.nd rfl (Or.inl rfl) (bP bJ aJ (aL u (G.mono (by decide)) pass0 rfl (aA (pv 0) (aA aJ aB)))))
   (aE (aU (i:=5) fA.nd rfl (Or.inl rfl) (aL u (G.mono (by decide)) pass0 rfl (aA (pv 0) (aA (bQ cU (bR (aA aJ (aA aJ (aA aJ (aA aJ (aA aJ (aA aJ aB))))))) (bP qE (pv 4) aJ) (λ_ _=>rfl)) aB))))
   (aE (mE df (aS (DO hu) (aL g (G.mono (by decide)) pass0 rfl (aA (pv 4) (aA (pv 5) aB))) (pv 2) (by with_unfolding_all rfl)) (aG (aU (i:=5) fA.nd rfl (Or.inl rfl) (bP bJ (pv 5) aJ))))
   (aG (cN (iT db de dc eF (pv 2) (aA (aL g (G.mono (by decide)) pass0 rfl (aA (pv 4) (aA (pv 5) aB))) aB))))))))
   (aG (aP (pv 2))))),?_⟩
  simp only[pN];clear G F T u g hu
  walk_at "rd"
  refine⟨by decide,λl hl=>⟨by omega,by omega,?_⟩⟩;rw[ck];have C:p≠l:=by obtain⟨a,b,e⟩:=hp;exact aF e hl
  refine fM (TJ p l m H)
   ⟨[],none,none,none,rfl,upd_same,bC.new hl,by obtain⟨a,b,e⟩:=hp;exact⟨a,b,by rw[aC C];exact e⟩,rfl,List.nodup_nil,by simp⟩ ?_ ?_
  ·rintro i σ U hi ⟨z,o1,o2,o3,rfl,J,O,L,I,nd,ok⟩;clear q
   walk_at "rd"
   refine⟨p,6,rfl,L,by decide,by decide,λd a b h0 h1=>?_⟩;obtain⟨v,hkk⟩:∃v:Nat,(v:Int)=1+d:=⟨(1+d).toNat,by omega⟩
   clear L
   walk_at "rd"
   rw[←hkk];refine⟨by decide,λr G=>?_⟩;have W:p≠r:=aF upd_same G;have X:l≠r:=aF (by rw[aC C.symm];exact J) G;obtain⟨B,hB,hB0,hB1⟩:∃B:Int,atI [V.int 26,V.int 676,V.int 17576,V.int 456976,V.int 11881376,V.int 308915776] ((v:Int) - 1)=some (.int B)/\0<B/\B<1073741824:=by
    have:v=1∨v=2∨v=3∨v=4∨v=5∨v=6:=by omega
    rcases this with rfl|rfl|rfl|rfl|rfl|rfl
    ·exact⟨26,by decide,by decide,by decide⟩
    ·exact⟨676,by decide,by decide,by decide⟩
    ·exact⟨17576,by decide,by decide,by decide⟩
    ·exact⟨456976,by decide,by decide,by decide⟩
    ·exact⟨11881376,by decide,by decide,by decide⟩
    ·exact⟨308915776,by decide,by decide,by decide⟩
   refine⟨_,hB,p,B,rfl,⟨a,b,by rw[aC W,upd_same]⟩,hB0,hB1,λn a2 b2 hn0 hn1=>?_⟩;have N:upd (upd (upd U p (.lst [.int a,.int b])) r (.lst [.int 26,.int 676,.int 17576,.int 456976,.int 11881376,.int 308915776])) p (.lst [.int a2,.int b2]) l=some (.lst (z.map V.str)):=by rw[aC C.symm,aC X,aC C.symm];exact J
   have hb4:bC p H (upd (upd (upd U p (.lst [.int a,.int b])) r (.lst [.int 26,.int 676,.int 17576,.int 456976,.int 11881376,.int 308915776])) p (.lst [.int a2,.int b2])) :=
    O.trans (((bC.upd p U _).trans (bC.new G)).trans (bC.upd p _ _))
   have Z:aZ (upd (upd (upd U p (.lst [.int a,.int b])) r (.lst [.int 26,.int 676,.int 17576,.int 456976,.int 11881376,.int 308915776])) p (.lst [.int a2,.int b2])) p:=⟨a2,b2,upd_same⟩
   generalize upd (upd (upd U p (.lst [.int a,.int b])) r (.lst [.int 26,.int 676,.int 17576,.int 456976,.int 11881376,.int 308915776])) p (.lst [.int a2,.int b2])=H4 at N hb4 Z⊢;clear G W X hB hB0 hB1 J O;refine JH (λσ' H'=>H'=H4/\∃t:Nat,σ'=[some (.ref p),some (.int m),some (.ref l),some (.int (0+i)),some (.int v),some (.int (n+t))]/\∀j:Nat,j<t->wordS v (n+j)∈z)
    (λ(σ':St) (_:Hp)=>match σ'[5]? with|some (some (V.int x))=>(n+30 - x).toNat|_=>0) ⟨rfl,0,by simp,by simp⟩ ?_
   rintro σ' H' ⟨rfl,t,rfl,ht⟩;have ht26:t<=26->t<=z.length:=λh=>pQ (by omega) h ht;have hty:=tyL (K:=K) N;refine⟨decide (wordS v (n+t)∈z),λR hR=>?_,λO=>?_,λO=>?_⟩
   ·have hin:=uP (x:=wordS v (n+t)) z;refine⟨_,rfl,_,rfl,v,n+t,rfl,by omega,_,rfl,.inl ⟨.str _,z.map D.str,rfl,.inl ⟨l,_,rfl,N,qD z⟩,by rw[dep_strs];decide,_,rfl,?_⟩⟩;show R (inD _ _) _;rw[hin];exact hR
   ·have hmem:wordS v (n+t)∈z:=bp O;have S:∀j:Nat,j<t+1->wordS v (n+j)∈z:=λj hj=>by
     by_cases e:j<t
     ·exact ht j e
     ·have:j=t:=by omega
      subst this;exact hmem
    have few:t<26->t+1<=z.length:=λh=>pQ (by omega) (by omega) S;refine⟨_,rfl,.inl ⟨_,rfl,⟨rfl,t+1,?_,S⟩,?_⟩⟩
    ·simp only[List.set_cons_zero,List.set_cons_succ];have:n+(t:Int)+1=n+((t+1:Nat):Int):=by omega
     rw[this]
    ·have Y:t<26:=by
      by_cases e:t<26
      ·exact e
      ·have:=pQ (t:=16) (n:=n) (by omega:1<=v) (by omega) λj hj=>ht j (by omega);omega
     have:=few Y;show(n+30 - (n+(t:Int)+1)).toNat<(n+30 - (n+(t:Int))).toNat;omega
   ·have hnm:wordS v (n+t)∉z:=of_decide_eq_false O;refine⟨_,rfl,hty,_,rfl,_,rfl,v,n+t,rfl,by omega,l,_,_,rfl,rfl,N,aj (m:=100) (by rw[ae];omega) (by decide),?_⟩;refine⟨z++[wordS v (n+t)],_,_,_,rfl,?_,λc o hc e=>?_,?_,by simp[I],FJ nd hnm,λx hx=>?_⟩
    ·rw[upd_same,ay];rfl
    ·have nlc:c≠l:=aF e hl;rw[aC nlc];exact hb4 c o hc e
    ·obtain⟨a3,b3,e3⟩:=Z;exact⟨a3,b3,by rw[aC C];exact e3⟩
    ·obtain h|h:=cs.mp hx
     ·exact ok x h
     ·rw[cp.mp h];exact JF (by omega) (by omega)
  ·rintro σ U ⟨z,o1,o2,o3,rfl,J,O,L,I,nd,ok⟩;exact⟨_,rfl,q l z U hl J O L I nd ok⟩
end
section
variable {P:Program}{w:World}{K:PySem.W.Frag}{mg:fR}{base:Heap}
def bG (H H':Hp):Prop:=∀b xs,H b=some (.tup xs)->H' b=some (.tup xs)
theorem bG.refl (H:Hp):bG H H:=λ_ _ h=>h
theorem bG.trans {H e d:Hp}(a:bG H e)(b:bG e d):bG H d:=λc xs h=>b c xs (a c xs h)
theorem bG.of {H H':Hp}(s:aH H H'):bG H H':=λb xs h=>s b _ h
theorem bG.lst {H:Hp}{a:Addr}{ys:List V}{o:HO}(h:H a=some (.lst ys)):bG H (upd H a o):=λb xs e=>by rw[aC (λz=>by rw[z,h]at e;cases e)];exact e
theorem u8 {p a:Addr}{H H':Hp}{o:HO}(h:bC p H H')(n:H a=none):bC p H (upd H' a o):=λc u nc e=>by rw[aC (aF e n)];exact h c u nc e
theorem bG.pot {H:Hp}{p:Addr}{o:HO}(h:aZ H p):bG H (upd H p o):=by obtain⟨x,y,e⟩:=h;exact bG.lst e
noncomputable def eA (H:Hp):cT->List V->Prop
 | [],vs=>vs=[]
 | r::l,vs=>∃t us,vs = .ref t::us/\H t=some (.tup [.str r.1,.int r.2])/\eA H l us
noncomputable def eG (H:Hp):bU->List V->Prop
 | [],vs=>vs=[]
 | r::l,vs=>∃t us,vs = .ref t::us/\H t=some (.tup [.str r.1,.str r.2])/\eG H l us
theorem eA.same {H H':Hp}(s:bG H H'):∀{l:cT} {vs:List V},eA H l vs->eA H' l vs
 | [],_,h=>h
 | _::_,_,⟨t,us,e,h,q⟩=>⟨t,us,e,s _ _ h,eA.same s q⟩
theorem eG.same {H H':Hp}(s:bG H H'):∀{l:bU} {vs:List V},eG H l vs->eG H' l vs
 | [],_,h=>h
 | _::_,_,⟨t,us,e,h,q⟩=>⟨t,us,e,s _ _ h,eG.same s q⟩
theorem eA.snoc {H:Hp}{n:Str}{k:Int}{t:Addr}(a:H t=some (.tup [.str n,.int k])):∀{l:cT} {vs:List V},eA H l vs->eA H (l++[(n,k)]) (vs++[.ref t])
 | [],_,h=>by cases h;exact⟨t,[],rfl,a,rfl⟩
 | _::_,_,⟨u,us,e,h,q⟩=>by subst e;exact⟨u,us++[.ref t],rfl,h,eA.snoc a q⟩
theorem eG.snoc {H:Hp}{n k:Str}{t:Addr}(a:H t=some (.tup [.str n,.str k])):∀{l:bU} {vs:List V},eG H l vs->eG H (l++[(n,k)]) (vs++[.ref t])
 | [],_,h=>by cases h;exact⟨t,[],rfl,a,rfl⟩
 | _::_,_,⟨u,us,e,h,q⟩=>by subst e;exact⟨u,us++[.ref t],rfl,h,eG.snoc a q⟩
theorem eA.len {H:Hp}:∀{l:cT} {vs:List V},eA H l vs->vs.length=l.length
 | [],_,h=>by cases h;rfl
 | _::_,_,⟨t,us,e,h,q⟩=>by subst e;simp[eA.len q]
theorem eA.get {H:Hp}:∀{l:cT} {vs:List V} {i:Nat} {v:V},eA H l vs->vs[i]?=some v->∃r t,l[i]?=some r/\v = .ref t/\H t=some (.tup [.str r.1,.int r.2])
 | [],_,_,_,h,e=>by cases h;simp at e
 | r::_,_,0,_,⟨t,us,e,h,q⟩,k=>by subst e;simp at k;exact⟨r,t,rfl,k.symm,h⟩
 | _::_,_,i+1,_,⟨t,us,e,h,q⟩,k=>by subst e;simp at k;obtain⟨r,t,c,b,a⟩:=eA.get q k;exact⟨r,t,by simpa using c,b,a⟩
noncomputable def zeros (a:cT):aQ:=(a.filter λr=>decide (r.2=0)).map (·.1)
structure cD (fx:cT)(sm:bU):Prop where
 f1:1<=fx.length
 f2:fx.length<=12
 s2:sm.length<=3
 nm:∀x∈fx.map (·.1)++sm.map (·.1),jJ x
 nd:(fx.map (·.1)++sm.map (·.1)).Nodup
 parts:∀r∈fx,0<=r.2/\r.2<=3
 bare:∃r∈fx,r.2=0
 nought:∀r∈sm,r.2≠("" : Str)->r.2∈zeros fx
 once:((sm.map (·.2)).filter λ(x:Str)=>decide (x≠("" : Str))).Nodup
theorem i4 (a:cT)(r:Str×Int):zeros (a++[r])=zeros a++(if r.2=0 then [r.1]else []):=by unfold zeros;rw[List.filter_append,ay];congr 1;by_cases z:r.2=0 <;> simp[z]
theorem iZ (a:cT):(zeros a).Sublist (a.map (·.1)):=List.Sublist.map _ List.filter_sublist
theorem aW {α:Type}{xs:List α}{i:Nat}{x:α}(h:xs[i]?=some x):xs.take (i+1)=xs.take i++[x]:=by rw[List.take_succ,h];rfl
theorem uW (xs:List V)(n:Nat):cutV xs (some (n:Int)) none=xs.drop n:=by
 unfold cutV;rw[HT.sIx_nat,HT.sIx_none,←bu];rcases Nat.le_total n xs.length with h|h
 ·rw[Nat.min_eq_left h,br]
 ·rw[Nat.min_eq_right h,List.drop_eq_nil_of_le h,List.drop_eq_nil_of_le (ac _)];rfl
theorem wY {α β:Type}(f:α->β):∀(l:List α) (k:Nat),(l.map f).eraseIdx k=(l.eraseIdx k).map f
 | [],_=>rfl
 | _::_,0=>rfl
 | a::l,k+1=>by show f a::(l.map f).eraseIdx k=f a::(l.eraseIdx k).map f;rw[wY f l k]
theorem wX {α:Type}{l:List α}{k:Nat}{x:α}(h:x∈l.eraseIdx k):x∈l:=List.eraseIdx_subset h
theorem nI {α:Type}:∀{l:List α} {k:Nat} {x:α},l.Nodup->l[k]?=some x->x∉l.eraseIdx k
 | [],_,_,_,z=>by simp at z
 | a::l,0,x,n,h=>by simp at h;subst h;exact(cx.mp n).1
 | a::l,k+1,x,n,h=>by
  simp at h;intro m;obtain e|e:=cr.mp m
  ·subst e;exact(cx.mp n).1 (bh h)
  ·exact nI (cx.mp n).2 h e
structure NS (fx:cT)(ns:aQ)(sm:bU)(lz:aQ):Prop where
 names:sm.map (·.1)=ns
 lzl:lz.length<=(zeros fx).length
 lzn:lz.Nodup
 lz1:∀x∈lz,x∈zeros fx
 no:∀r∈sm,r.2≠("" : Str)->r.2∈zeros fx/\r.2∉lz
 once:((sm.map (·.2)).filter λ(x:Str)=>decide (x≠("" : Str))).Nodup
theorem NS.none {b:cT}{ns:aQ}{sm:bU}{a:aQ}(h:NS b ns sm a)(n:Str):NS b (ns++[n]) (sm++[(n,("" : Str))]) a:=by
 refine⟨by rw[ay,h.names];rfl,h.lzl,h.lzn,h.lz1,λr c ne=>?_,?_⟩
 ·obtain m|m:=cs.mp c
  ·exact h.no r m ne
  ·rw[cp.mp m]at ne;exact absurd rfl ne
 ·rw[ay,List.filter_append];have e:(List.filter (λ(x:Str)=>decide (x≠("" : Str))) (List.map (λr:Str×Str=>r.2) [(n,("" : Str))]))=[]:=by simp
  rw[e,bj];exact h.once
theorem NS.pop {i:cT}{ns:aQ}{sm:bU}{c:aQ}(h:NS i ns sm c)(n:Str){k:Nat}{y:Str}(g:c[k]?=some y):NS i (ns++[n]) (sm++[(n,y)]) (c.eraseIdx k):=by
 have f:=bh g;refine⟨by rw[ay,h.names];rfl,ao (List.eraseIdx_sublist _ _).length_le h.lzl,h.lzn.sublist (List.eraseIdx_sublist _ _),λx s=>h.lz1 x (wX s),λr d ne=>?_,?_⟩
 ·obtain m|m:=cs.mp d
  ·exact⟨(h.no r m ne).1,λz=>(h.no r m ne).2 (wX z)⟩
  ·rw[cp.mp m];exact⟨h.lz1 y f,nI h.lzn g⟩
 ·rw[ay,List.filter_append];refine List.nodup_append.mpr ⟨h.once,?_,?_⟩
  ·by_cases z:y=("" : Str) <;> simp[z]
  ·intro a u b t e;subst e;obtain⟨q,p⟩:=cy.mp u;obtain⟨r,d,j⟩:=cu.mp q;have l:a=y:=by
    obtain⟨o,_⟩:=cy.mp t
    simpa using o
   have ne:r.2≠("" : Str):=by rw[j];simpa using p
   exact(h.no r d ne).2 (by rw[j,l];exact f)
structure S2 (p fl lf tl sl:Addr)(H:Hp):Prop where
 fp:fl≠p
 lp:lf≠p
 tp:tl≠p
 sp:sl≠p
 lf1:lf≠fl
 ls:lf≠sl
 lt:lf≠tl
 tf:tl≠fl
 ts:tl≠sl
 nl:H lf=none
 nt:H tl=none
structure HS (p fl lf tl sl:Addr)(H:Hp)(fx:cT)(acc zl:List V)(lv:List V)(sm:bU)(sv:List V)(H':Hp):Prop where
 b:bC p H H'
 pot:aZ H' p
 f:H' fl=some (.lst acc)
 r:eA H' fx acc
 l:H' lf=some (.lst lv)
 t:H' tl=some (.lst sv)
 s:eG H' sm sv
 z:H' sl=some (.lst zl)
section
variable {p fl lf tl sl:Addr}{H H':Hp}{fx:cT}{acc zl lv sv:List V}{sm:bU}
theorem HS.new (h:HS p fl lf tl sl H fx acc zl lv sm sv H'){q:Addr}{o:HO}(a:H' q=none):HS p fl lf tl sl H fx acc zl lv sm sv (upd H' q o) :=
 ⟨h.b.trans (bC.new a),h.pot.but (h.pot.ne a),by rw[aC (aF h.f a)];exact h.f,h.r.same (bG.of (aH.upd a)),by rw[aC (aF h.l a)];exact h.l,by rw[aC (aF h.t a)];exact h.t,h.s.same (bG.of (aH.upd a)),by rw[aC (aF h.z a)];exact h.z⟩
theorem HS.take (h:HS p fl lf tl sl H fx acc zl lv sm sv H')(d:S2 p fl lf tl sl H)(x y:Int):HS p fl lf tl sl H fx acc zl lv sm sv (upd H' p (.lst [.int x,.int y])) :=
 ⟨h.b.trans (bC.upd _ _ _),⟨_,_,upd_same⟩,by rw[aC d.fp];exact h.f,h.r.same (bG.pot h.pot),by rw[aC d.lp];exact h.l,by rw[aC d.tp];exact h.t,h.s.same (bG.pot h.pot),by rw[aC d.sp];exact h.z⟩
theorem HS.left (h:HS p fl lf tl sl H fx acc zl lv sm sv H')(d:S2 p fl lf tl sl H)(a:List V):HS p fl lf tl sl H fx acc zl a sm sv (upd H' lf (.lst a)) :=
 ⟨u8 h.b d.nl,h.pot.but d.lp.symm,by rw[aC d.lf1.symm];exact h.f,h.r.same (bG.lst h.l),upd_same,by rw[aC d.lt.symm];exact h.t,h.s.same (bG.lst h.l),by rw[aC d.ls.symm];exact h.z⟩
theorem HS.told (h:HS p fl lf tl sl H fx acc zl lv sm sv H')(d:S2 p fl lf tl sl H){c:bU}{a:List V}(e:eG H' c a):HS p fl lf tl sl H fx acc zl lv c a (upd H' tl (.lst a)) :=
 ⟨u8 h.b d.nt,h.pot.but d.tp.symm,by rw[aC d.tf.symm];exact h.f,h.r.same (bG.lst h.t),by rw[aC d.lt];exact h.l,upd_same,e.same (bG.lst h.t),by rw[aC d.ts.symm];exact h.z⟩
end
def LI (b:cT)(d:Hp)(i:Nat)(a:List V)(σ:St)(c:Hp):Prop:=∃o1 o2:Option V,σ=[o1,o2]/\c=d/\a=(zeros (b.take i)).map V.str
noncomputable def SI (p g e tl m l:Addr)(a c b:Nat)(j:aQ)(f:cT)(d h:List V)(H:Hp)(i:Nat)(σ:St)(H':Hp):Prop :=
 ∃(q o:Option V) (sm:bU) (lz:aQ) (sv:List V),σ=[some (.ref p),some (.int a),some (.int c),some (.ref l),some (.int b),some (.ref g),some (.ref e),some (.ref tl),q,o]/\HS p g e tl m H f d h (lz.map V.str) sm sv H'/\NS f ((j.drop a).take i) sm lz/\sv.length=i
theorem A0 (H:Hp):∀a:aQ,Reps H (a.map D.str) (a.map V.str)
 | []=>rfl
 | _::l=>⟨_,_,rfl,rfl,A0 H l⟩
theorem xN:∀a:aQ,depDs (a.map D.str)=0
 | []=>rfl
 | _::l=>by rw[bc,depDs,xN l];rfl
theorem pU {p i f tl e:Addr}{H H':Hp}{l:cT}{a j lv c:List V}{sm:bU}{K0:PySem.W.Frag}{D:iJ}{σ:St}{n y:Str}(d:S2 p i f tl e H)(u:σ[7]?=some (some (.ref tl)))(r:σ[8]?=some (some (.str n)))(q:σ[9]?=some (some (.str y)))
  (h:HS p i f tl e H l a j lv sm c H') (o:c.length<20) (m:∀t b,HS p i f tl e H l a j lv (sm++[(n,y)]) (c++[.ref t]) b->D.nx σ b):tDrop (tBM K0 "list" rAppend (tVar 7) (tCons (tTup (tCons (tVar 8) (tCons (tVar 9) tNil))) tNil)) D σ H':=by
 refine⟨_,u,.inl ⟨rfl,_,fQ.of h.t⟩,_,r,_,q,(by show 2<=sizeLine;decide),λt g=>⟨tl,c,.ref t,rfl,rfl,(h.new g).t,bd o (by decide),?_⟩⟩;exact m t _ ((h.new g).told d ((h.new g).s.snoc upd_same))
noncomputable def FI (p l:Addr)(e:aQ)(a:Nat)(f:Hp)(i:Nat)(c:List V)(σ:St)(d:Hp):Prop :=
 ∃(b:cT) (o:Option V),σ=[o,some (.ref p),some (.ref l),some (.int a)]/\bC p f d/\aZ d p/\b.map (·.1)=e.take i/\(∀r∈b,0<=r.2/\r.2<=3)/\(a<i->∃r∈b,r.2=0)/\eA d b c
def yI:Sp:=λvs H Q _=>∃p:Addr,vs=[.ref p]/\aZ H p/\∀(t a b:Addr) (fx:cT) (sm:bU) (fv sv:List V) (H':Hp),bC p H H'->aZ H' p->H' t=some (.tup [.ref a,.ref b])->H' a=some (.lst fv)->H' b=some (.lst sv)->eA H' fx fv->eG H' sm sv->cD fx sm->a≠p->b≠p->Q (.ref t) H'
theorem KM {f:Addr}{fd:FuncData}(F:fZ K "_law_signs" "_law_signs" dD f fd)(T:Txt mg)(c:cC P w K mg base bA 1 "_law_take" dB)(u:cC P w K mg base bA 2 "_law_names" yM):bW P w K mg base bA 3 f fd lJ yI:=by
 refine F.ok bY (λvs H Q E h=>?_) (λcdv A outer s H vs Q E U h=>?_)
 ·obtain⟨p,rfl,_⟩:=h;rfl
 ·obtain⟨p,rfl,hp,q⟩:=h;have hu:=U.units
  refine⟨_,(aE (aU (i:=1) bY.nd rfl (Or.inl rfl) (bP bJ aJ (aL c (U.mono (by decide)) pass0 rfl (aA (pv 0) (aA aJ aB)))))
   (aE (aU (i:=2) bY.nd rfl (Or.inl rfl) (aL c (U.mono (by decide)) pass0 rfl (aA (pv 0) (aA aJ aB))))
   (aE (aU (i:=3) bY.nd rfl (Or.inr rfl) (aL u (U.mono (by decide)) pass0 rfl (aA (pv 0) (aA (bP bJ (pv 1) (pv 2)) aB))))
   (aE (aU (i:=4) bY.nd rfl (Or.inr rfl) (aL c (U.mono (by decide)) pass0 rfl (aA (pv 0) (aA (pv 1) aB))))
   (aE (gE (i:=5) bY.nd rfl rfl rfl rfl (bF.by (N:=iW) (names:=(aD dD).names) (N':=["_law_k","_law_pot_here","_law_names_here","_law_sure"]) (src:=[none,some 0,some 3,some 4]) (by decide +kernel) rfl rfl) (dS rfl T.n_range (aA (pv 1) aB)) (λ_ _ _ _=>(bO (i:=0) (show List.Nodup (["_law_k","_law_pot_here","_law_names_here","_law_sure"]:aQ)by decide +kernel) rfl (Or.inl rfl))) (λ_ _ _ _=>eB) (λ_ _ _ _=>(fL (aA (bQ cU (pv 2) (pv 0) (λ_ _=>rfl)) (aA (bP (qG.or qF) (aL c (U.mono (by decide)) pass0 rfl (aA (pv 1) (aA aJ aB))) (bH q8 rfl T.n_int rfl (aA (dX (fC hu) (pv 0) (pv 3) (nomark _)) aB))) aB)))))
   (aE (gE (i:=6) bY.nd rfl rfl rfl rfl (bF.by (N:=iW) (names:=(aD dD).names) (N':=["_law_name","_law_parts"]) (src:=[none,none]) (by decide +kernel) rfl rfl) (dQ K rfl (pv 5)) (λ_ _ _ _=>(cJ K rfl (i:=0) (j:=1) rfl (show List.Nodup (["_law_name","_law_parts"]:aQ)by decide +kernel) rfl rfl rfl rfl)) (λ_ _ _ _=>(iD (aS (d9 hu) (pv 1) aJ (nomark _)))) (λ_ _ _ _=>(pv 0)))
   (aE (aU (i:=7) bY.nd rfl (Or.inl rfl) (bR aB))
   (aE (eV df rfl (dQ K rfl (fX kR (pv 3) (fE (pv 1)) gF)) (bO (i:=8) bY.nd rfl (Or.inl rfl)) (aE (aU (i:=9) bY.nd rfl (Or.inl rfl) dR)
   (aE (bN (PW.pt (tU (aS (fC hu) (pv 6) (bR aB) (nomark _)) (oW (aS A8 (aL c (U.mono (by decide)) pass0 rfl (aA (pv 0) (aA aJ aB))) aJ (nomark _))))) (aG (aU (i:=9) bY.nd rfl (Or.inl rfl) (iT db PySem.F.slot_list_pop PySem.F.type_list_pop K5 (pv 6) (aA (aL c (U.mono (by decide)) pass0 rfl (aA (pv 0) (aA (aK bM rfl T.n_len rfl (aA (pv 6) aB)) aB))) aB)))) aV)
   (aG (cN (iT db de dc eF (pv 7) (aA (fL (aA (pv 8) (aA (pv 9) aB))) aB)))))))
   (aG (aP (fL (aA (pv 5) (aA (pv 7) aB))))))))))))),?_⟩
  simp only[iW];clear U F T c u hu;have hq:=q;clear q
  walk_at "rd"
  refine⟨p,12,rfl,hp,by decide,by decide,λd a b h0 h1=>?_⟩
  walk_at "rd"
  obtain⟨g,hm1,hm2,hmd⟩:∃g:Nat,1<=g/\g<=12/\1+d=(g:Int):=⟨(1+d).toNat,by omega,by omega,by omega⟩
  rw[hmd];clear hmd h0 h1 d;refine⟨p,4,rfl,⟨_,_,upd_same⟩,by decide,by decide,λd2 a b h2 h3=>?_⟩;obtain⟨sums,rfl⟩:∃k:Nat,d2=(k:Int):=⟨d2.toNat,by omega⟩
  have hs4:sums<4:=by omega
  clear h2 h3;rw[upd_upd];have em:(g:Int)+(sums:Int)=((g+sums:Nat):Int):=by omega
  dsimp only;refine⟨_,rfl,?_⟩;rw[em];refine⟨p,g+sums,rfl,⟨_,_,upd_same⟩,by omega,λl I H1 hl hl1 hb1 hp1 hlen nd ok=>?_⟩;have hlp:l≠p:=λz=>by rw[z,upd_same]at hl;cases hl
  dsimp only;refine⟨p,g,rfl,hp1,by omega,by omega,λd3 x3 y3 h4 h5=>?_⟩;obtain⟨sure,rfl⟩:∃k:Nat,d3=(k:Int):=⟨d3.toNat,by omega⟩
  have hsm:sure<g:=by omega
  have b2:bC p H (upd H1 p (.lst [.int x3,.int y3])):=((bC.upd p H _).trans hb1).trans (bC.upd p H1 _);have p2:aZ (upd H1 p (.lst [.int x3,.int y3])) p:=⟨_,_,upd_same⟩
  have l2:upd H1 p (.lst [.int x3,.int y3]) l=some (.lst (I.map V.str)):=by rw[aC hlp];exact hl1
  generalize upd H1 p (.lst [.int x3,.int y3])=H2 at b2 p2 l2⊢;clear hl hl1 hb1 hp1 h4 h5 em hp;refine⟨by omega,by omega,?_⟩;rw[ck];refine jT (FI p l I sure H2) ⟨[],none,rfl,bC.refl _ _,p2,rfl,by simp,λz=>absurd z (Nat.not_lt_zero _),rfl⟩ ?_ ?_
  ·rintro i v σ H3 hi ⟨B,o,rfl,b3,p3,R,hpt,hsu,O⟩;have l3:=b3 l _ hlp l2;obtain⟨wd,hwd⟩:∃wd,I[i]?=some wd:=⟨I[i],ax (by omega)⟩
   have e1:atI (I.map V.str) (i:Int)=some (.str wd):=GF (by rw[bw,hwd];rfl);refine⟨_,rfl,_,rfl,_,(by rw[ixV_l l3,Int.zero_add];exact e1),_,rfl,p,4,rfl,p3,by decide,by decide,λd x4 y4 d0 d1=>?_⟩;have ek:(if (!eqD (.int (0+(i:Int))) (.int (sure:Int)))=true then(1:Int)else 0)=if i=sure then 0 else 1:=by
    by_cases z:i=sure
    ·subst z;rw[Int.zero_add,fN,ai rfl];rfl
    ·have e:eqD (.int (0+(i:Int))) (.int (sure:Int))=false:=by show((0+(i:Int)) == (sure:Int))=false;rw[Int.zero_add];exact cw.mpr (by omega)
     rw[e,ab z];rfl
   refine⟨_,rfl,_,rfl,.int _,.int _,rfl,rfl,av _,_,_,rfl,rfl,.inl ⟨d,rfl,_,rfl,.inr (by rw[ek];split <;> constructor <;> omega),?_⟩⟩;rw[ek];refine⟨(by show 2<=sizeLine;decide),λt ht=>⟨aj (m:=20) ?_ (by decide),?_⟩⟩
   ·rw[O.len];have:=congrArg List.length R;rw[ae,bq]at this;omega
   have p4:aZ (upd H3 p (.lst [.int x4,.int y4])) p:=⟨_,_,upd_same⟩
   have hv:0<=d * (if i=sure then 0 else 1)/\d * (if i=sure then 0 else 1)<=3:=by split <;> constructor <;> omega
   have G:eA (upd (upd H3 p (.lst [.int x4,.int y4])) t (.tup [.str wd,.int (d * (if i=sure then 0 else 1))])) B v:=(O.same (bG.pot p3)).same (bG.of (aH.upd ht));refine⟨B++[(wd,d * (if i=sure then 0 else 1))],_,rfl,(b3.trans (bC.upd p _ _)).trans (bC.new ht),p4.but (p4.ne ht),?_,λr U=>?_,λhlt=>?_,G.snoc upd_same⟩
   ·rw[ay,R,List.take_succ,hwd];rfl
   ·obtain h|h:=cs.mp U
    ·exact hpt r h
    ·rw[cp.mp h];exact hv
   ·by_cases z:i=sure
    ·exact⟨_,bv _ aw,by show d * (if i=sure then 0 else 1)=0;rw[ai z];omega⟩
    ·obtain⟨r,h1,h2⟩:=hsu (by omega);exact⟨r,cb _ h1,h2⟩
  ·rintro v σ H3 ⟨B,o,rfl,b3,p3,R,hpt,hsu,O⟩ Z X;have l3:=b3 l _ hlp l2;have f4:upd H3 Z (.lst v) Z=some (.lst v):=upd_same;have b4:bC p H (upd H3 Z (.lst v)):=(b2.trans b3).trans (bC.new X);have p4:=p3.but (o:=.lst v) (p3.ne X);have l4:upd H3 Z (.lst v) l=some (.lst (I.map V.str)):=by rw[aC (aF l3 X)];exact l3
   have G:eA (upd H3 Z (.lst v)) B v:=O.same (bG.of (aH.upd X));have nfp:Z≠p:=(p3.ne X).symm;generalize upd H3 Z (.lst v)=H4 at f4 b4 p4 l4 G⊢;obtain⟨r0,hr0,hz0⟩:=hsu hsm;clear O X l3 p3 b3 b2 p2 l2 hsu;refine⟨Z,rfl,_,.inl f4,λJ hJ=>?_⟩;have hfn:(B.map (·.1)).Nodup:=by rw[R];exact nd.sublist (List.take_sublist _ _)
   have hzl:(zeros B).length<=12:=by have h1:=(iZ B).length_le;rw[R,bq]at h1;omega
   refine dA hJ (LI B H4) ⟨none,none,rfl,rfl,rfl⟩ (by rintro i acc' σ H' _ ⟨_,_,_,rfl,_⟩;rfl) ?_ ?_
   ·rintro i x acc' σ H' hx ⟨o1,o2,rfl,rfl,rfl⟩;obtain⟨r,t,U,rfl,ht⟩:=G.get hx;refine⟨t,_,rfl,iE.of ht,rfl,_,_,rfl,_,_,rfl,rfl,_,rfl,?_⟩;dsimp only[tC];rw[rEqD_ii];refine⟨_,rfl,?_⟩;by_cases z:r.2=0
    ·rw[ai (by simpa using z)];refine⟨_,rfl,?_,?_⟩
     ·rw[ae];have h1:=(iZ (B.take i)).length_le;have h2:(B.take i).length<=12:=by have h3:=congrArg List.length R;rw[ae,bq]at h3;rw[bq];omega
      rw[ae]at h1;exact aj (m:=12) (by omega) (by decide)
     ·exact⟨_,_,rfl,rfl,by rw[aW U,i4,ai z,ay];rfl⟩
    ·rw[ab (by simpa using z)];exact⟨_,_,rfl,rfl,by rw[aW U,i4,ab z,bj]⟩
   ·rintro acc' σ H' ⟨o1,o2,rfl,rfl,rfl⟩ lf L;rw[List.take_of_length_le (by rw[G.len];exact ac _)];refine⟨av _,λtl C=>⟨l,rfl,I.map V.str,.inl ?_,?_,λsl o W ho=>?_⟩⟩
    ·rw[aC,aC (aF l4 L)]
     ·exact l4
     ·intro e;subst e;rw[aC (aF l4 L),l4]at C;cases C
    ·rintro⟨ys,hy⟩;rw[aC,aC (aF l4 L),l4]at hy
     ·cases hy
     ·intro e;subst e;rw[aC (aF l4 L),l4]at C;cases C
    ·have l5:upd H' lf (HO.lst (List.map V.str (zeros B))) l=some (.lst (I.map V.str)):=by rw[aC (aF l4 L)];exact l4
     have l6:upd (upd H' lf (HO.lst (List.map V.str (zeros B)))) tl (.lst []) l=some (.lst (I.map V.str)):=by rw[aC (aF l5 C)];exact l5
     have eo:o = .lst ((I.drop g).map V.str):=by
      rcases ho with⟨e,_⟩|⟨_,e⟩
      ·rw[e,uW,List.map_drop]
      ·rw[l6]at e;cases e
     subst eo;clear ho;have htf:tl≠lf:=λe=>by subst e;rw[upd_same]at C;cases C
     have htl':H' tl=none:=by rw[aC htf]at C;exact C
     have hst:sl≠tl:=λe=>by subst e;rw[upd_same]at W;cases W
     have hsf:sl≠lf:=λe=>by subst e;rw[aC hst,upd_same]at W;cases W
     have hsl':H' sl=none:=by rw[aC hst,aC hsf]at W;exact W
     have nn:∀a,H' a=none->H a=none:=λa ha=>by
      cases e:H a with
      | none=>rfl
      | some o=>have z:=b4 a o (p4.ne ha).symm e;rw[ha]at z;cases z
     have S:S2 p Z lf tl sl H:=⟨nfp,(p4.ne L).symm,(p4.ne htl').symm,(p4.ne hsl').symm,(aF f4 L).symm,hsf.symm,htf.symm,(aF f4 htl').symm,hst.symm,nn _ L,nn _ htl'⟩
     have h0:HS p Z lf tl sl H B v ((I.drop g).map V.str) ((zeros B).map V.str) [] [] (upd (upd (upd H' lf (.lst ((zeros B).map V.str))) tl (.lst [])) sl (.lst ((I.drop g).map V.str))):=by have s1:aH H' (upd (upd (upd H' lf (.lst ((zeros B).map V.str))) tl (.lst [])) sl (.lst ((I.drop g).map V.str))):=((aH.upd L).trans (aH.upd C)).trans (aH.upd W);obtain⟨px,py,pe⟩:=p4;exact⟨b4.trans s1.but,⟨px,py,s1 _ _ pe⟩,s1 _ _ f4,G.same (bG.of s1),by rw[aC hsf.symm,aC htf.symm,upd_same],by rw[aC hst.symm,upd_same],rfl,upd_same⟩
     have n0:NS B [] [] (zeros B):=⟨rfl,ac _,hfn.sublist (iZ B),λ_ h=>h,by simp,by simp⟩
     generalize upd (upd (upd H' lf (.lst ((zeros B).map V.str))) tl (.lst [])) sl (.lst ((I.drop g).map V.str))=H7 at h0⊢;refine⟨_,.inl h0.z,λJ2 hJ2=>?_⟩;refine lA hJ2 (SI p Z lf tl sl l g sums sure I B v ((I.drop g).map V.str) H) ⟨none,none,[],zeros B,[],rfl,h0,n0,rfl⟩ (by rintro i σ H'' _ ⟨_,_,_,_,_,_,hh,_⟩;rw[hh.z,h0.z]) ?_ ?_
     ·rintro i x σ H8 hx ⟨o8,o9,sm,lz,sv,rfl,hh,ns,hsv⟩;obtain⟨n,hn,rfl⟩:∃n,(I.drop g)[i]?=some n/\x = .str n:=by
       rw[bw]at hx;cases e:(I.drop g)[i]? with
       | none=>rw[e]at hx;cases hx
       | some n=>rw[e]at hx;exact⟨n,rfl,by cases hx;rfl⟩
      have hi:i<4:=by have:=(cm.mp hn).1;rw[bu]at this;omega
      refine⟨_,rfl,av _,λq hq2=>⟨.lst (lz.map D.str),.lst [],⟨lf,_,rfl,(hh.new hq2).l,A0 _ _⟩,⟨q,[],rfl,upd_same,rfl⟩,by rw[depD,xN];decide,_,rfl,?_⟩⟩;have h9:=hh.new (o:=.lst []) hq2;generalize upd H8 q (.lst [])=H9 at h9⊢;cases lz with
      | nil =>
       dsimp only;rw[ab (by decide),ab (by decide)];refine pU S rfl rfl rfl h9 (by omega) λt H'' h''=>?_;exact⟨_,_,_,_,_,rfl,h'',by rw[aW hn];exact ns.none n,by rw[ar,hsv];rfl⟩
      | cons z lz =>
       dsimp only;rw[ai (by rfl)];refine⟨_,rfl,p,3,rfl,h9.pot,by decide,by decide,λd1 x1 y1 d0 d1'=>⟨_,_,rfl,rfl,_,rfl,?_⟩⟩;have Y:=h9.take S x1 y1;generalize upd H9 p (.lst [.int x1,.int y1])=H10 at Y⊢;dsimp only;by_cases hd:0<d1
       ·rw[ai (by simpa using hd)];have hlz:(z::lz).length<=12:=by have h1:=ns.lzl;omega
        refine⟨_,rfl,.inl ⟨rfl,_,fQ.of Y.l⟩,_,rfl,_,rfl,_,_,rfl,(by dsimp only;rw[lenV_l Y.l];rfl),p,_,rfl,Y.pot,?_,?_,λd2 x2 y2 e0 e1=>?_⟩
        ·rw[ae,aq];omega
        ·rw[ae];omega
        ·have h11:=Y.take S x2 y2;generalize upd H10 p (.lst [.int x2,.int y2])=H11 at h11⊢;rw[ae]at e1;obtain⟨y,hy⟩:∃y,(z::lz)[d2.toNat]?=some y:=⟨_,ax (by omega)⟩
         refine⟨lf,_,d2,d2.toNat,.str y,rfl,rfl,h11.l,by omega,by omega,PySem.StrLaws.seqIndex_nonneg e0 (by rw[ae];exact e1),by rw[bw,hy];rfl,?_⟩;have h12:=h11.left S (((z::lz).eraseIdx d2.toNat).map V.str);rw[wY];refine pU S rfl rfl rfl h12 (by omega) λt H'' h''=>?_;exact⟨_,_,_,_,_,rfl,h'',by rw[aW hn];exact ns.pop n hy,by rw[ar,hsv];rfl⟩
       ·rw[ab (by simpa using hd)];refine pU S rfl rfl rfl Y (by omega) λt H'' h''=>?_;exact⟨_,_,_,_,_,rfl,h'',by rw[aW hn];exact ns.none n,by rw[ar,hsv];rfl⟩
     ·rintro σ H8 ⟨o8,o9,sm,lz,sv,rfl,hh,ns,hsv⟩;refine⟨_,rfl,_,rfl,(by show 2<=sizeLine;decide),λt ht=>?_⟩;have h9:=hh.new (o:=.tup [.ref Z,.ref tl]) ht;refine hq t Z tl B sm v sv _ h9.b h9.pot upd_same h9.f h9.t h9.r h9.s ?_ S.fp S.tp;have e1:=ns.names;rw[ae,br]at e1;have e2:=congrArg List.length e1;have e3:=congrArg List.length R;rw[ae,bu]at e2;rw[ae,bq]at e3;have e4:B.map (·.1)++sm.map (·.1)=I:=by rw[R,e1,List.take_append_drop]
      exact⟨by omega,by omega,by omega,by rw[e4];exact ok,by rw[e4];exact nd,hpt,⟨r0,hr0,hz0⟩,λr U ne=>(ns.no r U ne).1,ns.once⟩
end
section
variable {P:Program}{w:World}{K:PySem.W.Frag}{mg:fR}{base:Heap}
def isWd (c:Nat):Prop:=(97<=c/\c<=122)∨(48<=c/\c<=57)
def cK (x:Str):Prop:=∃l:List Nat,x=⟨(63::l).toArray⟩/\1<=l.length/\l.length<=8/\∀c∈l,isWd c
noncomputable def wds:Str:=PySem.Str.ofString "abcdefghijklmnopqrstuvwxyz0123456789"
theorem EV:wds.cps.toList.length=36:=by decide +kernel
theorem MQ:wds.cps.toList.all (λc=>(decide (97<=c) && decide (c<=122)) || (decide (48<=c) && decide (c<=57)))=true:=by decide +kernel
theorem QA {c:Nat}(h:c∈wds.cps.toList):isWd c:=by
 have:=List.all_eq_true.mp MQ c h
 simpa [isWd] using this
theorem RO {H:Hp}{i:Int}(d:0<=i)(b:i<36):∃c,isWd c/\ixV H (.str wds) (.int i)=some (.str ⟨#[c]⟩):=by
 have a:i.toNat<wds.cps.toList.length:=by rw[EV];omega
 refine⟨wds.cps.toList[i.toNat],QA (List.getElem_mem a),?_⟩;show(if wds.length<=sizeLine then(atI wds.cps.toList i).map λc=>V.str ⟨#[c]⟩else none)=_;rw[ai (by decide +kernel),jD d (by rw[EV];exact b),ax a];rfl
def yP:Sp:=λvs H Q _=>∃p:Addr,vs=[.ref p]/\aZ H p/\∀(o:Addr) (os:aQ) (H':Hp),o≠p->bC p H H'->aZ H' p->H' o=some (.lst (os.map V.str))->os.length=5->(∀x∈os,cK x)->Q (.ref o) H'
def DI (p l:Addr)(H:Hp)(i:Nat)(σ:St)(a:Hp):Prop:=∃(os:aQ) (o2 o3 o4:Option V),σ=[some (.ref p),some (.ref l),o2,o3,o4]/\a l=some (.lst (os.map V.str))/\bC p H a/\aZ a p/\os.length=i/\∀x∈os,cK x
def DJ (p l:Addr)(os:aQ)(i:Int)(H:Hp)(j:Nat)(σ:St)(b:Hp):Prop:=∃(a:List Nat) (o4:Option V),σ=[some (.ref p),some (.ref l),some (.int i),some (.str ⟨(63::a).toArray⟩),o4]/\b l=some (.lst (os.map V.str))/\bC p H b/\aZ b p/\a.length=j/\∀c∈a,isWd c
theorem KW {f:Addr}{fd:FuncData}(F:fZ K "_law_wishes" "_law_wishes" dZ f fd)(T:Txt mg)(g:cC P w K mg base bA 1 "_law_take" dB):bW P w K mg base bA 2 f fd j7 yP:=by
 refine F.ok eE (λvs H Q E h=>?_) (λcdv A outer s H vs Q E G h=>?_)
 ·obtain⟨p,rfl,_⟩:=h;rfl
 ·obtain⟨p,rfl,hp,q⟩:=h;have hu:=G.units
  refine⟨_,(aE (aU (i:=1) eE.nd rfl (Or.inl rfl) (bR aB))
   (aE (eV df rfl (dS rfl T.n_range (aA aJ aB)) (bO (i:=2) eE.nd rfl (Or.inl rfl)) (aE (aU (i:=3) eE.nd rfl (Or.inl rfl) dR)
   (aE (eV df rfl (dS rfl T.n_range (aA (bP bJ aJ (aL g (G.mono (by decide)) pass0 rfl (aA (pv 0) (aA (bQ cU (bR (aA aJ (aA aJ (aA aJ aB)))) (aL g (G.mono (by decide)) pass0 rfl (aA (pv 0) (aA aJ aB))) (λ_ _=>rfl)) aB)))) aB)) (bO (i:=4) eE.nd rfl (Or.inl rfl)) (aG (aU (i:=3) eE.nd rfl (Or.inl rfl) (bP bJ (pv 3) (bQ cU dR (aL g (G.mono (by decide)) pass0 rfl (aA (pv 0) (aA aJ aB))) (λ_ _=>rfl))))))
   (aG (cN (iT db de dc eF (pv 1) (aA (pv 3) aB)))))))
   (aG (aP (pv 1))))),?_⟩
  simp only[nO];clear G F T g hu
  walk_at "rd"
  refine⟨by decide,λl O=>⟨by decide,by decide,?_⟩⟩;have C:p≠l:=hp.ne O;refine fM (DI p l H) ⟨[],none,none,none,rfl,upd_same,bC.new O,hp.but C,rfl,by simp⟩ ?_ ?_
  ·rintro i σ U hi ⟨os,o2,o3,o4,rfl,v,R,t,o,ok⟩;clear q hp;have keep:=aI O (aI v (aI R (aI t (aI o ok))));clear O v R t o ok
   walk_at "rd"
   obtain⟨O,v,R,t,o,ok⟩:=keep;refine⟨by decide,λr G=>⟨p,3,rfl,t.but (t.ne G),by decide,by decide,λd a b h0 h1=>?_⟩⟩;have npr:p≠r:=t.ne G;have nlr:l≠r:=aF v G;obtain⟨B,hB,hB0,hB1⟩:∃B:Int,atI [V.int 1,V.int 2,V.int 8] d=some (.int B)/\0<B/\B<=8:=by
    have:d=0∨d=1∨d=2:=by omega
    rcases this with rfl|rfl|rfl
    ·exact⟨1,by decide,by decide,by decide⟩
    ·exact⟨2,by decide,by decide,by decide⟩
    ·exact⟨8,by decide,by decide,by decide⟩
   dsimp only;refine⟨.int B,by rw[ixV_l (xs:=[.int 1,.int 2,.int 8]) (by rw[aC npr.symm,upd_same])];exact hB,p,B,rfl,⟨a,b,upd_same⟩,hB0,by omega,λn a2 b2 n0 n1=>⟨.int (1+n),rfl,1+n,rfl,by omega,by omega,?_⟩⟩;have hb2:bC p H (upd (upd (upd U r (.lst [.int 1,.int 2,.int 8])) p (.lst [.int a,.int b])) p (.lst [.int a2,.int b2])):=((R.trans (bC.new G)).trans (bC.upd _ _ _)).trans (bC.upd _ _ _);have X:aZ (upd (upd (upd U r (.lst [.int 1,.int 2,.int 8])) p (.lst [.int a,.int b])) p (.lst [.int a2,.int b2])) p:=⟨_,_,upd_same⟩
   have Y:upd (upd (upd U r (.lst [.int 1,.int 2,.int 8])) p (.lst [.int a,.int b])) p (.lst [.int a2,.int b2]) l=some (.lst (os.map V.str)):=by rw[aC C.symm,aC C.symm,aC nlr];exact v
   generalize upd (upd (upd U r (.lst [.int 1,.int 2,.int 8])) p (.lst [.int a,.int b])) p (.lst [.int a2,.int b2])=H2 at hb2 X Y⊢;refine fM (DJ p l os i H) ⟨[],o4,rfl,Y,hb2,X,rfl,by simp⟩ ?_ ?_
   ·rintro j σ H3 hj ⟨S,o4',rfl,I,N,J,Z,L⟩;refine⟨_,rfl,_,rfl,p,36,rfl,J,by decide,by decide,λd3 a3 b3 e0 e1=>?_⟩;obtain⟨c,hc,W⟩:=RO (H:=upd H3 p (.lst [.int a3,.int b3])) e0 e1;refine⟨_,W,?_⟩;refine .inl ⟨.str ⟨(63::(S++[c])).toArray⟩,?_,?_⟩
    ·show(if (63::S).toArray.size+1<=sizeLine then some (V.str _)else none)=_;rw[ai (ao (m:=100) (by simp;omega) (by decide))];exact congrArg some (congrArg V.str (congrArg Str.mk (by simp)))
    ·exact⟨S++[c],_,rfl,by rw[aC C.symm];exact I,N.trans (bC.upd _ _ _),⟨_,_,upd_same⟩,by rw[ar,Z];rfl,λx W=>(cs.mp W).elim (L x) λh=>by rw[cp.mp h];exact hc⟩
   ·rintro σ H3 ⟨S,o4',rfl,I,N,J,Z,L⟩;refine⟨_,rfl,tyL I,_,rfl,l,_,_,rfl,rfl,I,aj (m:=10) (by rw[ae];omega) (by decide),?_⟩;refine⟨os++[⟨(63::S).toArray⟩],_,_,_,rfl,by rw[upd_same,ay];rfl,?_,J.but C,by rw[ar,o];rfl,λx W=>(cs.mp W).elim (ok x) λh=>by rw[cp.mp h];exact⟨S,rfl,by omega,by omega,L⟩⟩;intro c u hc e;rw[aC (λz=>?_)]
    ·exact N c u hc e
    ·subst z;rw[O]at e;cases e
  ·rintro σ U ⟨os,o2,o3,o4,rfl,v,R,t,o,ok⟩;exact⟨_,rfl,q l os U C.symm R t v o ok⟩
end
section
variable {P:Program}{w:World}{K:PySem.W.Frag}{mg:fR}{base:Heap}
def I9 (p t:Addr)(c:cT)(sm:bU)(H:Hp):Prop:=∃(a b:Addr) (fv sv:List V),H t=some (.tup [.ref a,.ref b])/\H a=some (.lst fv)/\H b=some (.lst sv)/\eA H c fv/\eG H sm sv/\a≠p/\b≠p
theorem bG.ofBut {p:Addr}{H H':Hp}(h:bC p H H')(a:aZ H p):bG H H':=λb xs e=>h b _ (λz=>by obtain⟨x,y,q⟩:=a;rw[z,q]at e;cases e) e
theorem I9.but {p t:Addr}{g:cT}{sm:bU}{H H':Hp}(h:I9 p t g sm H)(c:bC p H H')(d:aZ H p):I9 p t g sm H':=by obtain⟨a,b,r,i,q,o,m,l,j,f,e⟩:=h;exact⟨a,b,r,i,bG.ofBut c d _ _ q,c _ _ f o,c _ _ e m,l.same (bG.ofBut c d),j.same (bG.ofBut c d),f,e⟩
def JB (p o:Addr)(os:aQ)(H:Hp):Prop:=H o=some (.lst (os.map V.str))/\o≠p
theorem JB.but {p o:Addr}{os:aQ}{H H':Hp}(h:JB p o os H)(a:bC p H H'):JB p o os H':=⟨a _ _ h.2 h.1,h.2⟩
def pY:Sp:=λvs H Q _=>∃(p t o:Addr) (fx:cT) (sm:bU) (os:aQ),vs=[.ref p,.ref t,.ref o]/\aZ H p/\I9 p t fx sm H/\JB p o os H/\1<=os.length/\os.length<=12/\fx.length<=12/\(∃r∈fx,r.2=0) /\
 ∀(x:Str) (H':Hp),bC p H H'->aZ H' p->(x∈os∨x∈zeros fx)->Q (.str x) H'
theorem CQ {K0:PySem.W.Frag}{J:It}{a:Addr}{f:cT}{j:List V}{d:Hp}{Qk:VK}(p:PH K0 a j J d)(b:eA d f j)(q:f.length<=12)(hd:∀e,d e=none->Qk (.ref e) (upd d e (.lst ((zeros f).map V.str)))) :
  nR J (gTup K0 2 (gCons (gName 0) (gCons (gName 1) gNil))) (tTest (tOp rEqD (tVar 1) (tC (.int 0)))) (tVar 0) Qk [none,none] d:=by
 refine dA p (LI f d) ⟨none,none,rfl,rfl,rfl⟩ (by rintro i c σ H' _ ⟨_,_,_,rfl,_⟩;rfl) ?_ ?_
 ·rintro i x c σ H' l ⟨o1,o2,rfl,rfl,rfl⟩;obtain⟨r,t,h,rfl,o⟩:=b.get l;refine⟨t,_,rfl,iE.of o,rfl,_,_,rfl,_,_,rfl,rfl,_,rfl,?_⟩;dsimp only[tC];rw[rEqD_ii];refine⟨_,rfl,?_⟩;by_cases z:r.2=0
  ·rw[ai (by simpa using z)];refine⟨_,rfl,?_,?_⟩
   ·rw[ae];have s:=(iZ (f.take i)).length_le;rw[ae,bq]at s;exact aj (m:=12) (by omega) (by decide)
   ·exact⟨_,_,rfl,rfl,by rw[aW h,i4,ai z,ay];rfl⟩
  ·rw[ab (by simpa using z)];exact⟨_,_,rfl,rfl,by rw[aW h,i4,ab z,bj]⟩
 ·rintro c σ H' ⟨o1,o2,rfl,rfl,rfl⟩ e g;rw[List.take_of_length_le (by rw[b.len];exact ac _)];exact hd e g
theorem N5 {f:Addr}{fd:FuncData}(F:fZ K "_law_leaf" "_law_leaf" eL f fd)(T:Txt mg)(c:cC P w K mg base bA 1 "_law_take" dB):bW P w K mg base bA 2 f fd mQ pY:=by
 refine F.ok kT (λvs H Q E h=>?_) (λcdv A outer s H vs Q E u h=>?_)
 ·obtain⟨p,t,o,m,sm,os,rfl,_⟩:=h;rfl
 ·obtain⟨p,t,o,m,sm,os,rfl,C,ht,ho,L,Y,I,hz,q⟩:=h;have hu:=u.units
  refine⟨_,(aE (gE (i:=3) kT.nd rfl rfl rfl rfl (bF.by (N:=mU) (names:=(aD eL).names) (N':=["_law_name","_law_parts"]) (src:=[none,none]) (by decide +kernel) rfl rfl) (dQ K rfl (bQ cU (pv 1) aJ (λ_ _=>rfl))) (λ_ _ _ _=>(cJ K rfl (i:=0) (j:=1) rfl (show List.Nodup (["_law_name","_law_parts"]:aQ)by decide +kernel) rfl rfl rfl rfl)) (λ_ _ _ _=>(iD (aS (d9 hu) (pv 1) aJ (nomark _)))) (λ_ _ _ _=>(pv 0)))
   (aE (aU (i:=4) kT.nd rfl (Or.inl rfl) (bQ cU (bR (aA (pv 2) (aA (pv 3) aB))) (aL c (u.mono (by decide)) pass0 rfl (aA (pv 0) (aA aJ aB))) (λ_ _=>rfl)))
   (aG (aP (bQ cU (pv 4) (aL c (u.mono (by decide)) pass0 rfl (aA (pv 0) (aA (aK bM rfl T.n_len rfl (aA (pv 4) aB)) aB))) (λ_ _=>rfl)))))),?_⟩
  simp only[mU];clear u F T c hu;obtain⟨a,b,fv,sv,t1,t2,t3,t4,t5,t6,t7⟩:=ht;have keep:=aI q (aI C (aI ho (aI L (aI Y (aI I hz)))));clear q C ho L Y I hz
  walk_at "rd"
  obtain⟨q,C,ho,L,Y,I,hz⟩:=keep;refine⟨.ref a,by rw[ixV_t t1];rfl,a,rfl,fv,.inl t2,λJ hJ=>CQ hJ t4 I λg B=>⟨by decide,λr u=>?_⟩⟩;have W:1<=(zeros m).length:=by obtain⟨y,hy,e⟩:=hz;exact List.length_pos_of_mem (cu.mpr ⟨y,cy.mpr ⟨hy,by simpa using e⟩,rfl⟩)
  have X:(zeros m).length<=12:=by have:=(iZ m).length_le;rw[ae]at this;omega
  have R:=C.but (o:=.lst ((zeros m).map V.str)) (C.ne B);have p2:=R.but (o:=.lst [.ref o,.ref g]) (R.ne u);have b2:bC p H (upd (upd H g (.lst ((zeros m).map V.str))) r (.lst [.ref o,.ref g])):=(bC.new B).trans (bC.new u);have f2:upd (upd H g (.lst ((zeros m).map V.str))) r (.lst [.ref o,.ref g]) g=some (.lst ((zeros m).map V.str)):=by rw[aC (aF upd_same u)];exact upd_same
  have o2:=(ho.but b2)
  have r2:upd (upd H g (.lst ((zeros m).map V.str))) r (.lst [.ref o,.ref g]) r=some (.lst [.ref o,.ref g]):=upd_same;have nr:=(R.ne u).symm;have nl:=(C.ne B).symm;generalize upd (upd H g (.lst ((zeros m).map V.str))) r (.lst [.ref o,.ref g])=v at p2 b2 f2 o2 r2⊢;refine⟨p,2,rfl,p2,by decide,by decide,λd x y d0 d1=>?_⟩;have p3:aZ (upd v p (.lst [.int x,.int y])) p:=⟨_,_,upd_same⟩
  have b3:=b2.trans (bC.upd p v (.lst [.int x,.int y]));have f3:upd v p (.lst [.int x,.int y]) g=some (.lst ((zeros m).map V.str)):=by rw[aC nl];exact f2
  have S:=o2.but (bC.upd p v (.lst [.int x,.int y]));have O:upd v p (.lst [.int x,.int y]) r=some (.lst [.ref o,.ref g]):=by rw[aC nr];exact r2
  generalize upd v p (.lst [.int x,.int y])=H3 at p3 b3 f3 S O⊢;have fin:∀(l:Addr) (ls:aQ),H3 l=some (.lst (ls.map V.str))->1<=ls.length->ls.length<=12->l≠p->(∀z∈ls,z∈os∨z∈zeros m) ->
    ∃x,Option.map (λn=>V.int n) ((lenV H3 (.ref l)).bind λa=>some (a:Int))=some x/\dB [V.ref p,x] H3 (λy v=>∃G,ixV v (.ref l) y=some G/\Q G v) E0:=by
   intro l ls hl g1 g2 U Z;refine⟨.int ls.length,by rw[lenV_l hl];simp,p,ls.length,rfl,p3,by omega,by omega,λe x4 y4 e0 e1=>?_⟩;have he:e.toNat<ls.length:=by omega
   refine⟨.str ls[e.toNat],?_,q _ _ (b3.trans (bC.upd _ _ _)) ⟨_,_,upd_same⟩ (Z _ (List.getElem_mem he))⟩;rw[ixV_l (xs:=ls.map V.str) (by rw[aC U];exact hl),jD e0 (by rw[ae];exact e1),bw,ax he];rfl
  dsimp only;have:d=0∨d=1:=by omega
  rcases this with rfl|rfl
  ·exact⟨.ref o,by rw[ixV_l O];rfl,fin o os S.1 L (by omega) S.2 λz hz=>.inl hz⟩
  ·exact⟨.ref g,by rw[ixV_l O];rfl,fin g _ f3 W X nl λz hz=>.inr hz⟩
end
section
variable {P:Program}{w:World}{K:PySem.W.Frag}{mg:fR}{base:Heap}
def R8 (b:cT)(sm:bU)(a:Int)(r:Str×Int):Prop:=(0<r.2/\r.2<=a/\r∈b)∨(r.2=0/\1<a/\r.1∈sm.map (·.1))
def oQ:Sp:=λvs H Q _=>∃(p t:Addr) (room:Int) (fx:cT) (sm:bU),vs=[.ref t,.int room]/\I9 p t fx sm H/\fx.length<=12/\sm.length<=3 /\
 ∀(l:Addr) (hs:cT) (hv:List V) (H':Hp),aH H H'->H l=none->H' l=some (.lst hv)->eA H' hs hv->hs.length<=18->(∀r∈hs,R8 fx sm room r)->Q (.ref l) H'
def HI (d:cT)(a:Int)(H:Hp)(i:Nat)(b:List V)(σ:St)(c:Hp):Prop:=∃(o1 o2:Option V) (hs:cT),σ=[o1,o2,some (.int a)]/\aH H c/\eA c hs b/\hs.length<=i/\∀r∈hs,0<r.2/\r.2<=a/\r∈d
def HJ (sm:bU)(H:Hp)(i:Nat)(a:List V)(σ:St)(b:Hp):Prop:=∃(o1 o2:Option V) (hs:cT),σ=[o1,o2]/\aH H b/\eA b hs a/\hs.length=i/\∀r∈hs,r.2=0/\r.1∈sm.map (·.1)
theorem eG.get {H:Hp}:∀{l:bU} {vs:List V} {i:Nat} {v:V},eG H l vs->vs[i]?=some v->∃r t,l[i]?=some r/\v = .ref t/\H t=some (.tup [.str r.1,.str r.2])
 | [],_,_,_,h,e=>by cases h;simp at e
 | r::_,_,0,_,⟨t,us,e,h,q⟩,k=>by subst e;simp at k;exact⟨r,t,rfl,k.symm,h⟩
 | _::_,_,i+1,_,⟨t,us,e,h,q⟩,k=>by subst e;simp at k;obtain⟨r,t,c,b,a⟩:=eG.get q k;exact⟨r,t,by simpa using c,b,a⟩
theorem eG.len {H:Hp}:∀{l:bU} {vs:List V},eG H l vs->vs.length=l.length
 | [],_,h=>by cases h;rfl
 | _::_,_,⟨t,us,e,h,q⟩=>by subst e;simp[eG.len q]
theorem eA.app {H:Hp}:∀{l m:cT} {vs us:List V},eA H l vs->eA H m us->eA H (l++m) (vs++us)
 | [],_,_,_,h,k=>by cases h;exact k
 | _::_,_,_,_,⟨t,us,e,h,q⟩,k=>by subst e;exact⟨t,_,rfl,h,eA.app q k⟩
theorem KU {f:Addr}{fd:FuncData}(F:fZ K "_law_heads" "_law_heads" dE f fd)(T:Txt mg):bW P w K mg base bA 1 f fd lL oQ:=by
 refine F.ok jU (λvs H Q E h=>?_) (λcdv A outer s H vs Q E W h=>?_)
 ·obtain⟨p,t,I,fx,sm,rfl,_⟩:=h;rfl
 ·obtain⟨p,t,I,fx,sm,rfl,ht,h1,h2,q⟩:=h;have S:=W.units
  refine⟨_,(aE (gE (i:=2) jU.nd rfl rfl rfl rfl (bF.by (N:=iX) (names:=(aD dE).names) (N':=["_law_name","_law_parts","_law_room"]) (src:=[none,none,some 1]) (by decide +kernel) rfl rfl) (dQ K rfl (bQ cU (pv 0) aJ (λ_ _=>rfl))) (λ_ _ _ _=>(cJ K rfl (i:=0) (j:=1) rfl (show List.Nodup (["_law_name","_law_parts","_law_room"]:aQ)by decide +kernel) rfl rfl rfl rfl)) (λ_ _ _ _=>(iD (mC (jA S) pB aJ (pv 1) (pv 2)))) (λ_ _ _ _=>(fL (aA (pv 0) (aA (pv 1) aB)))))
   (aE (bN (aS A8 (pv 1) aJ (nomark _)) (aG (aU (i:=2) jU.nd rfl (Or.inl rfl) (bP bJ (pv 2) (bP (qG.or qF) (g9 rfl (bF.by (N:=iX) (names:=(aD dE).names) (N':=["_law_name","_law_nought"]) (src:=[none,none]) (by decide +kernel) rfl rfl) (dQ K rfl (bQ cU (pv 0) aJ (λ_ _=>rfl))) (λ_ _ _ _=>(cJ K rfl (i:=0) (j:=1) rfl (show List.Nodup (["_law_name","_law_nought"]:aQ)by decide +kernel) rfl rfl rfl rfl)) (λ_ _ _ _=>eB) (λ_ _ _ _=>(fL (aA (pv 0) (aA aJ aB))))) aJ)))) aV)
   (aG (aP (pv 2))))),?_⟩
  simp only[iX];clear W F T S;obtain⟨a,b,fv,sv,t1,t2,t3,t4,t5,t6,t7⟩:=ht;have keep:=aI q (aI h1 h2);clear q h1 h2
  walk_at "rd"
  obtain⟨q,h1,h2⟩:=keep;refine⟨.ref a,by rw[ixV_t t1];rfl,a,rfl,fv,.inl t2,λJ hJ=>dA hJ (HI fx I H) ⟨none,none,[],rfl,λ_ _ h=>h,rfl,ac _,by simp⟩ ?_ ?_ ?_⟩
  ·rintro i d σ H' _ ⟨_,_,_,_,U,_⟩;rw[U _ _ t2,t2]
  ·rintro i x d σ H1 hx ⟨o1,o2,hs,rfl,U,O,hl,R⟩;obtain⟨r,t',W,rfl,ht⟩:=(t4.same (bG.of U)).get hx;have hi:i<12:=by have:=(cm.mp W).1;omega
   refine⟨t',_,rfl,iE.of ht,rfl,_,_,rfl,_,_,rfl,rfl,_,rfl,.inl (.inl ⟨0,rfl,r.2,rfl,_,rfl,?_⟩)⟩;by_cases z:0<r.2
   ·rw[ai (by simpa using z)];refine⟨_,rfl,_,_,rfl,rfl,_,rfl,?_⟩;dsimp only;by_cases z2:r.2<=I
    ·rw[ai (by simpa using z2)];refine⟨_,rfl,_,rfl,(by show 2<=sizeLine;decide),λu S=>⟨aj (m:=12) (by rw[O.len];omega) (by decide),?_⟩⟩;have g:=(O.same (bG.of (aH.upd (o:=.tup [.str r.1,.int r.2]) S))).snoc (n:=r.1) (k:=r.2) upd_same;exact⟨_,_,hs++[(r.1,r.2)],rfl,U.trans (aH.upd S),g,by rw[ar];simp;omega,λy X=>(cs.mp X).elim (R y) λh=>by rw[cp.mp h];exact⟨z,z2,bh W⟩⟩
    ·rw[ab (by simpa using z2)];exact⟨_,_,hs,rfl,U,O,by omega,R⟩
   ·rw[ab (by simpa using z)];refine⟨false,rfl,?_⟩;dsimp only;rw[ab (by decide)];exact⟨_,_,hs,rfl,U,O,by omega,R⟩
  ·rintro d σ H1 ⟨o1,o2,hs,rfl,U,O,hl,R⟩ l Z;rw[t4.len]at hl;have s2:aH H (upd H1 l (.lst d)):=U.trans (aH.upd Z);have nl:H l=none:=by
    cases e:H l with
    | none=>rfl
    | some o=>have z:=U l o e;rw[Z]at z;cases z
   have g:=O.same (bG.of (aH.upd (o:=.lst d) Z));have l2:upd H1 l (.lst d) l=some (.lst d):=upd_same;generalize upd H1 l (.lst d)=H2 at s2 g l2⊢;by_cases W:1<I
   ·rw[ai W];refine⟨.ref b,by rw[ixV_t (s2 _ _ t1)];rfl,b,rfl,sv,.inl (s2 _ _ t3),λJ2 hJ2=>dA hJ2 (HJ sm H2) ⟨none,none,[],rfl,λ_ _ h=>h,rfl,rfl,by simp⟩ ?_ ?_ ?_⟩
    ·rintro i d σ H' _ ⟨_,_,_,_,s3,_⟩;rw[s3 _ _ (s2 _ _ t3),s2 _ _ t3]
    ·rintro i x c σ H3 hx ⟨o1,o2,hs2,rfl,s3,G,Y,L⟩;obtain⟨r,t',hr',rfl,ht⟩:=(t5.same (bG.of (s2.trans s3))).get hx;have hi:=(cm.mp hr').1;refine⟨t',_,rfl,iE.of ht,rfl,_,_,rfl,_,_,rfl,rfl,?_⟩;dsimp only[tYes];rw[ai rfl];refine⟨_,rfl,(by show 2<=sizeLine;decide),λu S=>⟨aj (m:=12) (by rw[G.len];omega) (by decide),?_⟩⟩;have B:=(G.same (bG.of (aH.upd (o:=.tup [.str r.1,.int 0]) S))).snoc (n:=r.1) (k:=0) upd_same;exact⟨_,_,hs2++[(r.1,0)],rfl,s3.trans (aH.upd S),B,by rw[ar,Y];rfl,λy X=>(cs.mp X).elim (L y) λh=>by rw[cp.mp h];exact⟨rfl,cu.mpr ⟨r,bh hr',rfl⟩⟩⟩
    ·rintro c σ H3 ⟨o1,o2,hs2,rfl,s3,G,Y,L⟩ m hm;rw[t5.len]at Y;have s4:=s3.trans (aH.upd (o:=.lst c) hm);have B:=G.same (bG.of (aH.upd (o:=.lst c) hm));have m4:upd H3 m (.lst c) m=some (.lst c):=upd_same;generalize upd H3 m (.lst c)=H4 at s4 B m4⊢;refine .inr ⟨m,rfl,c,m4,by decide,by decide,ao (m:=100) (by rw[B.len];show _ * 2<=_;omega) (by decide),λu S=>?_⟩;have e2:(List.replicate (Int.toNat 2) c).flatten=c++c:=by show c++(c++[])=_;rw[bj]
     rw[e2];have l5:upd H4 u (.lst (c++c)) l=some (.lst d):=by rw[aC (aF (s4 _ _ l2) S)];exact s4 _ _ l2
     have s5:=s4.trans (aH.upd (o:=.lst (c++c)) S);have C:=B.same (bG.of (aH.upd (o:=.lst (c++c)) S));have u5:upd H4 u (.lst (c++c)) u=some (.lst (c++c)):=upd_same;generalize upd H4 u (.lst (c++c))=H5 at l5 s5 C u5⊢;refine⟨.lst (d++(c++c)),?_,λv hv=>?_⟩
     ·simp only[catO,l5,u5];exact ai (ao (m:=100) (by rw[ar,C.len,(g.same (bG.of s5)).len];omega) (by decide))
     ·have s6:=(s2.trans s5).trans (aH.upd (o:=.lst (d++(c++c))) hv);have row6:=((g.same (bG.of s5)).app (C.app C)).same (bG.of (aH.upd (o:=.lst (d++(c++c))) hv));refine q v _ _ _ s6 ?_ upd_same row6 (by simp only[ar];omega) λy X=>?_
      ·cases e:H v with
       | none=>rfl
       | some o=>have z:=(s2.trans s5) v o e;rw[hv]at z;cases z
      ·obtain h|h:=cs.mp X
       ·exact .inl (R y h)
       ·have:=(cs.mp h).elim (L y) (L y);exact .inr ⟨this.1,W,this.2⟩
   ·rw[ab W];exact q l hs d H2 s2 nl l2 g (by omega) λy X=>.inl (R y X)
end
section
variable {P:Program}{w:World}{K:PySem.W.Frag}{mg:fR}{base:Heap}
def ER (a:cT)(sm:bU)(n:Str)(k:Nat):Prop:=(0<k/\(n,(k:Int))∈a)∨(2<=k/\n∈sm.map (·.1))
mutual
noncomputable def bT (a:cT)(sm:bU)(os:aQ):D->Prop
 | .str x=>x∈os∨x∈zeros a
 | .tup (.str n::ds)=>ER a sm n ds.length/\IsTms a sm os ds
 | .lst (.str n::ds)=>ER a sm n ds.length/\IsTms a sm os ds
 | _=>False
noncomputable def IsTms (a:cT)(sm:bU)(os:aQ):List D->Prop
 | []=>True
 | d::ds=>bT a sm os d/\IsTms a sm os ds
end
mutual
noncomputable def lvs:D->Nat
 | .tup (_::ds)=>lvss ds
 | .lst (_::ds)=>lvss ds
 | _=>1
noncomputable def lvss:List D->Nat
 | []=>0
 | d::ds=>lvs d+lvss ds
end
theorem IsTms.snoc {c:cT}{sm:bU}{os:aQ}{d:D}(h:bT c sm os d):∀{ds:List D},IsTms c sm os ds->IsTms c sm os (ds++[d])
 | [],_=>⟨h,trivial⟩
 | _::_,⟨a,b⟩=>⟨a,IsTms.snoc h b⟩
theorem w4 (d:D):∀ds:List D,lvss (ds++[d])=lvss ds+lvs d
 | []=>by simp[lvss]
 | e::ds=>by rw[List.cons_append,lvss,w4 d ds,lvss];omega
theorem uV (d:D):∀ds:List D,depDs (ds++[d])=max (depDs ds) (depD d)
 | []=>Nat.max_comm _ _
 | e::ds=>by rw[List.cons_append,depDs,uV d ds,depDs,Nat.max_assoc]
theorem Reps.snoc {H:Hp}{d:D}{v:V}(h:bD H d v):∀{ds:List D} {vs:List V},Reps H ds vs->Reps H (ds++[d]) (vs++[v])
 | [],_,e=>by cases e;exact⟨v,[],rfl,h,rfl⟩
 | _::_,_,⟨x,r,e,a,b⟩=>by subst e;exact⟨x,r++[v],rfl,a,Reps.snoc h b⟩
theorem Reps.len {H:Hp}:∀{ds:List D} {vs:List V},Reps H ds vs->vs.length=ds.length
 | [],_,e=>by cases e;rfl
 | _::_,_,⟨x,r,e,a,b⟩=>by subst e;simp[Reps.len b]
noncomputable def nw (H H':Hp):Hp:=λa=>if H a=none then H' a else none
noncomputable def nwB (r:Addr)(H H':Hp):Hp:=λa=>if H a=none/\a≠r then H' a else none
theorem eW {H H':Hp}{a:Addr}{o:HO}:nw H H' a=some o ↔ H a=none/\H' a=some o:=by
 unfold nw;by_cases h:H a=none
 ·rw[ai h];exact⟨λe=>⟨h,e⟩,λe=>e.2⟩
 ·rw[ab h];exact⟨λe=>(by cases e),λe=>absurd e.1 h⟩
theorem fS {r:Addr}{H H':Hp}{a:Addr}{o:HO}:nwB r H H' a=some o ↔ (H a=none/\a≠r)/\H' a=some o:=by
 unfold nwB;by_cases h:H a=none/\a≠r
 ·rw[ai h];exact⟨λe=>⟨h,e⟩,λe=>e.2⟩
 ·rw[ab h];exact⟨λe=>(by cases e),λe=>absurd e.1 h⟩
def oA (p t o:Addr)(a:cT)(sm:bU)(os:aQ)(H:Hp):Prop:=aZ H p/\I9 p t a sm H/\JB p o os H/\cD a sm/\1<=os.length/\os.length<=12
theorem oA.but {p t o:Addr}{b:cT}{sm:bU}{os:aQ}{H H':Hp}(h:oA p t o b sm os H)(a:bC p H H')(c:aZ H' p):oA p t o b sm os H' :=
 ⟨c,h.2.1.but a h.1,h.2.2.1.but a,h.2.2.2⟩
def nU (n:Nat):Sp:=λvs H Q _=>∃(p t o:Addr) (fx:cT) (sm:bU) (os:aQ) (room deep:Nat),vs=[.ref p,.ref t,.ref o,.int room,.int deep]/\oA p t o fx sm os H/\1<=room/\room<=64/\deep<=n /\
 ∀(d:D) (v:V) (H':Hp),bC p H H'->aZ H' p->bD (nw H H') d v->bT fx sm os d->lvs d<=room->depD d<=deep->Q v H'
theorem wP {H:Hp}:∀{a:cT} {hv:List V},eA H a hv->Reps H (a.map λr=>D.tup [.str r.1,.int r.2]) hv
 | [],_,e=>e
 | r::_,_,⟨t,us,e,h,q⟩=>⟨.ref t,us,e,⟨t,_,rfl,h,_,_,rfl,rfl,_,_,rfl,rfl,rfl⟩,wP q⟩
theorem B6:∀a:cT,depDs (a.map λr=>D.tup [.str r.1,.int r.2])<=1
 | []=>av _
 | r::a=>by have:=B6 a;rw[bc,depDs];show max 1 _<=1;omega
noncomputable def TI (p t o l rw:Addr)(a b parts:Nat)(nm:Str)(d:cT)(sm:bU)(os:aQ)(H:Hp)(i:Nat)(σ:St)(c:Hp):Prop :=
 ∃(left:Nat) (ds:List D) (vs:List V) (o10 o11:Option V),σ=[some (.ref p),some (.ref t),some (.ref o),some (.int a),some (.int b),some (.ref l),some (.str nm),some (.int parts),some (.int left),some (.ref rw),o10,o11] /\
  bC p H c/\aZ c p/\c rw=some (.lst (.str nm::vs))/\Reps (nwB rw H c) ds vs/\ds.length=i/\IsTms d sm os ds/\lvss ds+left+(parts - i)<=a/\depDs ds+1<=b
theorem wI {K0:PySem.W.Frag}{Q:VK}{H Y:Hp}{p t o l rw:Addr}{P:cT}{sm:bU}{os:aQ}{b c parts n:Nat}{nm:Str}(A:oA p t o P sm os H)(dn:c<=n)(d1:1<=c)(r2:b<=64)(hpr:parts<=b)(hh:ER P sm nm parts)
  (b5:bC p H Y) (p5:aZ Y p) (nr:H rw=none) (r5:Y rw=some (.lst [.str nm]))
  (q:∀(d:D) (v:V) (H':Hp),bC p H H'->aZ H' p->bD (nw H H') d v->bT P sm os d->lvs d<=b->depD d<=c->Q v H') :
  rH (ML 0 parts) (gName 10) (tSeq (tAsg (tCall dB [] E0 (tCons (tVar 0) (tCons (tOp rAddF (tVar 8) (tC (V.int 1))) tNil))) (gName 11)) (tSeq (tAsg (tOp (rI0 λi j=>V.int (i - j)) (tVar 8) (tVar 11)) (gName 8))
   (tDrop (tBM K0 "list" rAppend (tVar 9) (tCons (tCall (λvs H Q E=>∃m,m<n/\nU m vs H Q E) [] E0 (tCons (tVar 0) (tCons (tVar 1) (tCons (tVar 2) (tCons (tOp rAddF (tC (V.int 1)) (tVar 11)) (tCons (tOp (rI0 λi j=>V.int (i - j)) (tVar 4) (tC (V.int 1))) tNil)))))) tNil)))))
   {nx:=tRet (tOp (λx y H Q=>∃v,ixV H x y=some v/\Q v H) (tLst (tCons (tVar 9) (tCons (tCB rTupU (tCons (tVar 9) tNil)) tNil))) (tCall dB [] E0 (tCons (tVar 0) (tCons (tC (V.int 2)) tNil)))) {nx:=λx H'=>Q V.non H',rt:=Q},rt:=Q}
   [some (.ref p),some (.ref t),some (.ref o),some (.int b),some (.int c),some (.ref l),some (.str nm),some (.int parts),some (.int ((b:Int) - (parts:Int))),some (.ref rw),none,none] Y:=by
 have h:rw≠p:=λz=>by obtain⟨x,y,e⟩:=A.1;rw[←z,nr]at e;cases e
 have L:H p≠none:=λz=>by obtain⟨x,y,e⟩:=A.1;rw[z]at e;cases e
 refine fM (TI p t o l rw b c parts nm P sm os H) ⟨b - parts,[],[],none,none,by rw[Int.ofNat_sub hpr],b5,p5,r5,rfl,rfl,trivial,by show 0+(b - parts)+(parts - 0)<=b;omega,d1⟩ ?_ ?_
 ·rintro i σ f hi ⟨left,ds,vs,o10,o11,rfl,X,g,r1,R,T,tm,lv,dp⟩;refine⟨_,rfl,_,rfl,.inl ⟨.int (left+1),rfl,p,left+1,rfl,g,by omega,by omega,λmore x y m0 m1=>?_⟩⟩;obtain⟨k,rfl⟩:∃k:Nat,more=(k:Int):=⟨more.toNat,by omega⟩
  have U:=X.trans (bC.upd p f (.lst [.int x,.int y]));have p2:aZ (upd f p (.lst [.int x,.int y])) p:=⟨_,_,upd_same⟩
  have r2':upd f p (.lst [.int x,.int y]) rw=some (.lst (.str nm::vs)):=by rw[aC h];exact r1
  have s2:∀a,a≠p->upd f p (.lst [.int x,.int y]) a=f a:=λa N=>aC N;generalize upd f p (.lst [.int x,.int y])=s at U p2 r2' s2⊢;refine⟨_,rfl,_,rfl,_,_,rfl,rfl,?_⟩;have e1:(1:Int)+(k:Int)=((1+k:Nat):Int):=by omega
  have e2:(c:Int) - 1=((c - 1:Nat):Int):=by omega
  refine⟨_,rfl,.inl ⟨rfl,_,fQ.of r2'⟩,_,rfl,_,rfl,_,rfl,_,rfl,.inl ⟨_,rfl,_,rfl,_,_,rfl,rfl,c - 1,by omega,p,t,o,P,sm,os,1+k,c - 1,(by rw[←e1,←e2];rfl),A.but U p2,by omega,by omega,ac _,λd v H3 C p3 G Z lv3 dp3=>?_⟩⟩;have r3:=C rw _ h r2';have old:∀a,s a=none->H a=none:=λa N=>by
   cases e:H a with
   | none=>rfl
   | some u =>
    by_cases z:a=p
    ·obtain⟨x,y,e'⟩:=p2;rw[z,e']at N;cases N
    ·have:=U a u z e;rw[N]at this;cases this
  refine⟨rw,_,v,rfl,rfl,r3,aj (m:=100) (by simp only[aq];rw[Reps.len R];omega) (by decide),?_⟩;refine⟨left - k,ds++[d],vs++[v],some (.int (0+i)),some (.int k),?_,u8 (U.trans C) nr,p3.but h.symm,by rw[upd_same];rfl,?_,by rw[ar,T];rfl,tm.snoc Z,?_,?_⟩
  ·rw[Int.ofNat_sub (by omega)];rfl
  ·refine Reps.snoc (bD.same ?_ G) (Reps.same ?_ R)
   ·intro a u e;obtain⟨r,O⟩:=eW.mp e;have J:a≠rw:=λz=>by rw[z,r2']at r;cases r
    exact fS.mpr ⟨⟨old a r,J⟩,by rw[aC J];exact O⟩
   ·intro a u e;obtain⟨⟨r,O⟩,g3⟩:=fS.mp e;have K:a≠p:=λz=>L (by rw[←z];exact r);exact fS.mpr ⟨⟨r,O⟩,by rw[aC O];exact C a u K (by rw[s2 a K];exact g3)⟩
  ·rw[w4];omega
  ·rw[uV];omega
 ·rintro σ f ⟨left,ds,vs,o10,o11,rfl,X,g,r1,R,T,tm,lv,dp⟩;refine⟨_,rfl,_,rfl,rw,_,rfl,.inl r1,λtp s hc=>?_⟩;rcases hc with⟨z,_⟩|⟨_,B,rfl⟩
  ·rw[r1]at z;cases z
  refine⟨(by show 2<=sizeLine;decide),λu S=>⟨_,rfl,p,2,rfl,(g.but (g.ne B)).but ((g.but (g.ne B)).ne S),by decide,by decide,λd x y d0 d2=>?_⟩⟩;have s2:aH f (upd (upd f tp (.tup (.str nm::vs))) u (.lst [.ref rw,.ref tp])):=(aH.upd B).trans (aH.upd S);have t2:upd (upd f tp (.tup (.str nm::vs))) u (.lst [.ref rw,.ref tp]) tp=some (.tup (.str nm::vs)):=by rw[aC (aF upd_same S)];exact upd_same
  have u2:upd (upd f tp (.tup (.str nm::vs))) u (.lst [.ref rw,.ref tp]) u=some (.lst [.ref rw,.ref tp]):=upd_same;have nup:u≠p:=((g.but (o:=.tup (.str nm::vs)) (g.ne B)).ne S).symm;have I:tp≠p:=(g.ne B).symm;generalize upd (upd f tp (.tup (.str nm::vs))) u (.lst [.ref rw,.ref tp])=s at s2 t2 u2⊢;have C:bC p H (upd s p (.lst [.int x,.int y])):=(X.trans s2.but).trans (bC.upd _ _ _);have r3:upd s p (.lst [.int x,.int y]) rw=some (.lst (.str nm::vs)):=by rw[aC h];exact s2 _ _ r1
  have t3:upd s p (.lst [.int x,.int y]) tp=some (.tup (.str nm::vs)):=by rw[aC I];exact t2
  have u3:upd s p (.lst [.int x,.int y]) u=some (.lst [.ref rw,.ref tp]):=by rw[aC nup];exact u2
  have nt:H tp=none:=by
   cases e:H tp with
   | none=>rfl
   | some w=>have:=X tp w I e;rw[B]at this;cases this
  have F:Reps (nw H (upd s p (.lst [.int x,.int y]))) (.str nm::ds) (.str nm::vs):=by refine⟨_,_,rfl,rfl,Reps.same (λa w e=>?_) R⟩;obtain⟨⟨r,O⟩,g3⟩:=fS.mp e;exact eW.mpr ⟨r,by rw[aC (λz=>L (by rw[←z];exact r))];exact s2 _ _ g3⟩
  have dd:depDs (.str nm::ds)+1<=c:=by rw[depDs,show depD (.str nm)=0 from rfl];omega
  have ll:lvss ds<=b:=by omega
  dsimp only;have:d=0∨d=1:=by omega
  rcases this with rfl|rfl
  ·refine⟨.ref rw,by rw[ixV_l u3];rfl,q (.lst (.str nm::ds)) _ _ C ⟨_,_,upd_same⟩ ⟨rw,_,rfl,eW.mpr ⟨nr,r3⟩,F⟩ ?_ (by rw[lvs];exact ll) (by rw[depD];exact dd)⟩;unfold bT;exact⟨by rw[T];exact hh,tm⟩
  ·refine⟨.ref tp,by rw[ixV_l u3];rfl,q (.tup (.str nm::ds)) _ _ C ⟨_,_,upd_same⟩ ⟨tp,_,rfl,eW.mpr ⟨nt,t3⟩,F⟩ ?_ (by rw[lvs];exact ll) (by rw[depD];exact dd)⟩;unfold bT;exact⟨by rw[T];exact hh,tm⟩
theorem NW {f:Addr}{fd:FuncData}(n:Nat)(F:fZ K "_law_term" "_law_term" dW f fd)(T:Txt mg)(v:cC P w K mg base bA 1 "_law_take" dB)(G:cC P w K mg base bA 2 "_law_leaf" pY)(B:cC P w K mg base bA 1 "_law_heads" oQ)
  (C:cC P w K mg base bA (n+3) "_law_term" (λvs H Q E=>∃m,m<n/\nU m vs H Q E)):bW P w K mg base bA (n+4) f fd gO (nU n):=by
 refine F.ok dC (λvs H Q E h=>?_) (λcdv A outer s H vs Q E N h=>?_)
 ·obtain⟨p,t,o,fx,sm,os,J,Z,rfl,_⟩:=h;rfl
 ·obtain⟨p,t,o,fx,sm,os,J,Z,rfl,I,r1,r2,dn,q⟩:=h;have X:=N.units
  refine⟨_,(aE (aU (i:=5) dC.nd rfl (Or.inl rfl) (aL B (N.mono (by omega)) pass0 rfl (aA (pv 1) (aA (pv 3) aB))))
   (aE (bN (PW.pt (i9 (aS (d9 X) (pv 4) aJ (nomark _)) (i9 (aS (d9 X) (pv 5) (bR aB) (nomark _)) (iK (aS (d9 X) (aL v (N.mono (by omega)) pass0 rfl (aA (pv 0) (aA aJ aB))) aJ (nomark _)))))) (aG (aP (aL G (N.mono (by omega)) pass0 rfl (aA (pv 0) (aA (pv 1) (aA (pv 2) aB)))))) aV)
   (aE (tV (bQ cU (pv 5) (aL v (N.mono (by omega)) pass0 rfl (aA (pv 0) (aA (aK bM rfl T.n_len rfl (aA (pv 5) aB)) aB))) (λ_ _=>rfl)) (cJ K rfl (i:=6) (j:=7) rfl dC.nd rfl rfl rfl rfl))
   (aE (bN (aS (d9 X) (pv 7) aJ (nomark _)) (aG (aU (i:=7) dC.nd rfl (Or.inl rfl) (bP bJ aJ (aL v (N.mono (by omega)) pass0 rfl (aA (pv 0) (aA (aK (xT rfl) rfl T.n_min rfl (aA aJ (aA (bP qE (pv 3) aJ) aB))) aB)))))) aV)
   (aE (aU (i:=8) dC.nd rfl (Or.inl rfl) (bP qE (pv 3) (pv 7)))
   (aE (aU (i:=9) dC.nd rfl (Or.inl rfl) (bR (aA (pv 6) aB)))
   (aE (eV df rfl (dS rfl T.n_range (aA (pv 7) aB)) (bO (i:=10) dC.nd rfl (Or.inl rfl)) (aE (aU (i:=11) dC.nd rfl (Or.inl rfl) (aL v (N.mono (by omega)) pass0 rfl (aA (pv 0) (aA (bP bJ (pv 8) aJ) aB))))
   (aE (aU (i:=8) dC.nd rfl (Or.inl rfl) (bP qE (pv 8) (pv 11)))
   (aG (cN (iT db de dc eF (pv 9) (aA (aL C (N.mono (by omega)) pass0 rfl (aA (pv 0) (aA (pv 1) (aA (pv 2) (aA (bP bJ aJ (pv 11)) (aA (bP qE (pv 4) aJ) aB)))))) aB)))))))
   (aG (aP (bQ cU (bR (aA (pv 9) (aA (bH dY rfl T.n_tuple rfl (aA (pv 9) aB)) aB))) (aL v (N.mono (by omega)) pass0 rfl (aA (pv 0) (aA aJ aB))) (λ_ _=>rfl))))))))))),?_⟩
  simp only[rY];clear N F T X v G B C;have keep:=aI q (aI I (aI r1 (aI r2 dn)));clear q I r1 r2 dn
  walk_at "rd"
  obtain⟨q,I,r1,r2,dn⟩:=keep;have U:∀W,bC p H W->aZ W p->pY [.ref p,.ref t,.ref o] W Q E0:=λW b1 p1=>by have i1:=I.but b1 p1;exact⟨p,t,o,fx,sm,os,rfl,p1,i1.2.1,i1.2.2.1,i1.2.2.2.2.1,i1.2.2.2.2.2,I.2.2.2.1.f2,I.2.2.2.1.bare,λx H' b2 p2 hx=>q (.str x) (.str x) H' (b1.trans b2) p2 rfl (by unfold bT;exact hx) r1 (av _)⟩
  refine⟨p,t,J,fx,sm,rfl,I.2.1,I.2.2.2.1.f2,I.2.2.2.1.s2,λl Y hv W s1 nl l1 row hl hok=>?_⟩;have b1:bC p H W:=s1.but;have p1:aZ W p:=by obtain⟨x,y,e⟩:=I.1;exact⟨x,y,s1 _ _ e⟩
  have nlp:l≠p:=λz=>by obtain⟨x,y,e⟩:=I.1;rw[←z,nl]at e;cases e
  dsimp only;by_cases hd0:(Z:Int)=0
  ·rw[ai hd0];exact U W b1 p1
  rw[ab hd0];refine⟨av _,λu X=>?_⟩;have b2:=b1.trans (bC.new (p:=p) (o:=.lst []) X);have p2:=p1.but (o:=.lst []) (p1.ne X);have l2:upd W u (.lst []) l=some (.lst hv):=by rw[aC (aF l1 X)];exact l1
  have S:=row.same (bG.of (aH.upd (o:=.lst []) X));have u2:upd W u (.lst []) u=some (.lst []):=upd_same;generalize upd W u (.lst [])=H2 at b2 p2 l2 S u2⊢;refine⟨.lst (Y.map λr=>D.tup [.str r.1,.int r.2]),.lst [],⟨l,hv,rfl,l2,wP S⟩,⟨u,[],rfl,u2,rfl⟩,?_,_,rfl,?_⟩
  ·have:=B6 Y;rw[depD];omega
  by_cases he:Y=[]
  ·subst he;rw[ai (by rfl)];exact U H2 b2 p2
  rw[ab (by cases Y with|nil=>exact absurd rfl he|cons a b=>exact Bool.false_ne_true)];refine⟨p,7,rfl,p2,by decide,by decide,λd x y d0 d1=>?_⟩;have b3:=b2.trans (bC.upd p H2 (.lst [.int x,.int y]));have p3:aZ (upd H2 p (.lst [.int x,.int y])) p:=⟨_,_,upd_same⟩
  have l3:upd H2 p (.lst [.int x,.int y]) l=some (.lst hv):=by rw[aC nlp];exact l2
  have R:=S.same (bG.pot (o:=.lst [.int x,.int y]) p2);generalize upd H2 p (.lst [.int x,.int y])=H3 at b3 p3 l3 R⊢;dsimp only;rw[rEqD_ii];refine⟨_,rfl,?_⟩;by_cases hd:d=0
  ·rw[ai (by simpa using hd)];exact U H3 b3 p3
  rw[ab (by simpa using hd)];have hn:1<=Y.length:=by cases Y with|nil=>exact absurd rfl he|cons a b=>simp
  refine⟨.int Y.length,by rw[lenV_l l3,R.len];rfl,p,Y.length,rfl,p3,by omega,by omega,λe x4 y4 e0 e1=>?_⟩;have b4:=b3.trans (bC.upd p H3 (.lst [.int x4,.int y4]));have p4:aZ (upd H3 p (.lst [.int x4,.int y4])) p:=⟨_,_,upd_same⟩
  have l4:upd H3 p (.lst [.int x4,.int y4]) l=some (.lst hv):=by rw[aC nlp];exact l3
  have O:=R.same (bG.pot (o:=.lst [.int x4,.int y4]) p3);generalize upd H3 p (.lst [.int x4,.int y4])=H4 at b4 p4 l4 O⊢;have hle:e.toNat<hv.length:=by rw[O.len];omega
  obtain⟨r,tt,N,hv',ht⟩:=O.get (ax hle);have hok':=hok r (bh N);refine⟨.ref tt,by rw[ixV_l l4,jD e0 (by omega),ax hle,hv'],tt,rfl,_,iE.of ht,rfl,_,_,rfl,_,_,rfl,rfl,?_⟩;rw[rEqD_ii];refine⟨_,rfl,?_⟩;by_cases hz:r.2=0
  ·rw[ai (by simpa using hz)];have h0:1<(J:Int)/\r.1∈sm.map (·.1):=by
    rcases hok' with⟨a,_,_⟩|⟨_,b,c⟩
    ·omega
    ·exact⟨b,c⟩
   refine⟨4,(J:Int) - 1,⟨rfl,rfl⟩,p,_,rfl,p4,by split <;> omega,by split <;> omega,λg x5 y5 g0 g1=>⟨.int (2+g),rfl,2+g,rfl,by decide,λu5 L=>⟨2+g,rfl,by split at g1 <;> omega,by split at g1 <;> omega,?_⟩⟩⟩;obtain⟨k,hk⟩:∃k:Nat,2+g=(k:Int):=⟨(2+g).toNat,by omega⟩
   have hk2:2<=k/\k<=J:=by split at g1 <;> omega
   rw[hk,ck];have b5:=(b4.trans (bC.upd p H4 (.lst [.int x5,.int y5]))).trans (bC.new (o:=.lst [.str r.1]) L);have p5:aZ (upd H4 p (.lst [.int x5,.int y5])) p:=⟨_,_,upd_same⟩
   refine wI I dn (by omega) r2 hk2.2 (.inr ⟨hk2.1,h0.2⟩) b5 (p5.but (p5.ne L)) ?_ upd_same q;cases e:H u5 with
   | none=>rfl
   | some w=>have:=(b4.trans (bC.upd p H4 (.lst [.int x5,.int y5]))) u5 w (p5.ne L).symm e;rw[L]at this;cases this
  ·rw[ab (by simpa using hz)];have h0:0<r.2/\r.2<=(J:Int)/\r∈fx:=by
    rcases hok' with h|⟨h,_⟩
    ·exact h
    ·exact absurd h hz
   refine⟨r.2,rfl,by decide,λu5 L=>⟨r.2,rfl,by omega,by omega,?_⟩⟩;obtain⟨k,hk⟩:∃k:Nat,r.2=(k:Int):=⟨r.2.toNat,by omega⟩
   have hm:(r.1,(k:Int))∈fx:=by rw[←hk];exact h0.2.2
   rw[hk,ck];have b5:=b4.trans (bC.new (p:=p) (o:=.lst [.str r.1]) L);refine wI I dn (by omega) r2 (by omega) (.inl ⟨by omega,hm⟩) b5 (p4.but (p4.ne L)) ?_ upd_same q;cases e:H u5 with
   | none=>rfl
   | some w=>have:=b4 u5 w (p4.ne L).symm e;rw[L]at this;cases this
theorem OT {f:Addr}{d:FuncData}(F:fZ K "_law_term" "_law_term" dW f d)(T:Txt mg)(b:cC P w K mg base bA 1 "_law_take" dB)(c:cC P w K mg base bA 2 "_law_leaf" pY)(a:cC P w K mg base bA 1 "_law_heads" oQ)
  (o:mg "_law_term" = some (.ref f)) (p:PySem.W.keepIn K (.ref f)=true) (e:gA K d gO []):∀n,bW P w K mg base bA (n+4) f d gO (nU n):=by
 intro n
 induction n using Nat.strongRecOn with
 | ind n i =>
  exact NW n F T b c a ⟨f,d,_,⟨λvs H Q E ⟨m,g,h⟩=>(i m g).len vs H Q E h,λA outer s H args us vs Q E l q e j ⟨m,g,h⟩=>((i m g).mono (by omega)).run A outer s H args us vs Q E l q e j h⟩,o,p,e⟩
theorem KD {f:Addr}{d:FuncData}(F:fZ K "_law_term" "_law_term" dW f d)(T:Txt mg)(b:cC P w K mg base bA 1 "_law_take" dB)(c:cC P w K mg base bA 2 "_law_leaf" pY)(a:cC P w K mg base bA 1 "_law_heads" oQ)
  (e:mg "_law_term" = some (.ref f)) (g:PySem.W.keepIn K (.ref f)=true) (h:gA K d gO []) (n:Nat):cC P w K mg base bA (n+4) "_law_term" (nU n):=⟨f,d,_,OT F T b c a e g h n,e,g,h⟩
end
noncomputable abbrev M:=Nat×Str×Nat
noncomputable def sL (x y:Str):Bool:=decide (x.cps.toList<y.cps.toList)
theorem MS {x y:Str}(h:x.cps.toList=y.cps.toList):x=y:=by cases x;cases y;simp only[Str.mk.injEq];exact Array.toList_inj.mp h
theorem QP (x:Str):sL x x=false:=bi (List.lt_irrefl _)
theorem MY {x y:Str}(h:sL x y=true):sL y x=false:=bi λk=>absurd (List.lt_trans (bp h) k) (List.lt_irrefl _)
theorem JZ {x y:Str}(n:x≠y):sL x y=true∨sL y x=true:=by
 by_cases h:x.cps.toList<y.cps.toList
 ·exact .inl (bg h)
 ·by_cases k:y.cps.toList<x.cps.toList
  ·exact .inr (bg k)
  ·exact absurd (MS (List.le_antisymm (List.not_lt.mp k) (List.not_lt.mp h))) n
noncomputable def ltM (a b:M):Bool:=if a.1=b.1 then(if a.2.1=b.2.1 then decide (a.2.2<b.2.2)else sL a.2.1 b.2.1)else decide (a.1<b.1)
theorem uE {a b:M}(h:ltM a b=true):ltM b a=false:=by
 obtain⟨i,g,l⟩:=a;obtain⟨f,e,j⟩:=b;unfold ltM at h⊢;dsimp only at h⊢;by_cases d:i=f
 ·subst d;rw[ai rfl]at h⊢;by_cases c:g=e
  ·subst c;rw[ai rfl]at h⊢;exact bi (by have:=bp h;omega)
  ·rw[ab c]at h;rw[ab (Ne.symm c)];exact MY h
 ·rw[ab d]at h;rw[ab (Ne.symm d)];exact bi (by have:=bp h;omega)
theorem qK {a b:M}(n:a≠b):ltM a b=true∨ltM b a=true:=by
 obtain⟨l,j,i⟩:=a;obtain⟨g,f,e⟩:=b;unfold ltM;dsimp only;by_cases d:l=g
 ·subst d;rw[ai rfl,ai rfl];by_cases c:j=f
  ·subst c;rw[ai rfl,ai rfl];have:i≠e:=λz=>n (by rw[z]);rcases Nat.lt_or_gt_of_ne this with h|h
   ·exact .inl (bg h)
   ·exact .inr (bg h)
  ·rw[ab c,ab (Ne.symm c)];exact JZ c
 ·rw[ab d,ab (Ne.symm d)];rcases Nat.lt_or_gt_of_ne d with h|h
  ·exact .inl (bg h)
  ·exact .inr (bg h)
noncomputable def lexK:List M->List M->Bool
 | [],[]=>false
 | [],_::_=>true
 | _::_,[]=>false
 | a::s,b::t=>if a=b then lexK s t else ltM a b
theorem pD:∀s:List M,lexK s s=false
 | []=>rfl
 | a::s=>by rw[lexK,ai rfl,pD s]
theorem qM:∀{s t:List M},lexK s t=true->lexK t s=false
 | [],[],h=>by cases h
 | [],_::_,_=>rfl
 | _::_,[],h=>by cases h
 | a::s,b::t,h=>by
  rw[lexK]at h⊢;by_cases e:a=b
  ·rw[ai e]at h;rw[ai e.symm];exact qM h
  ·rw[ab e]at h;rw[ab (Ne.symm e)];exact uE h
theorem uI:∀{s t:List M},s≠t->lexK s t=true∨lexK t s=true
 | [],[],n=>absurd rfl n
 | [],_::_,_=>.inl rfl
 | _::_,[],_=>.inr rfl
 | a::s,b::t,n=>by
  rw[lexK,lexK];by_cases e:a=b
  ·rw[ai e,ai e.symm];exact uI λz=>n (by rw[e,z])
  ·rw[ab e,ab (Ne.symm e)];exact qK e
noncomputable def sortS (x:Str):Nat:=if x.cps.toList[0]?=some 63 then 0 else 1
mutual
noncomputable def key:D->List M
 | .str x=>[(sortS x,x,0)]
 | .tup (.str n::ds)=>(2,n,ds.length+1)::keys ds
 | _=>[]
noncomputable def keys:List D->List M
 | []=>[]
 | d::ds=>key d++keys ds
end
mutual
/-- texts and tuples whose first is a text -/
noncomputable def Fl:D->Prop
 | .str x=>1<=x.cps.toList.length/\x.cps.toList.length<=20
 | .tup (.str _::ds)=>Fls ds
 | _=>False
noncomputable def Fls:List D->Prop
 | []=>True
 | d::ds=>Fl d/\Fls ds
end
noncomputable def sortD:D->Nat
 | .str x=>sortS x
 | _=>2
mutual
/-- part by part -/
noncomputable def ah:D->D->Bool
 | .str x,.str y=>if sortS x=sortS y then sL x y else decide (sortS x<sortS y)
 | .tup (.str n::ds),.tup (.str m::a)=>if n=m then(if ds.length=a.length then ahs ds a else decide (ds.length<a.length))else sL n m
 | d,e=>decide (sortD d<sortD e)
noncomputable def ahs:List D->List D->Bool
 | d::ds,e::a=>if eqD d e=true then ahs ds a else ah d e
 | _,_=>false
end
theorem oR (x:Str):sortS x<2:=by unfold sortS;split <;> omega
mutual
theorem zP:∀(d e:D) (s t:List M),Fl d->Fl e->lexK (key d++s) (key e++t)=if eqD d e=true then lexK s t else ah d e
 | .str x,.str y,s,t,_,_=>by
  have b:eqD (.str x) (.str y)=(x == y):=rfl;show(if ((sortS x,x,0):M)=(sortS y,y,0)then lexK s t else ltM (sortS x,x,0) (sortS y,y,0))=_;rw[b];by_cases e:x=y
  ·subst e;rw[ai rfl,ai (by simp)]
  ·rw[ab (λz=>e (by simp at z;exact z.2)),ab (by simpa using e),ah];unfold ltM;dsimp only;by_cases h:sortS x=sortS y
   ·rw[ai h,ab e,ai h]
   ·rw[ab h,ab h]
 | .str x,.tup (.str m::a),s,t,_,_=>by
  have b:eqD (.str x) (.tup (.str m::a))=false:=rfl;have:=oR x;show(if ((sortS x,x,0):M)=(2,m,a.length+1)then _ else ltM (sortS x,x,0) (2,m,a.length+1))=_;rw[b,ab (λz=>by simp at z),ab (by decide),ah]
  ·unfold ltM;rw[ab (by dsimp only;omega)];rfl
  all_goals (intros;simp_all)
 | .tup (.str n::ds),.str y,s,t,_,_=>by
  have b:eqD (.tup (.str n::ds)) (.str y)=false:=rfl;have:=oR y;show(if ((2,n,ds.length+1):M)=(sortS y,y,0)then _ else ltM (2,n,ds.length+1) (sortS y,y,0))=_;rw[b,ab (λz=>by simp at z),ab (by decide),ah]
  ·unfold ltM;rw[ab (by dsimp only;omega)];rfl
  all_goals (intros;simp_all)
 | .tup (.str n::ds),.tup (.str m::a),s,t,i,g=>by
  have b:eqD (.tup (.str n::ds)) (.tup (.str m::a))=((n == m) && eqDs ds a):=rfl;show(if ((2,n,ds.length+1):M)=(2,m,a.length+1)then lexK (keys ds++s) (keys a++t)else ltM (2,n,ds.length+1) (2,m,a.length+1))=_;rw[b,ah];by_cases f:n=m
  ·subst f;by_cases c:ds.length=a.length
   ·rw[ai (by rw[c]),ai rfl,ai c,BS ds a s t c i g];simp
   ·rw[ab (λz=>c (by simp at z;omega)),ai rfl,ab c];have:eqDs ds a=false:=by
     cases h:eqDs ds a with
     | false=>rfl
     | true=>rw[iI]at h;simp at h;exact absurd h.2 c
    rw[this,ab (by simp)];unfold ltM;dsimp only;rw[ai rfl,ai rfl];simp
  ·rw[ab (λz=>f (by simp at z;exact z.1)),ab (by simp[f]),ab f];unfold ltM;dsimp only;rw[ai rfl,ab f]
theorem BS:∀(ds a:List D) (s t:List M),ds.length=a.length->Fls ds->Fls a->lexK (keys ds++s) (keys a++t)=if eqDs ds a=true then lexK s t else ahs ds a
 | [],[],s,t,_,_,_=>by rw[eqDs,ai rfl];rfl
 | d::ds,e::a,s,t,b,⟨f1,f2⟩,⟨f,c⟩=>by
  rw[keys,keys,cj,cj,zP d e _ _ f1 f,BS ds a s t (by simpa using b) f2 c,eqDs,ahs];by_cases h:eqD d e=true
  ·rw[ai h,ai h,h,Bool.true_and]
  ·have h':eqD d e=false:=by simpa using h
   rw[ab h,ab h,h',Bool.false_and,ab (by decide)]
 | [],_::_,_,_,h,_,_=>by simp at h
 | _::_,[],_,_,h,_,_=>by simp at h
end
theorem uJ {d e:D}(b:Fl d)(a:Fl e):lexK (key d) (key e)=(!eqD d e && ah d e):=by have:=zP d e [] [] b a;rw[bj,bj]at this;rw[this];cases h:eqD d e <;> simp[lexK]
theorem OM {d e:D}(f:Fl d)(c:Fl e)(h:key d=key e):eqD d e=true:=by
 have a:=uJ f c;have b:=zP d e [] [(0,default,0)] f c;rw[bj,h]at b;cases q:eqD d e with
 | true=>rfl
 | false =>
  rw[q,ab (by decide)]at b;rw[q,h,pD,←b]at a;have:∀(s:List M) (m:M),lexK s (s++[m])=true:=by
   intro s m
   induction s with
   | nil=>rfl
   | cons a s g=>rw[List.cons_append,lexK,ai rfl,g]
  rw[this]at a;cases a
section
variable {P:Program}{w:World}{K:PySem.W.Frag}{mg:fR}{base:Heap}
theorem zT {H:Hp}{a:Addr}{xs:List V}(h:H a=some (.tup xs)):isV H (.ref a) (.ty "tuple")=some true:=by unfold isV tyN;simp only[h];rfl
def tI:Sp:=λvs H Q _=>∃(d:D) (v:V),vs=[v]/\bD H d v/\Fl d/\Q (.int (sortD d)) H
theorem NY {f:Addr}{j:FuncData}(F:fZ K "_law_sort" "_law_sort" fH f j)(T:Txt mg):bW P w K mg base bA 1 f j mM tI:=by
 refine F.ok yU (λvs H Q E h=>?_) (λp A outer s H vs Q E i h=>?_)
 ·obtain⟨d,v,rfl,_⟩:=h;rfl
 ·obtain⟨d,v,rfl,rep,b,q⟩:=h;have g:=i.units
  refine⟨_,(aE (bN (a0 K rfl (aK aM rfl T.n_isinstance rfl (aA (pv 0) (aA (bV (v:=V.ty "tuple") rfl T.n_tuple rfl rfl) aB))) (λ_=>rfl)) (aG (aP aJ)) aV)
   (aG (aP (bH q8 rfl T.n_int rfl (aA (dX (fC g) (bQ cU (pv 0) aJ (λ_ _=>rfl)) dR (nomark _)) aB))))),?_⟩
  simp only[r9];clear i F T g;have keep:=aI q (aI rep b);clear q rep b
  walk_at "rd"
  obtain⟨q,rep,b⟩:=keep;cases d with
  | str x =>
   cases (show v = .str x from rep);obtain⟨f1,f2⟩:=(show 1<=x.cps.toList.length/\x.cps.toList.length<=20 from by unfold Fl at b;exact b)
   obtain⟨c,hc⟩:∃c,x.cps.toList[0]?=some c:=⟨_,ax (by omega)⟩
   refine⟨false,rfl,?_⟩;rw[ab (by decide)];refine⟨.str ⟨#[c]⟩,?_,?_⟩
   ·show(if x.length<=sizeLine then(atI x.cps.toList 0).map λc=>V.str ⟨#[c]⟩else none)=_;rw[ai (ao (m:=20) (by simpa [Str.length] using f2) (by decide)),jD (by decide) (by omega),show(0:Int).toNat=0 from rfl,hc];rfl
   ·rw[rNeD_ss];refine⟨_,rfl,?_⟩;have e:(if (!decide ((⟨#[c]⟩:Str)=Str.ofString "?"))=true then(1:Int)else 0)=((sortD (.str x):Nat):Int):=by
     show _=((sortS x:Nat):Int);unfold sortS;rw[hc];have l:Str.ofString "?" = ⟨#[63]⟩:=by decide +kernel
     by_cases z:c=63
     ·subst z;rw[l];simp
     ·have:¬((⟨#[c]⟩:Str)=Str.ofString "?"):=λw=>by rw[l]at w;simp at w;exact z w
      simp[this,z]
    rw[e];exact q
  | tup ds =>
   obtain⟨a,vs,rfl,o,_⟩:=rep;refine⟨true,?_,?_⟩
   ·exact zT o
   ·rw[ai rfl];exact q
  | _=>unfold Fl at b;exact absurd b id
def jO (n:Nat):Sp:=λvs H Q _=>∃(d e:D) (v u:V),vs=[v,u]/\bD H d v/\bD H e u/\Fl d/\Fl e/\depD d<=n/\depD d<=50/\∀H',aH H H'->Q (.bl (ah d e)) H'
theorem IH {g:TG}{h:TS}{D:iJ}{σ:St}{H:Hp}{a b:Addr}(xs ys:List V)(Pv:Nat->St->Hp->Prop)(A:Pv 0 σ H)(u:∀i σ H,i<=min xs.length ys.length->Pv i σ H->fY H a xs/\fY H b ys)
  (t:∀i x y T σ H,xs[i]?=some x->ys[i]?=some y->Pv i σ H->H T=none->g (.ref T) σ (upd H T (.tup [x,y])) λj B=>h {D with nx:=Pv (i+1),ct:=Pv (i+1),bk:=D.nx} j B)
  (hd:∀σ H,Pv (min xs.length ys.length) σ H->D.nx σ H):rH (R7 a b) g h D σ H:=by
 refine⟨λi m σ H=>m=min xs.length ys.length - i/\i<=min xs.length ys.length/\Pv i σ H,⟨min xs.length ys.length,by simp,av _,A⟩,?_⟩;rintro i m σ H ⟨rfl,v,p⟩;obtain⟨f,d⟩:=u i σ H v p;by_cases c:i<min xs.length ys.length
 ·have s:i<xs.length:=bd c (Nat.min_le_left _ _);have r:i<ys.length:=bd c (Nat.min_le_right _ _);refine .inr ⟨⟨xs,ys,xs[i],ys[i],f,d,by simp[s],by simp[r]⟩,Pv (i+1),λC H' q=>⟨min xs.length ys.length - (i+1),by omega,rfl,c,q⟩,λz H' y=>?_⟩;obtain⟨T,x,y,rfl,w,rfl,q⟩:=y;obtain⟨o,l⟩:=q xs ys f d;exact t i x y T σ H o l p w
 ·have e:i=min xs.length ys.length:=by omega
  subst e;exact .inl ⟨⟨xs,ys,f,d,by omega⟩,hd σ H p⟩
theorem Reps.get {H:Hp}:∀{ds:List D} {vs:List V} {i:Nat} {v:V},Reps H ds vs->vs[i]?=some v->∃d,ds[i]?=some d/\bD H d v
 | [],_,_,_,e,h=>by cases e;simp at h
 | d::_,_,0,_,⟨x,r,e,a,b⟩,h=>by subst e;simp at h;subst h;exact⟨d,rfl,a⟩
 | _::_,_,i+1,_,⟨x,r,e,a,b⟩,h=>by subst e;simp at h;obtain⟨d,f,c⟩:=Reps.get b h;exact⟨d,by simpa using f,c⟩
theorem Fls.get:∀{ds:List D} {i:Nat} {d:D},Fls ds->ds[i]?=some d->Fl d
 | [],_,_,_,z=>by simp at z
 | _::_,0,_,⟨a,_⟩,h=>by simp at h;subst h;exact a
 | _::_,i+1,_,⟨_,b⟩,h=>Fls.get b (by simpa using h)
theorem jC:∀{ds:List D} {i:Nat} {d:D},ds[i]?=some d->depD d<=depDs ds
 | [],_,_,h=>by simp at h
 | e::ds,0,_,h=>by simp at h;subst h;rw[depDs];omega
 | e::ds,i+1,_,h=>by have:=jC (ds:=ds) (i:=i) (by simpa using h);rw[depDs];omega
theorem B3 {α:Type}{l:List α}{i:Nat}{x:α}(h:l[i]?=some x):l.drop i=x::l.drop (i+1):=by have⟨hi,e⟩:=cm.mp h;rw[List.drop_eq_getElem_cons hi,e]
def ZI (b c:Addr)(ds a:List D)(H:Hp)(i:Nat)(σ:St)(e:Hp):Prop:=∃o2 d:Option V,σ=[some (.ref b),some (.ref c),o2,d]/\aH H e/\ahs ds a=ahs (ds.drop i) (a.drop i)
theorem jW {d:D}(h:Fl d):(∃x,d = .str x/\1<=x.cps.toList.length/\x.cps.toList.length<=20)∨∃n ds,d = .tup (.str n::ds)/\Fls ds:=by
 unfold Fl at h;split at h
 ·exact .inl ⟨_,rfl,h⟩
 ·exact .inr ⟨_,_,rfl,h⟩
 ·exact absurd h id
theorem O5 {d e:D}(hd:Fl d)(c:Fl e)(n:sortD d≠sortD e):ah d e=decide (sortD d<sortD e):=by
 rcases jW hd with⟨x,rfl,_⟩|⟨a,ds,rfl,_⟩ <;> rcases jW c with⟨y,rfl,_⟩|⟨b,f,rfl,_⟩
 ·rw[ah];exact ab n
 ·rw[ah]
  all_goals (intros;simp_all)
 ·rw[ah]
  all_goals (intros;simp_all)
 ·exact absurd rfl n
theorem K1 {f:Addr}{fd:FuncData}(n:Nat)(F:fZ K "_law_ahead" "_law_ahead" dF f fd)(T:Txt mg)(g:cC P w K mg base bA 1 "_law_sort" tI)
  (p:cC P w K mg base bA (n+1) "_law_ahead" (λvs H Q E=>∃m,m<n/\jO m vs H Q E)):bW P w K mg base bA (n+2) f fd fT (jO n):=by
 refine F.ok nG (λvs H Q E h=>?_) (λcdv A outer s H vs Q E O h=>?_)
 ·obtain⟨d,e,v,u,rfl,_⟩:=h;rfl
 ·obtain⟨d,e,v,u,rfl,r1,N,f1,f2,dn,G,q⟩:=h;have C:=O.units
  refine⟨_,(aE (bN (aS (fC C) (aL g (O.mono (by omega)) pass0 rfl (aA (pv 0) aB)) (aL g (O.mono (by omega)) pass0 rfl (aA (pv 1) aB)) (nomark _)) (aG (aP (dX (jA C) (aL g (O.mono (by omega)) pass0 rfl (aA (pv 0) aB)) (aL g (O.mono (by omega)) pass0 rfl (aA (pv 1) aB)) (nomark _)))) aV)
   (aE (bN (cR (a0 K rfl (aK aM rfl T.n_isinstance rfl (aA (pv 0) (aA (bV (v:=V.ty "tuple") rfl T.n_tuple rfl rfl) aB))) (λ_=>rfl))) (aG (aP (dX (jA C) (pv 0) (pv 1) (nomark _)))) aV)
   (aE (bN (aS (fC C) (bQ cU (pv 0) aJ (λ_ _=>rfl)) (bQ cU (pv 1) aJ (λ_ _=>rfl)) (nomark _)) (aG (aP (dX (jA C) (bQ cU (pv 0) aJ (λ_ _=>rfl)) (bQ cU (pv 1) aJ (λ_ _=>rfl)) (nomark _)))) aV)
   (aE (bN (aS (fC C) (aK bM rfl T.n_len rfl (aA (pv 0) aB)) (aK bM rfl T.n_len rfl (aA (pv 1) aB)) (nomark _)) (aG (aP (dX (jA C) (aK bM rfl T.n_len rfl (aA (pv 0) aB)) (aK bM rfl T.n_len rfl (aA (pv 1) aB)) (nomark _)))) aV)
   (aE (eV df rfl (NC rfl T.n_zip (aA (fX kR (pv 0) (fE aJ) gF) (aA (fX kR (pv 1) (fE aJ) gF) aB))) (cJ K rfl (i:=2) (j:=3) rfl nG.nd rfl rfl rfl rfl) (aG (bN (aS (fC C) (pv 2) (pv 3) (nomark _)) (aG (aP (aL p (O.mono (by omega)) pass0 rfl (aA (pv 2) (aA (pv 3) aB))))) aV)))
   (aG (aP lP))))))),?_⟩
  simp only[pO];clear O F T C g p;have keep:=aI q (aI r1 (aI N (aI f1 (aI f2 (aI dn G)))));clear q r1 N f1 f2 dn G
  walk_at "rd"
  obtain⟨q,r1,N,f1,f2,dn,G⟩:=keep;refine⟨d,v,rfl,r1,f1,e,u,rfl,N,f2,?_⟩;dsimp only;rw[rNeD_ii];refine⟨_,rfl,?_⟩;by_cases hs:sortD d=sortD e
  ·rw[hs,ab (by simp)];rcases jW f1 with⟨x,rfl,_⟩|⟨a,ds,rfl,fds⟩
   ·obtain⟨y,rfl,_⟩:∃y,e = .str y/\True:=by
     rcases jW f2 with⟨y,rfl,_⟩|⟨b,B,rfl,_⟩
     ·exact⟨y,rfl,trivial⟩
     ·have:=oR x;have:sortS x=2:=hs;omega
    cases (show v = .str x from r1);cases (show u = .str y from N);refine⟨false,rfl,?_⟩;rw[ai rfl];refine .inl (.inr ⟨x,rfl,y,rfl,?_⟩);have W:ah (.str x) (.str y)=sL x y:=by rw[ah];exact ai hs
    have:=q H (λ_ _ h=>h);rw[W]at this;exact this
   ·obtain⟨b,B,rfl,fes⟩:∃b B,e = .tup (.str b::B)/\Fls B:=by
     rcases jW f2 with⟨y,rfl,_⟩|h
     ·have:=oR y;have:2=sortS y:=hs;omega
     ·exact h
    obtain⟨va,vs,rfl,U,_,t,rfl,h1,Z⟩:=r1;obtain⟨ua,us,rfl,I,_,r,rfl,h2,res⟩:=N;cases h1;cases h2;refine⟨true,zT U,?_⟩;rw[ab (by decide)];refine⟨.str a,by rw[ixV_t U,atI_zero],.str b,by rw[ixV_t I,atI_zero],?_⟩;rw[rNeD_ss];refine⟨_,rfl,?_⟩;by_cases hn:a=b
    ·subst hn;rw[ab (by simp)];refine⟨_,by rw[lenV_t U];rfl,_,by rw[lenV_t I];rfl,?_⟩;rw[rNeD_ii];refine⟨_,rfl,?_⟩;have la:=Reps.len Z;have lb:=Reps.len res;by_cases hl:ds.length=B.length
     ·rw[ab (by simp only[aq,la,lb,hl];simp)];have J:∀(x:V) (l:List V),cutV (x::l) (some 1) none=l:=λx l=>uW (x::l) 1;have nf:∀(x:V) (l:List V),¬(HT.sIx (x::l).length 0 (some 1)=0/\HT.sIx (x::l).length (x::l).length none=(x::l).length):=λx l h=>by have e:=h.1;rw[show((1:Int))=((1:Nat):Int)from rfl,HT.sIx_nat]at e;simp only[aq]at e;omega
      refine⟨va,rfl,_,.inr U,λ_=>nf _ _,λc o hc ho=>⟨ua,rfl,_,.inr (by rw[aC (aF I hc)];exact I),λ_=>nf _ _,λX o2 hc2 ho2=>⟨c,X,⟨rfl,rfl⟩,?_⟩⟩⟩;have hb':upd H c o ua=some (.tup (.str a::r)):=by rw[aC (aF I hc)];exact I
      have eo:o = .tup t:=by
       rcases ho with⟨_,z⟩|⟨z,_⟩
       ·rw[U]at z;cases z
       ·rw[z,J]
      have eo2:o2 = .tup r:=by
       rcases ho2 with⟨_,z⟩|⟨z,_⟩
       ·rw[hb']at z;cases z
       ·rw[z,J]
      subst eo eo2;have s2:aH H (upd (upd H c (.tup t)) X (.tup r)):=(aH.upd hc).trans (aH.upd hc2);have g1:upd (upd H c (.tup t)) X (.tup r) c=some (.tup t):=by rw[aC (aF upd_same hc2)];exact upd_same
      have g2:upd (upd H c (.tup t)) X (.tup r) X=some (.tup r):=upd_same;generalize upd (upd H c (.tup t)) X (.tup r)=H2 at s2 g1 g2⊢;have W:ah (.tup (.str a::ds)) (.tup (.str a::B))=ahs ds B:=by rw[ah,ai rfl,ai hl]
      rw[W]at q;have dd:depDs ds+1<=n/\depDs ds+1<=50:=by rw[depD,depDs,show depD (.str a)=0 from rfl]at dn G;omega
      refine⟨⟨_,.inr g1⟩,⟨_,.inr g2⟩,IH t r (ZI va ua ds B H2) ⟨none,none,rfl,λ_ _ h=>h,by simp⟩ (λi σ H3 _ ⟨_,_,_,L,_⟩=>⟨.inr (L _ _ g1),.inr (L _ _ g2)⟩) ?_ ?_⟩
      ·rintro i x y T σ H3 hx hy ⟨o2,o3,rfl,L,R⟩ hT;have s4:=(s2.trans L).trans (aH.upd (o:=.tup [x,y]) hT);obtain⟨di,S,rdi⟩:=Reps.get (Reps.same s4 Z) hx;obtain⟨ei,hei,Y⟩:=Reps.get (Reps.same s4 res) hy;have ddi:=jC S;refine⟨T,_,rfl,iE.of upd_same,rfl,_,_,rfl,_,_,rfl,rfl,_,rfl,_,rfl,di,ei,rdi,Y,by omega,_,rfl,?_⟩;rw[B3 S,B3 hei,ahs]at R;by_cases z:eqD di ei=true
       ·rw[z,ab (by decide)];rw[ai z]at R;exact⟨_,_,rfl,L.trans (aH.upd hT),R⟩
       ·have z':eqD di ei=false:=by simpa using z
        rw[z',ai (by decide)];rw[ab z]at R;refine⟨_,rfl,_,rfl,n - 1,by omega,di,ei,x,y,rfl,rdi,Y,fds.get S,fes.get hei,by omega,by omega,λH5 s5=>?_⟩;have:=q H5 (s4.trans s5);rw[R]at this;exact this
      ·rintro σ H3 ⟨o2,o3,rfl,L,R⟩;have:ahs ds B=false:=by rw[R,List.drop_eq_nil_of_le (by rw[la,lb,hl];simp)];rfl
       rw[this]at q;exact q H3 (s2.trans L)
     ·rw[ai (by simp only[aq,la,lb];simp;omega)];refine⟨_,by rw[lenV_t U];rfl,_,by rw[lenV_t I];rfl,.inl (.inl ⟨_,rfl,_,rfl,?_⟩)⟩;have W:ah (.tup (.str a::ds)) (.tup (.str a::B))=decide (ds.length<B.length):=by rw[ah,ai rfl,ab hl]
      have:=q H (λ_ _ h=>h);rw[W]at this;simp only[aq,la,lb];have e2:(decide (((ds.length+1:Nat):Int)<((B.length+1:Nat):Int)))=decide (ds.length<B.length):=by
       by_cases z:ds.length<B.length
       ·rw[bg z,bg (by omega)]
       ·rw[bi z,bi (by omega)]
      rw[e2];exact this
    ·rw[ai (by simpa using hn)];refine⟨.str a,by rw[ixV_t U,atI_zero],.str b,by rw[ixV_t I,atI_zero],.inl (.inr ⟨a,rfl,b,rfl,?_⟩)⟩;have W:ah (.tup (.str a::ds)) (.tup (.str b::B))=sL a b:=by rw[ah,ab hn]
     have:=q H (λ_ _ h=>h);rw[W]at this;exact this
  ·rw[ai (by simp;omega)];refine⟨d,v,rfl,r1,f1,e,u,rfl,N,f2,.inl (.inl ⟨_,rfl,_,rfl,?_⟩)⟩;have:=q H (λ_ _ h=>h);rw[O5 f1 f2 hs]at this;have e2:(decide (((sortD d:Nat):Int)<((sortD e:Nat):Int)))=decide (sortD d<sortD e):=by
    by_cases z:sortD d<sortD e
    ·rw[bg z,bg (by omega)]
    ·rw[bi z,bi (by omega)]
   rw[e2];exact this
theorem LO {f:Addr}{b:FuncData}(F:fZ K "_law_ahead" "_law_ahead" dF f b)(T:Txt mg)(a:cC P w K mg base bA 1 "_law_sort" tI)
  (j:mg "_law_ahead" = some (.ref f)) (l:PySem.W.keepIn K (.ref f)=true) (c:gA K b fT []):∀n,bW P w K mg base bA (n+2) f b fT (jO n):=by
 intro n
 induction n using Nat.strongRecOn with
 | ind n e =>
  exact K1 n F T a ⟨f,b,_,⟨λvs H Q E ⟨m,d,h⟩=>(e m d).len vs H Q E h,λA outer s H args us vs Q E i o c g ⟨m,d,h⟩=>((e m d).mono (by omega)).run A outer s H args us vs Q E i o c g h⟩,j,l,c⟩
theorem G7 {f:Addr}{b:FuncData}(F:fZ K "_law_ahead" "_law_ahead" dF f b)(T:Txt mg)(a:cC P w K mg base bA 1 "_law_sort" tI)
  (c:mg "_law_ahead" = some (.ref f)) (d:PySem.W.keepIn K (.ref f)=true) (e:gA K b fT []) (n:Nat):cC P w K mg base bA (n+2) "_law_ahead" (jO n):=⟨f,b,_,LO F T a c d e n,c,d,e⟩
end
section
variable {P:Program}{w:World}{K:PySem.W.Frag}{mg:fR}{base:Heap}
noncomputable def opn1 (n z:Str)(d:D):List D:=match d with
 | .tup (.str m::a)=>if m=n then a else [d]
 | d=>if eqD d (.str z)=true then []else [d]
noncomputable def opn (n z:Str)(ds:List D):List D:=ds.flatMap (opn1 n z)
theorem iG (n z:Str)(ds:List D)(d:D):opn n z (ds++[d])=opn n z ds++opn1 n z d:=by simp[opn]
theorem Reps.app {H:Hp}:∀{ds c:List D} {vs us:List V},Reps H ds vs->Reps H c us->Reps H (ds++c) (vs++us)
 | [],_,_,_,h,k=>by cases h;exact k
 | _::_,_,_,_,⟨x,r,e,a,b⟩,k=>by subst e;exact⟨x,_,rfl,a,Reps.app b k⟩
def lU:Sp:=λvs H Q _=>∃(n z:Str) (a:Addr) (ds:List D) (ws:List V),vs=[.str n,.str z,.ref a]/\H a=some (.lst ws)/\Reps H ds ws/\Fls ds/\(∀i,(opn n z (ds.take i)).length<=100)/\depDs ds<=50 /\
 ∀(l:Addr) (us:List V) (H':Hp),aH H H'->H l=none->H' l=some (.lst us)->Reps H (opn n z ds) us->Q (.ref l) H'
def OI (n z:Str)(a:Addr)(ds:List D)(H:Hp)(i:Nat)(σ:St)(b:Hp):Prop:=∃(c:Option V) (l:Addr) (us:List V),σ=[some (.str n),some (.str z),some (.ref a),some (.ref l),c]/\aH H b/\H l=none/\b l=some (.lst us)/\Reps H (opn n z (ds.take i)) us
theorem HA {f:Addr}{N:FuncData}(F:fZ K "_law_opened" "_law_opened" d5 f N)(T:Txt mg):bW P w K mg base bA 1 f N j8 lU:=by
 refine F.ok gW (λvs H Q E h=>?_) (λcdv A outer s H vs Q E hr h=>?_)
 ·obtain⟨n,z,a,ds,ws,rfl,_⟩:=h;rfl
 ·obtain⟨n,z,a,ds,ws,rfl,W,t,L,j,O,q⟩:=h;have hu:=hr.units
  refine⟨_,(aE (aU (i:=3) gW.nd rfl (Or.inl rfl) (bR aB))
   (aE (eV df rfl (dQ K rfl (pv 2)) (bO (i:=4) gW.nd rfl (Or.inl rfl)) (aG (bN (PW.pt (tU (a0 K rfl (aK aM rfl T.n_isinstance rfl (aA (pv 4) (aA (bV (v:=V.ty "tuple") rfl T.n_tuple rfl rfl) aB))) (λ_=>rfl)) (oW (aS (d9 hu) (bQ cU (pv 4) aJ (λ_ _=>rfl)) (pv 0) (nomark _))))) (aG (aU (i:=3) gW.nd rfl (Or.inl rfl) (bP bJ (pv 3) (bH uZ rfl T.n_list rfl (aA (fX kR (pv 4) (fE aJ) gF) aB))))) (aG (bN (aS (fC hu) (pv 4) (pv 1) (nomark _)) (aG (cN (iT db de dc eF (pv 3) (aA (pv 4) aB)))) aV)))))
   (aG (aP (pv 3))))),?_⟩
  simp only[nQ];clear hr F T hu;have keep:=aI q (aI t (aI L (aI j O)));clear q t L j O
  walk_at "rd"
  obtain⟨q,t,L,j,O⟩:=keep;refine⟨av _,λl hl=>⟨ws,.inl (by rw[aC (aF W hl)];exact W),λJ hJ=>?_⟩⟩;have la:=Reps.len t;refine lA hJ (OI n z a ds H) ⟨none,l,[],rfl,aH.upd hl,hl,upd_same,rfl⟩ (by rintro i σ H' _ ⟨_,_,_,_,B,_⟩;rw[B _ _ W,aC (aF W hl),W]) ?_ ?_
  ·rintro i x σ G hx ⟨o4,l,us,rfl,B,nl,r,p⟩;obtain⟨d,hd,I⟩:=Reps.get t hx;have N:=L.get hd;have key:=j (i+1);rw[aW hd,iG,ar]at key;have lu:=Reps.len p;have app:∀Z,aH G Z->Z l=some (.lst us)->(opn1 n z d=[d])->OI n z a ds H (i+1) [some (.str n),some (.str z),some (.ref a),some (.ref l),some x] (upd Z l (.lst (us++[x]))):=λZ s2 hl2 C=>by refine⟨_,l,us++[x],rfl,λb o e=>?_,nl,upd_same,by rw[aW hd,iG,C];exact Reps.app p ⟨x,[],rfl,I,rfl⟩⟩;rw[aC (λw=>by rw[w,nl]at e;cases e)];exact s2 _ _ (B _ _ e)
   have keep:=aI B (aI nl (aI p (aI I (aI N (aI key (aI app (aI lu (aI t (aI L (aI j (aI q (aI hd hx))))))))))));clear B nl p I N key app lu t L j q hd hx la hJ
   walk_at "rd"
   obtain⟨B,nl,p,I,N,key,app,lu,t,L,j,q,hd,hx⟩:=keep;have rd1:=bD.same B I;have ddi:=jC hd;rcases jW N with⟨y,rfl,_⟩|⟨m,X,rfl,fes⟩
   ·cases (show x = .str y from I);refine⟨false,rfl,?_⟩;rw[ab (by decide),rNeD_ss];refine⟨_,rfl,?_⟩;by_cases e:y=z
    ·rw[ab (by simpa using e)];have C:opn1 n z (.str y)=[]:=show(if eqD (.str y) (.str z)=true then []else [D.str y])=[]from ai (by show(y == z)=true;simpa using e);exact⟨_,l,us,rfl,B,nl,r,by rw[aW hd,iG,C,bj];exact p⟩
    ·rw[ai (by simpa using e)];have C:opn1 n z (.str y)=[.str y]:=show(if eqD (.str y) (.str z)=true then []else [D.str y])=[.str y]from ab (by show ¬(y == z)=true;simpa using e);exact⟨tyL r,us,r,aj (m:=100) (by omega) (by decide),app G (λ_ _ h=>h) r C⟩
   ·obtain⟨va,vs,rfl,u,_,g,rfl,h1,res⟩:=rd1;cases h1;refine⟨true,zT u,?_⟩;rw[ai rfl];refine⟨.str m,by rw[ixV_t u,atI_zero],?_⟩;rw[rEqD_ss];refine⟨_,rfl,?_⟩;by_cases e:m=n
    ·rw[ai (by simpa using e)];have C:opn1 n z (.tup (.str m::X))=X:=by unfold opn1;exact ai e
     rw[C]at key;have Y:∀(x:V) (l:List V),cutV (x::l) (some 1) none=l:=λx l=>uW (x::l) 1;have nf:¬(HT.sIx (V.str m::g).length 0 (some 1)=0/\HT.sIx (V.str m::g).length (V.str m::g).length none=(V.str m::g).length):=λh=>by have e:=h.1;rw[show((1:Int))=((1:Nat):Int)from rfl,HT.sIx_nat]at e;simp only[aq]at e;omega
     refine⟨va,rfl,_,.inr u,λ_=>nf,λc o hc ho=>?_⟩;have eo:o = .tup g:=by
      rcases ho with⟨_,w⟩|⟨w,_⟩
      ·rw[u]at w;cases w
      ·rw[w,Y]
     subst eo;refine⟨g,by rw[seqV_t upd_same],λc2 hc2=>?_⟩;have s2:aH G (upd (upd G c (.tup g)) c2 (.lst g)):=(aH.upd hc).trans (aH.upd hc2);have g2:upd (upd G c (.tup g)) c2 (.lst g) c2=some (.lst g):=upd_same;generalize upd (upd G c (.tup g)) c2 (.lst g)=Z at s2 g2⊢;have lv:=Reps.len res;refine⟨.lst (us++g),?_,λc3 U=>⟨_,c3,us++g,rfl,(B.trans s2).trans (aH.upd U),?_,upd_same,?_⟩⟩
     ·simp only[catO,s2 _ _ r,g2];exact ai (ao (m:=100) (by omega) (by decide))
     ·cases e:H c3 with
      | none=>rfl
      | some w=>have:=(B.trans s2) _ _ e;rw[U]at this;cases this
     ·rw[aW hd,iG,C];obtain⟨va',vs2,e2,S,v0,vs3,e3,e4,R⟩:=I;cases e2;rw[B _ _ S]at u;cases u;cases e3;exact Reps.app p R
    ·rw[ab (by simpa using e)];have C:opn1 n z (.tup (.str m::X))=[.tup (.str m::X)]:=by unfold opn1;exact ab e
     refine⟨.tup (.str m::X),.str z,⟨va,_,rfl,u,_,_,rfl,rfl,res⟩,rfl,by omega,_,rfl,?_⟩;rw[ai (by rfl)];exact⟨tyL r,us,r,aj (m:=100) (by omega) (by decide),app G (λ_ _ h=>h) r C⟩
  ·rintro σ G ⟨o4,l,us,rfl,B,nl,r,p⟩;rw[la,br]at p;exact⟨_,rfl,q l us G B nl r p⟩
end
section
variable {P:Program}{w:World}{K:PySem.W.Frag}{mg:fR}{base:Heap}
theorem IsTms.get {c:cT}{sm:bU}{os:aQ}:∀{ds:List D} {i:Nat} {d:D},IsTms c sm os ds->ds[i]?=some d->bT c sm os d
 | [],_,_,_,z=>by simp at z
 | _::_,0,_,⟨a,_⟩,h=>by simp at h;subst h;exact a
 | _::_,i+1,_,⟨_,b⟩,h=>IsTms.get b (by simpa using h)
theorem JR {a:cT}{sm:bU}{os:aQ}{d:D}(h:bT a sm os d):(∃x,d = .str x/\(x∈os∨x∈zeros a))∨∃n ds,(d = .tup (.str n::ds)∨d = .lst (.str n::ds))/\ER a sm n ds.length/\IsTms a sm os ds:=by
 unfold bT at h;split at h
 ·exact .inl ⟨_,rfl,h⟩
 ·exact .inr ⟨_,_,.inl rfl,h⟩
 ·exact .inr ⟨_,_,.inr rfl,h⟩
 ·exact absurd h id
theorem qU {a:cT}{sm:bU}{n:Str}{k:Nat}(h:ER a sm n k):1<=k:=by rcases h with⟨h,_⟩|⟨h,_⟩ <;> omega
theorem nZ {H:Hp}{a:Addr}{xs:List V}(h:H a=some (.tup xs)):isV H (.ref a) (.ty "str")=some false:=by unfold isV tyN;simp only[h];rfl
theorem uL {H:Hp}{a:Addr}{xs:List V}(h:H a=some (.lst xs)):isV H (.ref a) (.ty "str")=some false:=by unfold isV tyN;simp only[h];rfl
theorem FK:∀{ds:List D} {i:Nat} {d:D},ds[i]?=some d->lvs d<=lvss ds
 | [],_,_,h=>by simp at h
 | e::ds,0,_,h=>by simp at h;subst h;rw[lvss];omega
 | e::ds,i+1,_,h=>by have:=FK (ds:=ds) (i:=i) (by simpa using h);rw[lvss];omega
mutual
theorem CY {a:cT}{sm:bU}{os:aQ}:∀{d:D},bT a sm os d->1<=lvs d
 | .str x,_=>by rw[lvs] <;> simp
 | .tup (.str n::ds),h=>by
  unfold bT at h;have:=oJ h.2;have:=qU h.1;rw[lvs];omega
 | .lst (.str n::ds),h=>by
  unfold bT at h;have:=oJ h.2;have:=qU h.1;rw[lvs];omega
 | .non,h=>by unfold bT at h;exact absurd h id
 | .bl _,h=>by unfold bT at h;exact absurd h id
 | .int _,h=>by unfold bT at h;exact absurd h id
 | .tup [],h=>by unfold bT at h;exact absurd h id
 | .lst [],h=>by unfold bT at h;exact absurd h id
 | .tup (.non::_),h=>by unfold bT at h;exact absurd h id
 | .tup (.bl _::_),h=>by unfold bT at h;exact absurd h id
 | .tup (.int _::_),h=>by unfold bT at h;exact absurd h id
 | .tup (.tup _::_),h=>by unfold bT at h;exact absurd h id
 | .tup (.lst _::_),h=>by unfold bT at h;exact absurd h id
 | .lst (.non::_),h=>by unfold bT at h;exact absurd h id
 | .lst (.bl _::_),h=>by unfold bT at h;exact absurd h id
 | .lst (.int _::_),h=>by unfold bT at h;exact absurd h id
 | .lst (.tup _::_),h=>by unfold bT at h;exact absurd h id
 | .lst (.lst _::_),h=>by unfold bT at h;exact absurd h id
theorem oJ {c:cT}{sm:bU}{os:aQ}:∀{ds:List D},IsTms c sm os ds->ds.length<=lvss ds
 | [],_=>av _
 | d::ds,⟨a,b⟩=>by have f:=CY a;have e:=oJ b;rw[lvss,aq];omega
end
end
mutual
theorem LV:∀{d e:D},Fl d->Fl e->eqD d e=true->d=e
 | .str x,.str y,_,_,h=>by
  have h:(x == y)=true:=h;rw[eq_of_beq h]
 | .tup (.str n::ds),.tup (.str m::c),b,a,h=>by
  have h:((n == m) && eqDs ds c)=true:=h;rw[Bool.and_eq_true]at h;unfold Fl at b a;rw[eq_of_beq h.1,LS b a h.2]
 | .str _,.tup (.str _::_),_,_,h=>by cases (show false=true from h)
 | .tup (.str _::_),.str _,_,_,h=>by cases (show false=true from h)
theorem LS:∀{ds c:List D},Fls ds->Fls c->eqDs ds c=true->ds=c
 | [],[],_,_,_=>rfl
 | d::ds,e::c,⟨a,b⟩,⟨g,f⟩,h=>by
  rw[eqDs,Bool.and_eq_true]at h;rw[LV a g h.1,LS b f h.2]
 | [],_::_,_,_,h=>by cases (show false=true from h)
 | _::_,[],_,_,h=>by cases (show false=true from h)
end
theorem RN {d e:D}(b:Fl d)(a:Fl e)(h:key d=key e):d=e:=LV b a (OM b a h)
def leK (d e:D):Prop:=lexK (key e) (key d)=false
theorem K9 {d e:D}(f:Fl d)(c:Fl e)(b:leK d e)(a:leK e d):d=e:=by
 by_cases k:key d=key e
 ·exact RN f c k
 ·rcases uI k with h|h
  ·rw[a]at h;cases h
  ·rw[b]at h;cases h
theorem uH:∀{a b c:List M},lexK a b=false->lexK b c=false->lexK a c=false:=by
 have d:∀{a b c:M},ltM a b=true->ltM b c=true->ltM a c=true:=by
  rintro⟨u,j,B⟩ ⟨s,r,A⟩ ⟨q,i,w⟩ h k;unfold ltM at h k⊢;dsimp only at h k⊢;by_cases f:u=s
  ·subst f;rw[ai rfl]at h;by_cases e:u=q
   ·subst e;rw[ai rfl]at k⊢;by_cases f1:j=r
    ·subst f1;rw[ai rfl]at h;by_cases f2:j=i
     ·subst f2;rw[ai rfl]at k⊢;have:=bp h;have:=bp k;exact bg (p:=_) (by omega)
     ·rw[ab f2]at k⊢;exact k
    ·rw[ab f1]at h;by_cases f2:r=i
     ·subst f2;rw[ab f1];exact h
     ·rw[ab f2]at k;have t:sL j i=true:=bg (List.lt_trans (bp h) (bp k));by_cases f3:j=i
      ·subst f3;rw[QP]at t;cases t
      ·rw[ab f3];exact t
   ·rw[ab e]at k⊢;exact k
  ·rw[ab f]at h;have h:=bp h;by_cases e:s=q
   ·subst e;rw[ab f];exact bg h
   ·rw[ab e]at k;have k:=bp k;rw[ab (by omega)];exact bg (p:=_) (by omega)
 intro a
 induction a with
 | nil =>
  intro b c h k;cases b with
  | nil=>exact k
  | cons y b=>cases h
 | cons x a v =>
  intro b c h k;cases c with
  | nil=>rfl
  | cons z c =>
   cases b with
   | nil=>cases k
   | cons y b =>
    rw[lexK]at h k⊢;by_cases f:x=y
    ·subst f;rw[ai rfl]at h;by_cases e:x=z
     ·rw[ai e]at k⊢;exact v h k
     ·rw[ab e]at k⊢;exact k
    ·rw[ab f]at h;have m:ltM y x=true:=(qK f).resolve_left (by rw[h];decide);by_cases e:y=z
     ·subst e;rw[ab f];exact h
     ·rw[ab e]at k;have l:ltM z y=true:=(qK e).resolve_left (by rw[k];decide);have g:=d l m;by_cases o:x=z
      ·subst o;have:=uE g;rw[g]at this;cases this
      ·rw[ab o];exact uE g
theorem HV {a b c:D}(h:leK a b)(k:leK b c):leK a c:=uH k h
theorem tO:∀{l m:List D},(∀d∈l,Fl d)->l.Perm m->l.Pairwise leK->m.Pairwise leK->l=m
 | [],m,_,p,_,_=>(List.nil_perm.mp p).symm
 | a::l,[],_,p,_,_=>absurd (List.perm_nil.mp p) (by simp)
 | a::l,b::m,f,p,s,t=>by
  have o:∀d∈b::m,Fl d:=λd hd=>f d (p.mem_iff.mpr hd);obtain⟨g,s2⟩:=List.pairwise_cons.mp s;obtain⟨t1,c⟩:=List.pairwise_cons.mp t;have e:a=b:=by
   have j:a∈b::m:=p.mem_iff.mp aw;have i:b∈a::l:=p.mem_iff.mpr aw;obtain h|h:=cr.mp j
   ·exact h
   ·obtain k|k:=cr.mp i
    ·exact k.symm
    ·exact K9 (f a aw) (o b aw) (g b k) (t1 a h)
  subst e;rw[tO (λd hd=>f d (az _ hd)) (List.perm_cons a |>.mp p) s2 c]
noncomputable def insA (d:D):List D->List D
 | []=>[d]
 | e::l=>if ah d e=true then d::e::l else e::insA d l
theorem nB (d:D):∀l:List D,(insA d l).Perm (d::l)
 | []=>.refl _
 | e::l=>by
  unfold insA;by_cases h:ah d e=true
  ·rw[ai h]
  ·rw[ab h];exact((nB d l).cons e).trans (.swap d e l)
theorem RX {d e:D}(b:Fl d)(a:Fl e):ah d e=true->lexK (key d) (key e)=true∨d=e:=λh=>by
 rw[uJ b a,h];cases q:eqD d e with
 | false=>exact .inl rfl
 | true=>exact .inr (LV b a q)
theorem rO {d:D}(b:Fl d):∀{l:List D},(∀e∈l,Fl e)->l.Pairwise leK->(insA d l).Pairwise leK
 | [],_,_=>List.pairwise_singleton _ _
 | e::l,f,s=>by
  obtain⟨c,s2⟩:=List.pairwise_cons.mp s;have g:=f e aw;unfold insA;by_cases h:ah d e=true
  ·rw[ai h];have i:leK d e:=by
    rcases RX b g h with q|q
    ·exact qM q
    ·subst q;exact pD _
   refine List.pairwise_cons.mpr ⟨λx a=>?_,s⟩;obtain k|k:=cr.mp a
   ·subst k;exact i
   ·exact HV i (c x k)
  ·rw[ab h];have m:leK e d:=by
    have:lexK (key d) (key e)=false:=by rw[uJ b g];simp[h]
    exact this
   refine List.pairwise_cons.mpr ⟨λx a=>?_,rO b (λy j=>f y (az _ j)) s2⟩;rcases cr.mp ((nB d l).mem_iff.mp a)with k|k
   ·subst k;exact m
   ·exact c x k
end Lw
namespace L2
open PySem PySem.Spec PyProof.Rows
theorem GT {ks:List (Option Expr)}{vs a:lR}{p:Pos}{env:Env}:starEach (.Dict ks vs p::a) env=(false,eval (.Dict ks vs p) env)::starEach a env:=by rw[starEach];exact λ_ _ z=>nomatch z
theorem NJ {X:Cx}{a:lR}{p:Pos}{t:TA}(h:PA X a t):PA X (.Dict [] [] p::a) (tCons JS t):=aA oZ h GT
theorem zI:typeLookup (.type "list") "keys" = pure none:=am_miss_of_fast (by decide +kernel)
theorem zO {P:Program}{w:World}{A:Around}{E:cE}{s:Shared}{a:Addr}{xs:jK}{k:Nat}{d:Array (Option Value)}{Q:Option Value->Shared->Prop}
  (c:s.heap.get? a=some {cls:=.type "list",dict:=none,data:=.seq xs k,slots:=d}) (calm:A.handled=none)
  (q:∀h' tk,(∀b f,s.heap.get? b=some f->h'.get? b=some f)->Q none {s with heap:=h',toks:=tk}) :
  wpAny (model P w) A (getAttr? (.ref a) "keys") Q E s:=by
 rcases s with⟨h,i,j,tk,os⟩;have ty:∀t,(⟨h,i,j,t,os⟩:Shared).TypeIs (.ref a) "list":=λ_=>⟨_,c,rfl⟩
 have v:=F.slot_list_getattribute.lookup;have u:=F.slot_list_getattribute.bind (.ref a);have r:=am_list_getattr_none;have p:=sub_AttributeError;rw[getAttr?];unfold getAttrBy? getAttrBy
 repeat (any_goals (first|assumption|exact ty _|((with_reducible show wpAny _ _ (call (Value.builtin "list.__getattribute__") _ _) _ _ _);refine call_meets F.slot_list_getattribute (ty _) am_entry_list_getattribute (F.args_list_getattribute_2 _ _) (meets_getattribute_miss_list a xs k d "keys" _ zI (by decide) (by decide)) ⟨c,calm,λh' g e n=>?_⟩)|wp_step))
 obtain⟨o,m,l⟩:=n.there;dsimp only[wants];unfold getattributeRaised
 wp_walk
 exact q _ _ n.keeps
section
variable {P:Program}{w:World}{K:Type}[DecidableEq K]{knd:KeyKind P w K}
noncomputable def AJ (knd:KeyKind P w K)(h:Heap)(d it:Addr)(x:Value)(a:K×Value):Prop :=
 ∃(q:Addr) (o:Obj) (key:Value) (n:Nat),x = .ref q/\q≠d/\q≠it/\h.get? q=some o/\(o.cls = .type "list"∨o.cls = .type "tuple")/\o.data = .seq #[key,a.2] n/\knd.is a.1 key=true
theorem AJ.mono {h h':Heap}{d it:Addr}{x:Value}{a:K×Value}(p:AJ knd h d it x a)(k:∀b o,b≠d->b≠it->h.get? b=some o->h'.get? b=some o):AJ knd h' d it x a:=by obtain⟨q,o,key,n,i,e,c,g,f⟩:=p;exact⟨q,o,key,n,i,e,c,k q o e c g,f⟩
inductive PY (knd:KeyKind P w K)(h:Heap)(d it:Addr):bX->List (K×Value)->Prop
 | nil:PY knd h d it [] []
 | cons {x:Value} {xs:bX} {kv:K×Value} {more:List (K×Value)}:AJ knd h d it x kv->PY knd h d it xs more->PY knd h d it (x::xs) (kv::more)
theorem PY.mono {h h':Heap}{d it:Addr}(k:∀b o,b≠d->b≠it->h.get? b=some o->h'.get? b=some o){xs:bX}{more:List (K×Value)}(r:PY knd h d it xs more):PY knd h' d it xs more:=by
 induction r with
 | nil=>exact .nil
 | cons p r a=>exact .cons (p.mono k) a
theorem m6:plainId "dict.update.loop" = true:=by decide +kernel
theorem xJ:entryFor table "dict.update.loop" = some Builtin.«dict.update.loop»:=entryFor_of_fast (by kernel_rfl)
theorem vU {A:Around}{E:cE}{s:Shared}{q:Addr}{o:Obj}{n:Nat}{a b:Value}{Q:bX->Shared->Prop}(e:s.heap.get? q=some o)(c:o.cls = .type "list"∨o.cls = .type "tuple")(d:o.data = .seq #[a,b] n)(h:Q [a,b] s) :
  wpAny (model P w) A (Builtin.Dict.pairItems (.ref q)) Q E s:=by
 unfold Builtin.Dict.pairItems;rcases c with c|c
 ·refine aa (wpAny_typeOf (T:="list") ⟨o,e,c⟩ ?_);rw[ai (by decide)];exact aa (wpAny_seqItems e d (al h))
 ·refine aa (wpAny_typeOf (T:="tuple") ⟨o,e,c⟩ ?_);rw[ai (by decide)];exact aa (wpAny_seqItems e d (al h))
theorem JJ {d it l:Addr}{items:jK}(g:it≠d)(E:l≠d)(C:l≠it):∀(m i:Nat),items.size - i=m->∀(A:Around) (R:Result->Shared->Prop) (s:Shared) (a more:List (K×Value)) (tk:Tok),
  A.handled=none->s.heap.IsListIter it l i->s.heap.IsList l items->s.heap.DictOf knd d a->PY knd s.heap d it (items.toList.drop i) more->a.length+more.length<=sizeLine ->
  (∀h' c,h'.DictOf knd d (merged a more)->(∀b o,b≠d->b≠it->s.heap.get? b=some o->h'.get? b=some o)->R (.ok (.ret .none)) {s with heap:=h',toks:=c}) ->
  codeAny (model P w) A (.builtin "dict.update.loop" ⟨[.ref d,.ref it,.int i tk,.none],[]⟩) R s:=by
 intro m
 induction m with
 | zero =>
  intro i Q A R s a more tk H st x hd r hz k;refine codeAny_builtin xJ ?_;rw[Around.under_plainId m6];have F:items[i]?=none:=by simp;omega
  have X:more=[]:=by
   have:items.toList.drop i=[]:=by simp;omega
   rw[this]at r;cases r;rfl
  subst X;unfold Builtin.«dict.update.loop»;dsimp only;refine aa (wpAny_pyNext_list_end H st x F λh' I=>?_);dsimp only;refine aa (m:=Builtin.Dict.addKeywords d []) (al (al ?_));exact k h' s.toks (hd.extBut I g.symm) λb o _ S e=>I b o S e
 | succ m O =>
  intro i Q A R s a more tk H st x hd r hz k;refine codeAny_builtin xJ ?_;rw[Around.under_plainId m6];have j:i<items.size:=by omega
  have F:items[i]?=some items[i]:=by simp[j]
  have Y:items.toList.drop i=items[i]::items.toList.drop (i+1):=by simp[List.drop_eq_getElem_cons,j]
  rw[Y]at r;cases r with
  | cons p rest =>
   rename_i v more;unfold Builtin.«dict.update.loop»;dsimp only;refine aa (wpAny_pyNext_list_item st x F λU z f=>?_);dsimp only;obtain⟨q,o,key,n,eq,L,B,W,cq,dq,N⟩:=p;rw[eq];refine aa (cf (aa (wpAny_tryCatch (vU (s:={s with heap:=U}) ((f.2 q B).trans W) cq dq ?_))));refine cf (wpAny_dictSet_pairs N (hd.sameBut f g.symm) (λT G h=>?_) (by simp at hz;omega));have kept:∀b o,b≠d->b≠it->s.heap.get? b=some o->T.get? b=some o:=λb o u t e=>(h.2 b u).trans ((f.2 b t).trans e);refine al ⟨plainId_quiet m6 _,?_⟩;have Z:((i:Int)+1)=((i+1:Nat):Int):=by push_cast;rfl
   rw[Z];refine O (i+1) (by omega) A R _ (stored a v.1 v.2) more 0 H (z.at λo e=>(h.2 it g).trans e) (x.at λo e=>kept l o E C e) G (rest.mono kept) ?_ λh' c r1 J=>?_
   ·have:=stored_length_le a v.1 v.2;simp at hz;omega
   ·exact k h' c r1 λb o u t e=>J b o u t (kept b o u t e)
noncomputable def R3 (knd:KeyKind P w K)(h:Heap)(x:Value)(a:K×Value):Prop :=
 ∃(q:Addr) (o:Obj) (key:Value) (n:Nat),x = .ref q/\h.get? q=some o/\(o.cls = .type "list"∨o.cls = .type "tuple")/\o.data = .seq #[key,a.2] n/\knd.is a.1 key=true
inductive rV (knd:KeyKind P w K)(h:Heap):bX->List (K×Value)->Prop
 | nil:rV knd h [] []
 | cons {x:Value} {xs:bX} {kv:K×Value} {more:List (K×Value)}:R3 knd h x kv->rV knd h xs more->rV knd h (x::xs) (kv::more)
theorem rV.at {h h':Heap}{d it:Addr}(g:h.get? d=none)(f:h.get? it=none)(k:∀b o,h.get? b=some o->h'.get? b=some o){xs:bX}{more:List (K×Value)}(r:rV knd h xs more):PY knd h' d it xs more:=by
 induction r with
 | nil=>exact .nil
 | cons p r c =>
  obtain⟨q,o,key,n,j,a,i⟩:=p;exact .cons ⟨q,o,key,n,j,λe=>(by rw[e,g]at a;cases a),λe=>(by rw[e,f]at a;cases a),k q o a,i⟩ c
theorem sI {A:Around}{E:cE}{s:Shared}{l:Addr}{items:jK}{n:Nat}{r:Array (Option Value)}{more:List (K×Value)}{Q:cE}
  (a:s.heap.get? l=some {cls:=.type "list",dict:=none,data:=.seq items n,slots:=r}) (calm:A.handled=none) (x:rV knd s.heap items.toList more) (hz:more.length<=sizeLine)
  (q:∀h' tk,h'.DictOf knd s.heap.objs.size (merged [] more)->(∀b o,s.heap.get? b=some o->h'.get? b=some o)->Q (.ref s.heap.objs.size) {s with heap:=h',toks:=tk}) :
  wpAny (model P w) A (call (.type "dict") [.ref l]) Q E s:=by
 refine callType_codes (Q₁:=λv m=>v = .ref s.heap.objs.size/\m={s with heap:=s.heap.push {cls:=.type "dict",data:=.dict #[]} }) F.kt_called_dict (F.kt_typeCall_dict_1 _) F.entry_dict_init (kt_code_dict_new _ ⟨rfl,rfl⟩) ?_;rintro v m ⟨rfl,rfl⟩;have j:(s.heap.push {cls:=.type "dict",data:=.dict #[]}).DictOf knd s.heap.objs.size []:=Heap.DictOf.new s.heap;have f:=af {cls:=.type "dict",data:=.dict #[]} a;have lt:=ba a;refine⟨j.typeIs,F.args_dict_init_2 _ _,?_⟩;unfold Builtin.«dict.__init__» Builtin.Dict.selfAndRest;refine aa (aa (wpAny_notOrdered_dict j.typeIs (al ?_)));unfold Builtin.Dict.updateCommon Builtin.Dict.updateFrom;dsimp only;refine aa (wpAny_typeOf (T:="list") ⟨_,f,rfl⟩ ?_);rw[ai (by decide)];refine aa (zO f calm λi t1 h=>?_);rw[ai (by rfl)];have u:=h _ _ f;refine aa (wpAny_rule (aa (wpAny_pyIter_list (items:=items) ⟨_,u,rfl,_,rfl⟩ (al ⟨plainId_quiet m6 _,?_⟩))));have p:=j.keep h;have c:s.heap.objs.size<i.objs.size:=by obtain⟨o,e,_⟩:=Heap.dictOf_iff.mp p;exact ba e
 have g:∀b o,s.heap.get? b=some o->(i.push {cls:=.type "list_iterator",data:=.fields #[.ref l,.int 0 0]}).get? b=some o:=λb o e=>af _ (h b o (af _ e));refine JJ (it:=i.objs.size) (l:=l) (items:=items) (Nat.ne_of_gt c) (bn lt) (bn (Nat.lt_trans lt c)) _ 0 rfl A.in1 _ _ [] more 0 calm ⟨_,au _ rfl,rfl,rfl⟩ ⟨_,g _ _ a,rfl,_,rfl⟩ (p.push _)
  (rV.at (Heap.get?_none_of_le (ac _)) (Heap.get?_none_of_le (Nat.le_of_lt c)) g x) (by simpa using hz) λh' d r1 t=>?_
 exact⟨rfl,q h' d r1 λb o e=>t b o (bn (ba e)) (bn (Nat.lt_trans (ba e) c)) (g b o e)⟩
end
noncomputable def prV (H:Hp):V->Option (V×V)
 | .ref p=>match H p with
  | some (.lst [a,b])=>some (a,b)
  | some (.tup [a,b])=>some (a,b)
  | _=>none
 | _=>none
theorem A3 {X:Cx}{h:cY}{σ:St}{H:Hp}{s:Shared}(I:aR X h σ H s):∀{ys:List V} {us:bX} {d:List (bE×V)},aY ys us->ys.map (prV H)=d.map (λi=>some (kV i.1,i.2)) ->
  ∃g:List (bE×Value),rV (bK X.prog X.w) s.heap us g/\KV d g
 | [],_,[],r,_=>by cases r;exact⟨[],.nil,.nil⟩
 | [],_,_::_,_,e=>by cases e
 | _::_,_,[],_,e=>by cases e
 | y::ys,_,i::d,r,e=>by
  cases r with
  | @cons _ u _ us z r =>
   rw[bc,bc]at e;injection e with f C;obtain⟨g,c,q⟩:=A3 I r C;cases y with
   | ref p =>
    cases z;unfold prV at f;dsimp only at f;split at f
    ·rename_i a b v;cases f;obtain⟨_,its,n,m,x⟩:=(show bZ X.prog X.w H s.heap p (.lst [_,_])from I.hok p _ v)
     obtain⟨l,j,rfl,r1,t⟩:=vals2 m;exact⟨(i.1,j)::g,.cons ⟨p,_,l,n,rfl,x,.inl rfl,rfl,nL r1⟩ c,.cons ⟨rfl,t⟩ q⟩
    ·rename_i a b v;cases f;obtain⟨_,its,m,o,x,B,n,A⟩:=(show bZ X.prog X.w H s.heap p (.tup [_,_])from I.hok p _ v)
     obtain⟨l,j,rfl,r1,t⟩:=vals2 m;exact⟨(i.1,j)::g,.cons ⟨p,o,l,n,rfl,x,.inr B,A,nL r1⟩ c,.cons ⟨rfl,t⟩ q⟩
    ·cases f
   | _=>cases f
noncomputable def QS:List V->Hp->VK->Prop:=λxs H Q=>∃p ys a,xs=[.ref p]/\H p=some (.lst ys)/\ys.map (prV H)=a.map (λb=>some (kV b.1,b.2))/\∀d,H d=none->Q (.ref d) (upd H d (.dK (iL [] a)))
theorem lE {X:Cx}(hc:X.calm=true):cL X (.type "dict") QS:=by
 intro d s σ H xs us Q I r h;obtain⟨p,ys,a,rfl,j,e,q⟩:=h;obtain⟨u,rfl,f⟩:=vals1 r;cases f;obtain⟨z,its,n,g,l⟩:=(show bZ X.prog X.w H s.heap p (.lst ys)from I.hok p _ j)
 obtain⟨i,c,b⟩:=A3 I g e;have t:a.length=ys.length:=by have:=congrArg List.length e;simpa using this.symm
 have o:a.length=i.length:=b.length;refine sI l (I.ok.hd hc) (by simpa using c) (by omega) λh' tk m kp=>⟨.ref s.heap.objs.size,_,?_,rfl,q _ (I.hok.fresh (ac _))⟩
 have hz:(iL [] a).length<=sizeLine:=by have:=nJ a [];rw[List.length_nil]at this;omega
 exact I.laid (t':=tk) kp (ac _) (EF hz (cw.mpr (Ne.symm (bn I.big))) (b.merge .nil) m)
noncomputable def rDIn (b:Bool):R2:=λx y H Q=>∃a o,y = .ref a/\kN H a x o/\Q (.bl (if b then !o.isSome else o.isSome)) H
theorem DN {X:Cx}(e:X.A.units+64<cLine):jL X (compareOp .NotIn) (rDIn true):=by intro b s σ H x y v u Q I d c h;obtain⟨a,o,rfl,g,q⟩:=h;cases c;exact OZ (aj (bx (by decide) _) e) I g d λi f=>⟨.bl _,H,f,rfl,q⟩
end L2
namespace Lw
open PySem L2
noncomputable def cX (ds:List D):List D:=ds.foldl (λl d=>insA d l) []
noncomputable def zr (sm:bU)(n:Str):Option Str:=(sm.find? λr=>decide (r.1=n)).map (·.2)
noncomputable def one (n z:Str)(l:List D):D:=match l with
 | []=>.str z
 | [d]=>d
 | l=>.tup (.str n::l)
noncomputable def knot (sm:bU)(n:Str)(ps:List D):D:=match zr sm n with
 | none=>.tup (.str n::ps)
 | some z=>one n z (cX (opn n z ps))
mutual
noncomputable def flt (sm:bU):D->D
 | .tup (.str n::ds)=>knot sm n (flts sm ds)
 | .lst (.str n::ds)=>knot sm n (flts sm ds)
 | d=>d
noncomputable def flts (sm:bU):List D->List D
 | []=>[]
 | d::ds=>flt sm d::flts sm ds
end
theorem cS (sm:bU):∀ds:List D,flts sm ds=ds.map (flt sm)
 | []=>rfl
 | d::ds=>by rw[flts,cS sm ds];rfl
theorem rN (ds:List D)(d:D):cX (ds++[d])=insA d (cX ds):=by simp[cX]
theorem xE:∀(ds l:List D),(ds.foldl (λl d=>insA d l) l).Perm (ds++l)
 | [],l=>.refl _
 | d::ds,l=>(xE ds (insA d l)).trans (((nB d l).append_left ds).trans (List.perm_middle))
theorem cI (ds:List D):(cX ds).Perm ds:=by have:=xE ds [];simpa [cX] using this
mutual
noncomputable def sz:D->Nat
 | .tup (_::ds)=>max 1 (szs ds)
 | .lst (_::ds)=>max 1 (szs ds)
 | _=>1
noncomputable def szs:List D->Nat
 | []=>0
 | d::ds=>sz d+szs ds
end
theorem QL:∀d:D,1<=sz d:=by intro d;unfold sz;split <;> omega
theorem kQ:∀ds:List D,ds.length<=szs ds
 | []=>ac _
 | d::ds=>by rw[szs,aq];have:=QL d;have:=kQ ds;omega
theorem yD:∀ds a:List D,szs (ds++a)=szs ds+szs a
 | [],a=>by simp[szs]
 | d::ds,a=>by rw[List.cons_append,szs,yD ds a,szs];omega
theorem JU {l m:List D}(p:l.Perm m):szs l=szs m:=by
 induction p with
 | nil=>rfl
 | cons x _ c=>rw[szs,szs,c]
 | swap x y l=>rw[szs,szs,szs,szs];omega
 | trans _ _ a b=>exact a.trans b
theorem xO:∀ds a:List D,depDs (ds++a)=max (depDs ds) (depDs a)
 | [],a=>by simp[depDs]
 | d::ds,a=>by rw[List.cons_append,depDs,xO ds a,depDs,Nat.max_assoc]
theorem EG {l m:List D}(p:l.Perm m):depDs l=depDs m:=by
 induction p with
 | nil=>rfl
 | cons x _ c=>rw[depDs,depDs,c]
 | swap x y l=>rw[depDs,depDs,depDs,depDs,Nat.max_left_comm]
 | trans _ _ a b=>exact a.trans b
theorem NL (n z:Str)(d:D):szs (opn1 n z d)<=sz d:=by
 unfold opn1;split
 ·split
  ·rw[sz];omega
  ·rw[szs,szs];omega
 ·split
  ·rw[szs];omega
  ·rw[szs,szs];omega
theorem pA (n z:Str)(d:D)(ds:List D):opn n z (d::ds)=opn1 n z d++opn n z ds:=by simp[opn]
theorem tZ (n z:Str):∀ds:List D,szs (opn n z ds)<=szs ds
 | []=>ac _
 | d::ds=>by rw[pA,yD,szs];have:=NL n z d;have:=tZ n z ds;omega
theorem KJ (n z:Str)(d:D):depDs (opn1 n z d)<=depD d:=by
 unfold opn1;split
 ·split
  ·rw[depD,depDs];omega
  ·rw[depDs,depDs];omega
 ·split
  ·rw[depDs];omega
  ·rw[depDs,depDs];omega
theorem zD (n z:Str):∀ds:List D,depDs (opn n z ds)<=depDs ds
 | []=>ac _
 | d::ds=>by rw[pA,xO,depDs];have:=KJ n z d;have:=zD n z ds;omega
theorem Q7 (n z:Str)(l:List D):sz (one n z l)<=max 1 (szs l):=by
 unfold one;split
 ·show sz (.str z)<=_;unfold sz;omega
 ·rw[szs,szs];omega
 ·rw[sz];omega
theorem FP (sm:bU)(n:Str)(ps:List D):sz (knot sm n ps)<=max 1 (szs ps):=by
 unfold knot;split
 ·rw[sz];omega
 ·rename_i z _;have a:=Q7 n z (cX (opn n z ps));rw[JU (cI _)]at a;have b:=tZ n z ps;omega
theorem NT (n z:Str)(l:List D):depD (one n z l)<=depDs l+1:=by
 unfold one;split
 ·show(0:Nat)<=_;omega
 ·rw[depDs,depDs];omega
 ·rw[depD,depDs,show depD (.str n)=0 from rfl];omega
theorem BQ (sm:bU)(n:Str)(ps:List D):depD (knot sm n ps)<=depDs ps+1:=by
 unfold knot;split
 ·rw[depD,depDs,show depD (.str n)=0 from rfl];omega
 ·rename_i z _;have a:=NT n z (cX (opn n z ps));rw[EG (cI _)]at a;have b:=zD n z ps;omega
mutual
theorem LQ (sm:bU):∀d:D,sz (flt sm d)<=sz d
 | .tup (.str n::ds)=>by rw[flt,sz];have:=FP sm n (flts sm ds);have:=pH sm ds;omega
 | .lst (.str n::ds)=>by rw[flt,sz];have:=FP sm n (flts sm ds);have:=pH sm ds;omega
 | .non | .bl _ | .int _ | .str _ | .tup [] | .lst [] | .tup (.non::_) | .tup (.bl _::_) | .tup (.int _::_) | .tup (.tup _::_) | .tup (.lst _::_) | .lst (.non::_) | .lst (.bl _::_) | .lst (.int _::_) | .lst (.tup _::_) | .lst (.lst _::_)=>by unfold flt;exact ac _
theorem pH (sm:bU):∀ds:List D,szs (flts sm ds)<=szs ds
 | []=>ac _
 | d::ds=>by rw[flts,szs,szs];have:=LQ sm d;have:=pH sm ds;omega
end
mutual
theorem sU (sm:bU):∀d:D,depD (flt sm d)<=depD d
 | .tup (.str n::ds)=>by rw[flt,depD,depDs,show depD (.str n)=0 from rfl];have:=BQ sm n (flts sm ds);have:=mG sm ds;omega
 | .lst (.str n::ds)=>by rw[flt,depD,depDs,show depD (.str n)=0 from rfl];have:=BQ sm n (flts sm ds);have:=mG sm ds;omega
 | .non | .bl _ | .int _ | .str _ | .tup [] | .lst [] | .tup (.non::_) | .tup (.bl _::_) | .tup (.int _::_) | .tup (.tup _::_) | .tup (.lst _::_) | .lst (.non::_) | .lst (.bl _::_) | .lst (.int _::_) | .lst (.tup _::_) | .lst (.lst _::_)=>by unfold flt;exact ac _
theorem mG (sm:bU):∀ds:List D,depDs (flts sm ds)<=depDs ds
 | []=>ac _
 | d::ds=>by rw[flts,depDs,depDs];have:=sU sm d;have:=mG sm ds;omega
end
theorem hU:∀{ds:List D},Fls ds->∀d∈ds,Fl d
 | _::_,⟨a,b⟩,d,h=>by
  obtain rfl|h:=cr.mp h
  ·exact a
  ·exact hU b d h
theorem jV:∀{ds:List D},(∀d∈ds,Fl d)->Fls ds
 | [],_=>trivial
 | d::ds,h=>⟨h d aw,jV λe k=>h e (az _ k)⟩
theorem NO {n z:Str}{d:D}(h:Fl d):Fls (opn1 n z d):=by
 unfold opn1;split
 ·rename_i m a;have k:Fls a:=by unfold Fl at h;exact h
  split
  ·exact k
  ·exact⟨h,trivial⟩
 ·split
  ·exact trivial
  ·exact⟨h,trivial⟩
theorem zC {n z:Str}{ds:List D}(h:Fls ds):Fls (opn n z ds):=jV λd k=>by obtain⟨e,b,a⟩:=List.mem_flatMap.mp k;exact hU (NO (hU h e b)) d a
mutual
noncomputable def Nb:D->Prop
 | .tup (_::ds)=>ds≠[]/\Nbs ds
 | _=>True
noncomputable def Nbs:List D->Prop
 | []=>True
 | d::ds=>Nb d/\Nbs ds
end
theorem sQ:∀{ds:List D},Nbs ds->∀d∈ds,Nb d
 | _::_,⟨a,b⟩,d,h=>by
  obtain rfl|h:=cr.mp h
  ·exact a
  ·exact sQ b d h
theorem DT:∀{ds:List D},(∀d∈ds,Nb d)->Nbs ds
 | [],_=>trivial
 | d::ds,h=>⟨h d aw,DT λe k=>h e (az _ k)⟩
theorem NN {n z:Str}{d:D}(h:Nb d):Nbs (opn1 n z d):=by
 unfold opn1;split
 ·rename_i m a;have k:Nbs a:=by unfold Nb at h;exact h.2
  split
  ·exact k
  ·exact⟨h,trivial⟩
 ·split
  ·exact trivial
  ·exact⟨h,trivial⟩
theorem Q0 {n z:Str}{ds:List D}(h:Nbs ds):Nbs (opn n z ds):=DT λd k=>by obtain⟨e,b,a⟩:=List.mem_flatMap.mp k;exact sQ (NN (sQ h e b)) d a
theorem Q8 {n z:Str}{l:List D}(h:∀d∈l,Nb d):Nb (one n z l):=by
 unfold one;split
 ·unfold Nb;exact trivial
 ·exact h _ aw
 ·rename_i l a b;unfold Nb;exact⟨a,DT h⟩
theorem FQ {sm:bU}{n:Str}{ps:List D}(h:Nbs ps)(ne:ps≠[]):Nb (knot sm n ps):=by
 unfold knot;split
 ·unfold Nb;exact⟨ne,h⟩
 ·exact Q8 λd k=>sQ (Q0 h) d ((cI _).mem_iff.mp k)
theorem NM {n:Str}{d:D}(f:Fl d)(b:Nb d):opn1 n ("" : Str) d≠[]:=by
 unfold opn1;split
 ·split
  ·unfold Nb at b;exact b.1
  ·exact λz=>nomatch z
 ·split
  ·rename_i e;exfalso;cases d with
   | str x =>
    have e:(x == ("" : Str))=true:=e;have e:=eq_of_beq e;subst e;unfold Fl at f;exact absurd f.1 (by decide)
   | tup xs=>cases e
   | _=>unfold Fl at f;exact f
  ·exact λz=>nomatch z
theorem KH {n:Str}:∀{ps:List D},Fls ps->Nbs ps->ps≠[]->opn n ("" : Str) ps≠[]
 | [],_,_,h=>absurd rfl h
 | d::ps,⟨f,_⟩,⟨b,_⟩,_=>by rw[pA];exact λz=>NM f b (List.append_eq_nil_iff.mp z).1
theorem FR {sm:bU}{n:Str}{ps:List D}(hz:∀r∈sm,r.2=("" : Str)∨Fl (.str r.2))(h:Fls ps)(b:Nbs ps)(ne:ps≠[]):Fl (knot sm n ps):=by
 unfold knot;split
 ·unfold Fl;exact h
 ·rename_i z e;have a:z=("" : Str)∨Fl (.str z):=by unfold zr at e;obtain⟨r,c,rfl⟩:=Option.map_eq_some_iff.mp e;exact hz r (List.mem_of_find?_eq_some c)
  have f1:∀d∈cX (opn n z ps),Fl d:=λd k=>hU (zC h) d ((cI _).mem_iff.mp k);unfold one;split
  ·rename_i f;rcases a with rfl|a
   ·exfalso;have:=(cI (opn n ("" : Str) ps)).length_eq;rw[f]at this;exact KH h b ne (List.length_eq_zero_iff.mp this.symm)
   ·exact a
  ·rename_i e;exact f1 _ (by rw[e];exact aw)
  ·unfold Fl;exact jV f1
end Lw
namespace L2
open PySem PySem.Spec PyProof.Rows
noncomputable def M8:V->List V->Hp->VK->Prop:=λx vs H Q=>∃(l:Addr) (xs:List V) (i:Nat) (y:V),x = .ref l/\vs=[.int i,y]/\H l=some (.lst xs)/\i<=xs.length/\xs.length<1000/\Q .non (upd H l (.lst (xs.take i++y::xs.drop i)))
theorem pT:∀{xs:List V} {us:bX} (i:Nat),aY xs us->aY (xs.take i) (us.take i)/\aY (xs.drop i) (us.drop i)
 | _,_,i,.nil=>by rw[List.take_nil,List.take_nil,List.drop_nil,List.drop_nil];exact⟨.nil,.nil⟩
 | _,_,0,.cons r t=>⟨.nil,.cons r t⟩
 | _,_,i+1,.cons r t=>⟨.cons r (pT i t).1,(pT i t).2⟩
theorem HM {X:Cx}:R5 X "list.insert" M8:=by
 intro c s σ H x vs v us Q I f g h;obtain⟨l,xs,i,y,rfl,rfl,d,C,hz,q⟩:=h;cases f;obtain⟨B,b,rfl,r1,j⟩:=vals2 g;obtain⟨t,rfl⟩:=r1;obtain⟨z,its,n,r,o,e⟩:=I.lstM d;obtain⟨k,hk⟩:∃k:Int,k=(i:Int):=⟨_,rfl⟩
 rw[←hk];have a:¬(!Builtin.List.listFitsIndex k)=true:=by rw[fitsIndex_both (by omega) (by omega)];exact Bool.false_ne_true
 have hsz:its.toArray.size<=sizeLine:=by rw[ag,←o];exact z
 refine call_meets F.slot_list_insert ⟨_,e,rfl⟩ F.entry_list_insert (F.args_list_insert_3 _ _ _) (PySem.AutoSeq1.list_insert_list_int_val_1 l its.toArray n k t b a hsz) ⟨e,?_⟩
 ·obtain⟨A,w⟩:=pT i r;refine⟨.non,_,I.lset (its':=its.take i++b::its.drop i) d e ?_ (A.append (.cons j w)) ?_,rfl,q⟩
  ·have u:¬(k<0):=by omega
   have p:min k.toNat its.toArray.size=i:=by rw[ag,hk,ck];omega
   dsimp only;rw[ab u,p];apply Array.ext';simp;exact List.take_of_length_le (by rw[bu];exact ac _)
  ·rw[ar,aq,bq,bu];exact ao (m:=1000) (by omega) (by decide)
noncomputable def TN (K:PySem.W.Frag)(a:Addr)(xs:List V):It :=
 ⟨λi H=>fQ K H a xs/\i<xs.length,λi H x H'=>H'=H/\xs[xs.length - 1 - i]?=some x,λi H=>fQ K H a xs/\i=xs.length⟩
theorem JO {P:Program}{w:World}{K:PySem.W.Frag}{G:Expr}(a it:Addr)(xs:List V):n9 P w K G (TN K a xs) [it] it (λi h=>h.IsRevIter it a ((xs.length:Int) - 1 - (i:Int))) where
 mem:=by simp
 obj:=λi h st b g=>by
  obtain rfl:b=it:=by simpa using g
  obtain⟨o,e,c,d⟩:=st;exact⟨o,e,λv z=>by rw[d]at z;cases z⟩
 keep:=λi h h' st k=>st.at λo e=>k it (by simp) o e
 item:=by
  intro X r m t hc i f s σ H E I l st q;subst r m t;obtain⟨F,Q⟩:=q;obtain⟨its,L,p,hz⟩:=I.list F;have C:xs[xs.length - 1 - i]?=some xs[xs.length - 1 - i]:=ax (by omega);obtain⟨u,O,N⟩:=L.get C;obtain⟨f0,f1,f2,f3,f4,A⟩:=l it (by simp);have B:(xs.length:Int) - 1 - (i:Int)=((xs.length - 1 - i:Nat):Int):=by omega
  rw[B]at st;refine wpAny_pyNext_rev_item st p.isList (x:=u) (by simpa using O) λh' j J=>?_;have T:aR X f σ H {s with heap:=h'}:=I.turned (t':=s.toks) (λb o g e=>(J.2 b g).trans e) f0 f1 f3 f4 A;obtain⟨o,e,c,d⟩:=id j;refine⟨u,rfl,xF (s:={s with heap:=h'}) e c d (by decide) ⟨_,H,T,N,⟨rfl,C⟩,?_,λb g=>(l b g).1⟩⟩;have S:(xs.length:Int) - 1 - ((i+1:Nat):Int)=((xs.length - 1 - i:Nat):Int) - 1:=by omega
  rw[S];exact j
 done:=by
  intro X r m t hc i f s σ H E I l st q;subst r m t;obtain⟨F,Q⟩:=q;obtain⟨f0,f1,f2,f3,f4,A⟩:=l it (by simp);have B:(xs.length:Int) - 1 - (i:Int) = -1:=by omega
  rw[B]at st;exact wpAny_pyNext_rev_end (I.ok.hd hc) st λh' R=>⟨rfl,I.turned (t':=s.toks) (λb o g e=>R b o g e) f0 f1 f3 f4 A⟩
 self:=λ_ _ _ _ _ st h=>wpAny_pyIter_revIter st h
noncomputable def iRev (K:PySem.W.Frag)(c:TA):TI:=λσ H R=>c σ H λvs b=>∃a xs,vs=[.ref a]/\b a=some (.lst xs)/\R (TN K a xs) b
theorem yZ {X:Cx}{l:Expr}(K:PySem.W.Frag)(C:X.K=K){a:Expr}{j:TA}{p d:Pos}(z:Gl X "reversed")(x:X.mg "reversed" = none)(B:PA X [a] j)(w:starEach [a] X.env=[(false,eval a X.env)]:=by rfl) :
  PI X l (.Call (.Name "reversed" p) [a] [] d) (iRev K j):=by
 subst C;intro f s σ H R I h;refine Call_ (nY I z x boot_reversed (PyProof.Rows.callWith_type1 (thn (B d f s σ H _ I h) λus c ⟨vs,F,i,r1,r⟩=>?_) w rfl));obtain⟨g,xs,e,v,q⟩:=r;subst e;obtain⟨G,rfl,E⟩:=vals1 r1;cases E;obtain⟨its,m,t,u⟩:=i.list (fQ.of v);refine call_reversed_list t.isList ?_
 have st:(c.heap.push (revObj g ((its.toArray.size:Int) - 1))).IsRevIter c.heap.objs.size g ((xs.length:Int) - 1 - ((0:Nat):Int)):=⟨_,au _ rfl,rfl,by
  have e:=m.length;rw[ag,←e]
  simp[revObj]⟩
 refine wpAny_pyIter_revIter (s:={c with heap:=c.heap.push (revObj g ((its.toArray.size:Int) - 1))}) st ?_;refine⟨c.heap.objs.size,[c.heap.objs.size],_,_,F,rfl,i.kept (t':=c.toks) λb o e=>af _ e,JO g _ xs,st,λb A=>?_,q⟩;obtain rfl:b=c.heap.objs.size:=by simpa using A
 exact i.fpOk (ac _) (i.hok.fresh (ac _))
section
variable {g:TG}{tb:TS}{D:iJ}{σ:St}{H:Hp}{K:PySem.W.Frag}
theorem LN {a:Addr}(xs:List V)(Pv:Nat->St->Hp->Prop)(l:Pv 0 σ H)(h:∀i σ H,i<=xs.length->Pv i σ H->H a=some (.lst xs))
  (f:∀i x σ H,i<xs.length->xs[xs.length - 1 - i]?=some x->Pv i σ H->g x σ H λd o=>tb {D with nx:=Pv (i+1),ct:=Pv (i+1),bk:=D.nx} d o) (hd:∀σ H,Pv xs.length σ H->D.nx σ H):rH (TN K a xs) g tb D σ H:=by
 refine⟨λi m σ H=>m=xs.length - i/\i<=xs.length/\Pv i σ H,⟨xs.length,by simp,av _,l⟩,?_⟩;rintro i m σ H ⟨rfl,j,p⟩;have c:=fQ.of (K:=K) (h i σ H j p);by_cases b:i<xs.length
 ·refine .inr ⟨⟨c,b⟩,Pv (i+1),λr H' q=>⟨xs.length - (i+1),by omega,rfl,b,q⟩,λz H' y=>?_⟩;obtain⟨rfl,q⟩:=y;exact f i z σ _ b q p
 ·have e:i=xs.length:=by omega
  subst e;exact .inl ⟨⟨c,rfl⟩,hd σ H p⟩
end
end L2
namespace Lw
open PySem L2
section
variable {P:Program}{w:World}{K:PySem.W.Frag}{mg:fR}{base:Heap}
mutual
/-- a term: leaves that can be told,names with parts -/
noncomputable def Tm:D->Prop
 | .str x=>1<=x.cps.toList.length/\x.cps.toList.length<=20
 | .tup (.str _::ds)=>ds≠[]/\Tms ds
 | .lst (.str _::ds)=>ds≠[]/\Tms ds
 | _=>False
noncomputable def Tms:List D->Prop
 | []=>True
 | d::ds=>Tm d/\Tms ds
end
theorem EZ {d:D}(h:Tm d):(∃x,d = .str x/\1<=x.cps.toList.length/\x.cps.toList.length<=20)∨∃n ds,(d = .tup (.str n::ds)∨d = .lst (.str n::ds))/\ds≠[]/\Tms ds:=by
 unfold Tm at h;split at h
 ·exact .inl ⟨_,rfl,h⟩
 ·exact .inr ⟨_,_,.inl rfl,h⟩
 ·exact .inr ⟨_,_,.inr rfl,h⟩
 ·exact absurd h id
theorem sS {sm:bU}{ds:List D}(h:ds≠[]):flts sm ds≠[]:=by rw[cS];exact λz=>h (List.map_eq_nil_iff.mp z)
mutual
theorem zZ {sm:bU}(hz:∀r∈sm,r.2=("" : Str)∨Fl (.str r.2)):∀{d:D},Tm d->Fl (flt sm d)/\Nb (flt sm d)
 | .tup (.str n::ds),h=>by
  unfold Tm at h;obtain⟨a,b⟩:=lB hz h.2;rw[flt];exact⟨FR hz a b (sS h.1),FQ b (sS h.1)⟩
 | .lst (.str n::ds),h=>by
  unfold Tm at h;obtain⟨a,b⟩:=lB hz h.2;rw[flt];exact⟨FR hz a b (sS h.1),FQ b (sS h.1)⟩
 | .str x,h=>by unfold flt;unfold Tm at h;unfold Fl Nb;exact⟨h,trivial⟩
 | .non,h | .bl _,h | .int _,h | .tup [],h | .lst [],h | .tup (.non::_),h | .tup (.bl _::_),h | .tup (.int _::_),h | .tup (.tup _::_),h | .tup (.lst _::_),h | .lst (.non::_),h | .lst (.bl _::_),h | .lst (.int _::_),h | .lst (.tup _::_),h | .lst (.lst _::_),h=>by unfold Tm at h;exact absurd h id
theorem lB {sm:bU}(hz:∀r∈sm,r.2=("" : Str)∨Fl (.str r.2)):∀{ds:List D},Tms ds->Fls (flts sm ds)/\Nbs (flts sm ds)
 | [],_=>by rw[flts];exact⟨trivial,trivial⟩
 | d::ds,⟨a,b⟩=>by rw[flts];exact⟨⟨(zZ hz a).1,(lB hz b).1⟩,⟨(zZ hz a).2,(lB hz b).2⟩⟩
end
theorem FY {sm:bU}(hz:∀r∈sm,r.2=("" : Str)∨Fl (.str r.2)){ds:List D}(h:Tms ds):Fls (flts sm ds):=(lB hz h).1
theorem wA {a:cT}{sm:bU}(so:cD a sm){x:Str}(h:x∈zeros a):1<=x.cps.toList.length/\x.cps.toList.length<=20:=by unfold zeros at h;obtain⟨r,b,rfl⟩:=cu.mp h;have:=so.nm r.1 (cb _ (List.mem_map_of_mem ((cy.mp b).1)));exact⟨this.1,ao this.2.1 (by decide)⟩
theorem jB {b:cT}{sm:bU}(so:cD b sm):∀r∈sm,r.2=("" : Str)∨Fl (.str r.2):=λr a=>by
 by_cases e:r.2=("" : Str)
 ·exact .inl e
 ·refine .inr ?_;unfold Fl;exact wA so (so.nought r a e)
mutual
theorem wH {f:cT}{sm:bU}{os:aQ}(so:cD f sm)(ho:∀x∈os,cK x):∀{d:D},bT f sm os d->Tm d/\sz d=lvs d
 | .str x,h=>by
  unfold bT at h;refine⟨?_,by unfold sz lvs;rfl⟩;unfold Tm;rcases h with h|h
  ·obtain⟨l,rfl,c,e,_⟩:=ho x h;exact⟨by simp,by simp;omega⟩
  ·exact wA so h
 | .tup (.str n::ds),h=>by
  unfold bT at h;obtain⟨a,b⟩:=tF so ho h.2;have c:=qU h.1;have e:=oJ h.2;refine⟨?_,by rw[sz,lvs,b];omega⟩;unfold Tm;exact⟨λz=>by rw[z]at c;simp at c,a⟩
 | .lst (.str n::ds),h=>by
  unfold bT at h;obtain⟨a,b⟩:=tF so ho h.2;have c:=qU h.1;have e:=oJ h.2;refine⟨?_,by rw[sz,lvs,b];omega⟩;unfold Tm;exact⟨λz=>by rw[z]at c;simp at c,a⟩
 | .non,h | .bl _,h | .int _,h | .tup [],h | .lst [],h | .tup (.non::_),h | .tup (.bl _::_),h | .tup (.int _::_),h | .tup (.tup _::_),h | .tup (.lst _::_),h | .lst (.non::_),h | .lst (.bl _::_),h | .lst (.int _::_),h | .lst (.tup _::_),h | .lst (.lst _::_),h=>by unfold bT at h;exact absurd h id
theorem tF {c:cT}{sm:bU}{os:aQ}(so:cD c sm)(ho:∀x∈os,cK x):∀{ds:List D},IsTms c sm os ds->Tms ds/\szs ds=lvss ds
 | [],_=>⟨trivial,rfl⟩
 | d::ds,⟨a,b⟩=>by obtain⟨h,g⟩:=wH so ho a;obtain⟨f,e⟩:=tF so ho b;exact⟨⟨h,f⟩,by rw[szs,lvss,g,e]⟩
end
theorem Tms.get:∀{ds:List D} {i:Nat} {d:D},Tms ds->ds[i]?=some d->Tm d
 | [],_,_,_,z=>by simp at z
 | _::_,0,_,⟨a,_⟩,h=>by simp at h;subst h;exact a
 | _::_,i+1,_,⟨_,b⟩,h=>Tms.get b (by simpa using h)
theorem E1:∀{ds:List D} {i:Nat} {d:D},ds[i]?=some d->sz d<=szs ds
 | [],_,_,h=>by simp at h
 | e::ds,0,_,h=>by simp at h;subst h;rw[szs];omega
 | e::ds,i+1,_,h=>by have:=E1 (ds:=ds) (i:=i) (by simpa using h);rw[szs];omega
theorem IK (sm:bU)(ds:List D)(d:D):flts sm (ds++[d])=flts sm ds++[flt sm d]:=by rw[cS,cS,ay];rfl
theorem AE (x:V)(xs:List V):cutV (x::xs) (some 1) none=xs:=by unfold cutV HT.sIx;simp
theorem eG.prs {H:Hp}:∀{sm:bU} {sv:List V},eG H sm sv->sv.map (prV H)=(sm.map λr=>((.inr r.1,V.str r.2):bE×V)).map (λa=>some (kV a.1,a.2))
 | [],_,e=>by cases e;rfl
 | r::l,_,⟨t,us,e,h,q⟩=>by subst e;rw[bc,eG.prs q];unfold prV;simp only[h];rfl
theorem nW:∀(more a:List (bE×V)),((a++more).map (·.1)).Nodup->iL a more=a++more
 | [],a,_=>by simp[iL]
 | p::r,a,h=>by
  have e:putK a p.1 p.2=a++[p]:=by unfold putK;rw[ab];intro z;obtain⟨y,c,b⟩:=List.any_eq_true.mp z;rw[ay,bc]at h;exact(List.nodup_append.mp h).2.2 y.1 (List.mem_map_of_mem c) p.1 aw (by simpa using b)
  show iL (putK a p.1 p.2) r=_;rw[e,nW r (a++[p]) (by simpa using h)];simp
theorem BH {sm:bU}(nd:(sm.map (·.1)).Nodup):iL [] (sm.map λr=>((.inr r.1,V.str r.2):bE×V))=sm.map λr=>(.inr r.1,V.str r.2):=by
 rw[nW]
 ·rfl
 ·rw[List.nil_append,ci];exact List.pairwise_map.mpr ((List.pairwise_map.mp nd).imp λh e=>h (Sum.inr.inj e))
theorem sY (n:Str):∀sm:bU,valV (sm.map λr=>((.inr r.1,V.str r.2):bE×V)) (.inr n)=(zr sm n).map V.str
 | []=>rfl
 | r::l=>by
  by_cases e:r.1=n
  ·rw[bc,kC (by rw[e])];simp[zr,e]
  ·rw[bc,kD (λz=>e (by cases z;rfl)),sY n l];simp[zr,e]
def CI (t:Addr)(sm:bU)(ds:List D)(H:Hp)(i:Nat)(a:List V)(σ:St)(b:Hp):Prop:=∃c:Option V,σ=[c,some (.ref t)]/\aH H b/\Reps b (flts sm (ds.take i)) a
theorem P9 {c:TT}{f:TS}{D:iJ}{σ:St}{H:Hp}(Pv:St->Hp->Prop)(μ:St->Hp->Nat)(i:Pv σ H)
  (g:∀σ H,Pv σ H->∀R:Bool->Hp->Prop,(∀H',f {D with nx:=λe d=>Pv e d/\μ e d<μ σ H,ct:=λe d=>Pv e d/\μ e d<μ σ H,bk:=D.nx} σ H'->R true H')->(∀H',D.nx σ H'->R false H')->c σ H R):yC c f D σ H:=by
 refine⟨λm σ H=>m=μ σ H/\Pv σ H,⟨_,rfl,i⟩,?_⟩;rintro m σ H ⟨rfl,p⟩;refine g σ H p _ (λH' h=>?_) (λH' h=>?_)
 ·rw[ai rfl];exact⟨_,λe d ⟨a,b⟩=>⟨_,b,rfl,a⟩,h⟩
 ·rw[ab (by decide)];exact h
mutual
theorem bD.tups {H H':Hp}(s:bG H H'):∀{d:D} {v:V},Fl d->bD H d v->bD H' d v
 | .str x,v,_,h=>h
 | .tup (.str n::ds),v,f,⟨a,vs,e,g,x,r,i,b,c⟩=>⟨a,vs,e,s _ _ g,x,r,i,b,Reps.tups s (by unfold Fl at f;exact f) c⟩
 | .non,_,f,_ | .bl _,_,f,_ | .int _,_,f,_ | .lst _,_,f,_ | .tup [],_,f,_ | .tup (.non::_),_,f,_ | .tup (.bl _::_),_,f,_ | .tup (.int _::_),_,f,_ | .tup (.tup _::_),_,f,_ | .tup (.lst _::_),_,f,_=>by unfold Fl at f;exact absurd f id
theorem Reps.tups {H H':Hp}(s:bG H H'):∀{ds:List D} {vs:List V},Fls ds->Reps H ds vs->Reps H' ds vs
 | [],_,_,h=>h
 | _::_,_,⟨a,b⟩,⟨x,r,e,d,c⟩=>⟨x,r,e,bD.tups s a d,Reps.tups s b c⟩
end
theorem zW {d:D}:∀{l:List D} {k:Nat},k<=l.length->(∀j e,j<k->l[j]?=some e->ah d e=false)->(∀e,l[k]?=some e->ah d e=true)->insA d l=l.take k++d::l.drop k
 | [],k,h,_,_=>by
  have:k=0:=by simpa using h
  subst this;rfl
 | e::l,0,_,_,h=>by
  have:=h e rfl;rw[insA,ai this];rfl
 | e::l,k+1,h,b,c=>by have:=b 0 e (by omega) rfl;rw[insA,ab (by rw[this];decide),zW (l:=l) (k:=k) (by simpa using h) (λj f g a=>b (j+1) f (by omega) (by simpa using a)) (λf a=>c f (by simpa using a))];rfl
theorem AV (i:Nat)(l:List D):szs (l.take i)<=szs l:=by have:=yD (l.take i) (l.drop i);rw[List.take_append_drop]at this;omega
theorem Reps.cut {H:Hp}{d:D}{v:V}(h:bD H d v):∀{ds:List D} {vs:List V} (k:Nat),Reps H ds vs->Reps H (ds.take k++d::ds.drop k) (vs.take k++v::vs.drop k)
 | [],_,k,e=>by cases e;simp;exact⟨v,[],rfl,h,rfl⟩
 | _::_,_,0,r=>⟨v,_,rfl,h,r⟩
 | _::_,_,k+1,⟨x,r,e,b,a⟩=>by subst e;exact⟨x,_,rfl,b,Reps.cut h k a⟩
theorem A9 {n z:Str}:∀{l:List D},1<l.length->one n z l = .tup (.str n::l)
 | [],h=>by simp at h
 | [_],h=>by simp at h
 | _::_::_,_=>rfl
def GI (t c l f b ol:Addr)(os:List D)(us:List V)(h g:Hp)(i:Nat)(σ:St)(a:Hp):Prop:=∃(e d:Option V) (fs:List V),σ=[some (.ref t),some (.ref c),some (.ref l),some (.ref f),some (.ref b),e,d]/\aH h a/\a ol=some (.lst us)/\bG g a/\a b=some (.lst fs)/\Reps a (cX (os.take i)) fs
def WI (t b l d c:Addr)(x:V)(e:D)(a:List D)(h:Hp)(σ:St)(f:Hp):Prop:=∃k:Nat,σ=[some (.ref t),some (.ref b),some (.ref l),some (.ref d),some (.ref c),some x,some (.int k)]/\aH h f/\k<=a.length/\∀j g,j<k->a[j]?=some g->ah e g=false
noncomputable def wMu (n:Nat)(σ:St)(_:Hp):Nat:=match σ[6]? with|some (some (V.int x))=>((n:Int) - x).toNat|_=>0
def qA (n:Nat):Sp:=λvs H Q _=>∃(t a b:Addr) (sm:bU) (sv:List V) (d:D) (v:V),vs=[.ref t,v]/\H t=some (.tup [.ref a,.ref b])/\H b=some (.lst sv)/\eG H sm sv/\(sm.map (·.1)).Nodup/\(∀r∈sm,r.2=("" : Str)∨Fl (.str r.2))/\sm.length<=3/\bD H d v/\Tm d/\depD d<=n/\depD d<=50/\sz d<=64 /\
 ∀(c:V) (H':Hp),aH H H'->bD H' (flt sm d) c->Q c H'
theorem OA {f:Addr}{fd:FuncData}(n:Nat)(F:fZ K "_law_flat" "_law_flat" dJ f fd)(T:Txt mg)(L:cC P w K mg base bA (n+2) "_law_ahead" (jO n))(G:cC P w K mg base bA 1 "_law_opened" lU)
  (Y:cC P w K mg base bA (n+2) "_law_flat" (λvs H Q E=>∃m,m<n/\qA m vs H Q E)):bW P w K mg base bA (n+3) f fd gQ (qA n):=by
 refine F.ok eM (λvs H Q E h=>?_) (λcdv A outer s H vs Q E hr h=>?_)
 ·obtain⟨t,a,b,sm,sv,d,v,rfl,_⟩:=h;rfl
 ·obtain⟨t,a,b,sm,sv,d,v,rfl,ht,hb,rs,nd,fz,s3,rep,tm,dn,d50,s64,q⟩:=h;have hu:=hr.units
  refine⟨_,(aE (bN (a0 K rfl (aK aM rfl T.n_isinstance rfl (aA (pv 1) (aA (bV (v:=V.ty "str") rfl T.n_str rfl rfl) aB))) (λ_=>rfl)) (aG (aP (pv 1))) aV)
   (aE (gE (i:=2) eM.nd rfl rfl rfl rfl (bF.by (N:=mX) (names:=(aD dJ).names) (N':=["_law_part","_law_told"]) (src:=[none,some 0]) (by decide +kernel) rfl rfl) (dQ K rfl (fX kR (pv 1) (fE aJ) gF)) (λ_ _ _ _=>(bO (i:=0) (show List.Nodup (["_law_part","_law_told"]:aQ)by decide +kernel) rfl (Or.inl rfl))) (λ_ _ _ _=>eB) (λ_ _ _ _=>(aL Y (hr.mono (by omega)) pass0 rfl (aA (pv 1) (aA (pv 0) aB)))))
   (aE (aU (i:=3) eM.nd rfl (Or.inl rfl) (bH (lE rfl) rfl T.n_dict rfl (aA (bQ cU (pv 0) aJ (λ_ _=>rfl)) aB)))
   (aE (bN (aS (DN hu) (bQ cU (pv 1) aJ (λ_ _=>rfl)) (pv 3) (by with_unfolding_all rfl)) (aG (aP (bP bJ (fL (aA (bQ cU (pv 1) aJ (λ_ _=>rfl)) aB)) (bH dY rfl T.n_tuple rfl (aA (pv 2) aB))))) aV)
   (aE (aU (i:=4) eM.nd rfl (Or.inl rfl) (bR aB))
   (aE (eV df rfl (dQ K rfl (aL G (hr.mono (by omega)) pass0 rfl (aA (bQ cU (pv 1) aJ (λ_ _=>rfl)) (aA (FE (aj (bx (by decide) _) hu) (pv 3) (bQ cU (pv 1) aJ (λ_ _=>rfl)) (λ_ _=>rfl)) (aA (pv 2) aB))))) (bO (i:=5) eM.nd rfl (Or.inl rfl)) (aE (aU (i:=6) eM.nd rfl (Or.inl rfl) aJ)
   (aE (mE df (PW.pt (tU (aS (jA hu) (pv 6) (aK bM rfl T.n_len rfl (aA (pv 4) aB)) (nomark _)) (oW (cR (a0 K rfl (aL L (hr.mono (by omega)) pass0 rfl (aA (pv 5) (aA (bQ cU (pv 4) (pv 6) (λ_ _=>rfl)) aB))) (λ_=>rfl)))))) (aG (aU (i:=6) eM.nd rfl (Or.inl rfl) (bP bJ (pv 6) aJ))))
   (aG (cN (iT db PySem.F.slot_list_insert PySem.F.type_list_insert HM (pv 4) (aA (pv 6) (aA (pv 5) aB))))))))
   (aE (bN (aS A8 (aK bM rfl T.n_len rfl (aA (pv 4) aB)) aJ (nomark _)) (aG (aP (bP bJ (fL (aA (bQ cU (pv 1) aJ (λ_ _=>rfl)) aB)) (bH dY rfl T.n_tuple rfl (aA (pv 4) aB))))) aV)
   (aG (aP (bQ cU (bP bJ (pv 4) (bR (aA (FE (aj (bx (by decide) _) hu) (pv 3) (bQ cU (pv 1) aJ (λ_ _=>rfl)) (λ_ _=>rfl)) aB))) aJ (λ_ _=>rfl))))))))))),?_⟩
  simp only[mX];clear hr F T hu L G Y;have keep:=aI q (aI ht (aI hb (aI rs (aI nd (aI fz (aI s3 (aI rep (aI tm (aI dn (aI d50 s64))))))))));clear q ht hb rs nd fz s3 rep tm dn d50 s64
  walk_at "rd"
  obtain⟨q,ht,hb,rs,nd,fz,s3,rep,tm,dn,d50,s64⟩:=keep;rcases EZ tm with⟨x,rfl,hx⟩|⟨nm,ds,hd,dne,tms⟩
  ·cases (show v = .str x from rep);refine⟨true,rfl,?_⟩;rw[ai rfl];exact q _ _ (λ_ _ h=>h) (by unfold flt;rfl)
  ·obtain⟨va,vs',rfl,hbb,X,res⟩:∃va vs',v = .ref va/\isV H (.ref va) (.ty "str")=some false/\fY H va (.str nm::vs')/\Reps H ds vs':=by
    rcases hd with rfl|rfl
    ·obtain⟨a,vs,rfl,ha,_,vs',rfl,e1,r⟩:=rep;cases e1;exact⟨a,vs',rfl,nZ ha,.inr ha,r⟩
    ·obtain⟨a,vs,rfl,ha,_,vs',rfl,e1,r⟩:=rep;cases e1;exact⟨a,vs',rfl,uL ha,.inl ha,r⟩
   have C:∀H',aH H H'->ixV H' (.ref va) (.int 0)=some (.str nm):=λH' s'=>by
    rcases X.same s' with e|e
    ·rw[ixV_l e,atI_zero]
    ·rw[ixV_t e,atI_zero]
   have Z:flt sm d=knot sm nm (flts sm ds):=by rcases hd with rfl|rfl <;> rw[flt]
   have hsz:sz d=max 1 (szs ds):=by rcases hd with rfl|rfl <;> rw[sz]
   have hdp:depD d=depDs ds+1:=by
    rcases hd with rfl|rfl
    ·rw[depD,depDs,show depD (.str nm)=0 from rfl];omega
    ·rw[depD,depDs,show depD (.str nm)=0 from rfl];omega
   refine⟨false,hbb,?_⟩;rw[ab (by decide)];refine⟨va,rfl,_,X,λ_ h=>?_,λp o hp ho=>?_⟩
   ·have:=h.1;simp[HT.sIx]at this
   ·rw[AE]at ho;have s0:aH H (upd H p o):=aH.upd hp;refine⟨vs',by rcases ho with⟨rfl,_⟩|⟨rfl,_⟩;exact .inl upd_same;exact .inr upd_same,λJ hJ=>?_⟩;refine dA hJ (CI t sm ds (upd H p o)) ⟨none,rfl,λ_ _ h=>h,rfl⟩ ?_ ?_ ?_
    ·rintro i B σ H' _ ⟨_,_,s1,_⟩;rw[upd_same,s1 _ _ upd_same]
    ·rintro i x B σ H1 hx ⟨o0,rfl,s1,W⟩;obtain⟨e,he,re⟩:=Reps.get res hx;have s2:=s0.trans s1;have h1:=jC he;have h2:=E1 he;have h3:=Reps.len W;refine⟨_,rfl,_,rfl,depD e,by omega,t,a,b,sm,sv,e,x,rfl,s2 _ _ ht,s2 _ _ hb,rs.same (bG.of s2),nd,fz,s3,bD.same s2 re,tms.get he,ac _,by omega,by omega,λv' H2 s' r'=>⟨?_,_,rfl,s1.trans s',?_⟩⟩
     ·refine aj (m:=64) ?_ (by decide);rw[cS,ae,bq]at h3;have:=kQ ds;omega
     ·rw[aW he,IK];exact Reps.snoc r' (Reps.same s' W)
    ·rintro B σ H1 ⟨o0,rfl,s1,W⟩ l hl;have W:Reps H1 (flts sm ds) B:=by have e:=Reps.len res;rw[e,br]at W;exact W
     have sl:aH H (upd H1 l (.lst B)):=(s0.trans s1).trans (aH.upd hl);refine⟨.ref b,by rw[ixV_t (sl _ _ ht)];rfl,b,sv,_,rfl,sl _ _ hb,(rs.same (bG.of sl)).prs,λdd hdd=>?_⟩;rw[BH nd];have s2:aH (upd H1 l (.lst B)) (upd (upd H1 l (.lst B)) dd (.dK (sm.map λr=>(.inr r.1,V.str r.2)))):=aH.upd hdd;have S:=sl.trans s2;have l2:upd (upd H1 l (.lst B)) dd (.dK (sm.map λr=>(.inr r.1,V.str r.2))) l=some (.lst B):=s2 _ _ upd_same;have d2:upd (upd H1 l (.lst B)) dd (.dK (sm.map λr=>(.inr r.1,V.str r.2))) dd=some (.dK (sm.map λr=>(.inr r.1,V.str r.2))):=upd_same;have r2:Reps (upd (upd H1 l (.lst B)) dd (.dK (sm.map λr=>(.inr r.1,V.str r.2)))) (flts sm ds) B:=Reps.same ((aH.upd hl).trans s2) W;generalize upd (upd H1 l (.lst B)) dd (.dK (sm.map λr=>(.inr r.1,V.str r.2)))=H2 at s2 S l2 d2 r2⊢;have g2:kN H2 dd (.str nm) ((zr sm nm).map V.str):=by have:=kN.k (k:=.inr nm) d2;rw[sY]at this;exact this
     refine⟨.str nm,C _ S,dd,_,rfl,g2,_,rfl,?_⟩;cases hz:zr sm nm with
     | none =>
      rw[ai (by rfl)];refine⟨.str nm,C _ S,by decide,λp1 hp1=>⟨l,rfl,B,.inl (by rw[aC (aF l2 hp1)];exact l2),λl3 H3 hc=>?_⟩⟩;rcases hc with⟨hc,_⟩|⟨_,hc,rfl⟩
      ·rw[aC (aF l2 hp1),l2]at hc;cases hc
      ·have s4:aH H2 (upd (upd H2 p1 (.tup [.str nm])) l3 (.tup B)):=(aH.upd hp1).trans (aH.upd hc);refine⟨.tup (.str nm::B),?_,λp4 hp4=>?_⟩
       ·have e1:upd (upd H2 p1 (.tup [.str nm])) l3 (.tup B) p1=some (.tup [.str nm]):=by rw[aC (aF upd_same hc)];exact upd_same
        have e2:upd (upd H2 p1 (.tup [.str nm])) l3 (.tup B) l3=some (.tup B):=upd_same;have la:=Reps.len r2;rw[cS,ae]at la;have:=kQ ds;unfold catO;simp only[e1,e2];refine ai ⟨ao (m:=100) (by simp;omega) (by decide),by simp,λz=>dne (List.length_eq_zero_iff.mp (by rw[←la,z];rfl))⟩
       ·refine q _ _ (S.trans (s4.trans (aH.upd hp4))) ?_;rw[Z];unfold knot;rw[hz];exact⟨p4,_,rfl,upd_same,.str nm,B,rfl,rfl,Reps.same (s4.trans (aH.upd hp4)) r2⟩
     | some z =>
      rw[ab (by simp)];refine⟨av _,λfo hfo=>⟨.str nm,C _ (S.trans (aH.upd hfo)),?_⟩⟩;have sfo:aH H2 (upd H2 fo (.lst [])):=aH.upd hfo;have g3:kN (upd H2 fo (.lst [])) dd (.str nm) (some (.str z)):=by have:=kN.k (k:=.inr nm) (sfo _ _ d2);rw[sY,hz]at this;exact this
      refine⟨_,rfl,_,rfl,.str nm,C _ (S.trans sfo),dd,.str z,rfl,g3,?_⟩;have fls:=FY fz tms;have hsf:=pH sm ds;have hdf:=mG sm ds;refine⟨nm,z,l,flts sm ds,B,rfl,sfo _ _ l2,Reps.same sfo r2,fls,λi=>?_,by omega,λol us H4 s5 ol0 ol4 rus=>?_⟩
      ·have h1:=kQ (opn nm z ((flts sm ds).take i));have h2:=tZ nm z ((flts sm ds).take i);have h3:=AV i (flts sm ds);omega
      ·refine⟨ol,rfl,us,.inl ol4,λJ hJ=>?_⟩;have fop:Fls (opn nm z (flts sm ds)):=zC fls;have hlo:(opn nm z (flts sm ds)).length<=64:=by have h1:=kQ (opn nm z (flts sm ds));have h2:=tZ nm z (flts sm ds);omega
       have hdo:=zD nm z (flts sm ds);have nfo:ol≠fo:=λe=>by rw[e,upd_same]at ol0;cases ol0
       have fo4:H4 fo=some (.lst []):=s5 _ _ upd_same;have s6:aH H2 H4:=sfo.trans s5;have U:Reps H4 (opn nm z (flts sm ds)) us:=Reps.same s5 rus;generalize hos:opn nm z (flts sm ds)=os at fop hlo hdo rus U;have lus:=Reps.len rus;have keep:=aI q (aI ht (aI hb (aI rs (aI nd (aI fz (aI tm (aI dn (aI d50 (aI s64 (aI hd (aI dne (aI tms (aI X (aI C (aI Z (aI hsz (aI hdp (aI S (aI l2 (aI d2 (aI hz (aI s5 (aI ol0 (aI ol4 (aI fop (aI hlo (aI hdo (aI nfo (aI fo4 (aI s6 (aI U (aI lus hos))))))))))))))))))))))))))))))));refine lA hJ (GI t va l dd fo ol os us H2 H4) ⟨none,none,[],rfl,s6,ol4,bG.refl _,fo4,rfl⟩ (by rintro i σ H' _ ⟨_,_,_,_,_,h,_⟩;rw[h,ol4]) ?_ ?_
       ·rintro i x σ H5 hx ⟨o5,o6,fs,rfl,g1,O,I,g4,g5⟩;clear q ht hb rs nd fz tm dn d50 s64 hd dne tms X C Z hsz hdp S l2 d2 hz s5 ol0 ol4 fop hlo hdo nfo fo4 s6 U lus hos;have keep2:=aI hx (aI g1 (aI O (aI I (aI g4 g5))));clear hx g1 O I g4 g5
        walk_at "rd"
        obtain⟨q,ht,hb,rs,nd,fz,tm,dn,d50,s64,hd,dne,tms,X,C,Z,hsz,hdp,S,l2,d2,hz,s5,ol0,ol4,fop,hlo,hdo,nfo,fo4,s6,U,lus,hos⟩:=keep;obtain⟨hx,g1,O,I,g4,g5⟩:=keep2;obtain⟨e,he,re⟩:=Reps.get U hx;have fe:=fop.get he;have re5:=bD.tups I fe re;have dpe:=jC he;have fgs:∀g∈cX (os.take i),Fl g:=λg hg=>hU fop g (List.mem_of_mem_take ((cI _).mem_iff.mp hg));have lf:=Reps.len g5;have li:(cX (os.take i)).length<=64:=by rw[(cI _).length_eq,bq];omega
        refine P9 (WI t va l dd fo x e (cX (os.take i)) H5) (wMu fs.length) ⟨0,rfl,λ_ _ h=>h,av _,λj g hj=>absurd hj (Nat.not_lt_zero _)⟩ ?_;rintro σ H6 ⟨k,rfl,w1,w2,w3⟩ R hT hF;have h6:=w1 _ _ g4;by_cases hk:k<fs.length
        ·obtain⟨y,hy⟩:∃y,fs[k]?=some y:=⟨_,ax hk⟩
         obtain⟨g,hg,rg⟩:=Reps.get g5 hy;have rg6:=bD.same w1 rg;have re6:=bD.same w1 re5;have ix6:ixV H6 (.ref fo) (.int k)=some y:=by rw[ixV_l h6,GF];exact hy
         have keep3:=aI q (aI C (aI hx (aI hT (aI hF (aI g1 (aI O (aI I (aI g4 (aI g5 (aI re6 (aI rg6 (aI w3 (aI hos (aI fgs (aI w1 Z)))))))))))))));clear q C hx hT hF g1 O I g4 g5 re6 rg6 w3 hos fgs re re5 rg rus U w1 fop Z hz ht hb rs nd fz tm hd tms X d2 s5 ol0 ol4 fo4 s6 hJ res rep W r2 g2 g3 S sfo sl s2 s0 s1
         walk_at "rd"
         obtain⟨q,C,hx,hT,hF,g1,O,I,g4,g5,re6,rg6,w3,hos,fgs,w1,Z⟩:=keep3;rw[ai (by omega)];refine⟨e,g,x,y,rfl,re6,rg6,fe,fgs g (bh hg),by omega,by omega,λH7 s7=>⟨ah e g,rfl,?_⟩⟩;cases hab:ah e g with
         | false =>
          refine hT H7 ?_;refine⟨_,rfl,.inl ⟨_,rfl,⟨k+1,rfl,w1.trans s7,by omega,λj g' hj hg'=>?_⟩,?_⟩⟩
          ·by_cases ej:j<k
           ·exact w3 j g' ej hg'
           ·have:j=k:=by omega
            subst this;rw[hg]at hg';cases hg';exact hab
          ·show((fs.length:Int) - ((k:Int)+1)).toNat<((fs.length:Int) - (k:Int)).toNat;omega
         | true =>
          refine hF H7 ?_;have h7:=s7 _ _ h6;have ein:=zW (d:=e) (l:=cX (os.take i)) w2 w3 (λg' hg'=>by rw[hg]at hg';cases hg';exact hab);refine⟨_,rfl,tyL h7,_,rfl,_,rfl,fo,fs,k,x,rfl,rfl,h7,by omega,by omega,?_⟩;have w9:=w1.trans s7;have s9:aH H2 (upd H7 fo (.lst (fs.take k++x::fs.drop k))):=λc u hc=>by rw[aC (λw=>by rw[w,hfo]at hc;cases hc)];exact w9 _ _ (g1 _ _ hc)
          have t9:bG H7 (upd H7 fo (.lst (fs.take k++x::fs.drop k))):=bG.lst h7;refine⟨_,_,fs.take k++x::fs.drop k,rfl,s9,by rw[aC nfo];exact w9 _ _ O,(I.trans (bG.of w9)).trans t9,upd_same,?_⟩;rw[aW he,rN,ein];exact Reps.cut (bD.tups t9 fe (bD.same s7 re6)) k (Reps.tups t9 (jV fgs) (Reps.same w9 g5))
        ·have keep3:=aI q (aI C (aI hx (aI hT (aI hF (aI g1 (aI O (aI I (aI g4 (aI g5 (aI w3 (aI hos (aI fgs (aI w1 (aI re5 Z))))))))))))));clear q C hx hT hF g1 O I g4 g5 w3 hos fgs re re5 rus U w1 fop Z hz ht hb rs nd fz tm hd tms X d2 s5 ol0 ol4 fo4 s6 hJ res rep W r2 g2 g3 S sfo sl s2 s0 s1
         walk_at "rd"
         obtain⟨q,C,hx,hT,hF,g1,O,I,g4,g5,w3,hos,fgs,w1,re5,Z⟩:=keep3;rw[ab (by omega)];refine hF H6 ?_
         have ein:=zW (d:=e) (l:=cX (os.take i)) w2 w3 (λg' hg'=>by
          have:=(cm.mp hg').1
          omega)
         have re6:=bD.same w1 re5;refine⟨_,rfl,tyL h6,_,rfl,_,rfl,fo,fs,k,x,rfl,rfl,h6,by omega,by omega,?_⟩;have s9:aH H2 (upd H6 fo (.lst (fs.take k++x::fs.drop k))):=λc u hc=>by rw[aC (λw=>by rw[w,hfo]at hc;cases hc)];exact w1 _ _ (g1 _ _ hc)
         have t9:bG H6 (upd H6 fo (.lst (fs.take k++x::fs.drop k))):=bG.lst h6;refine⟨_,_,fs.take k++x::fs.drop k,rfl,s9,by rw[aC nfo];exact w1 _ _ O,(I.trans (bG.of w1)).trans t9,upd_same,?_⟩;rw[aW he,rN,ein];exact Reps.cut (bD.tups t9 fe re6) k (Reps.tups t9 (jV fgs) (Reps.same w1 g5))
       ·rintro σ H5 ⟨o5,o6,fs,rfl,g1,O,I,g4,g5⟩;rw[lus,br]at g5;have keep2:=aI g1 (aI O (aI I (aI g4 g5)));clear q ht hb rs nd fz tm dn d50 s64 hd dne tms X C Z hsz hdp S l2 d2 hz s5 ol0 ol4 fop hlo hdo nfo fo4 s6 U lus hos g1 O I g4 g5
        walk_at "rd"
        obtain⟨q,ht,hb,rs,nd,fz,tm,dn,d50,s64,hd,dne,tms,X,C,Z,hsz,hdp,S,l2,d2,hz,s5,ol0,ol4,fop,hlo,hdo,nfo,fo4,s6,U,lus,hos⟩:=keep;obtain⟨g1,O,I,g4,g5⟩:=keep2;have lf:=Reps.len g5;have ll:(cX os).length=os.length:=(cI os).length_eq;have hk:flt sm d=one nm z (cX os):=by rw[Z];unfold knot;rw[hz,←hos]
        have s7:=S.trans g1;by_cases h:1<fs.length
        ·rw[ai (by omega)];refine⟨.str nm,C _ s7,by decide,λp1 hp1=>⟨fs,.inl (by rw[aC (aF g4 hp1)];exact g4),λl3 H3 hc=>?_⟩⟩;rcases hc with⟨hc,_⟩|⟨_,hc,rfl⟩
         ·rw[aC (aF g4 hp1),g4]at hc;cases hc
         ·have s4:aH H5 (upd (upd H5 p1 (.tup [.str nm])) l3 (.tup fs)):=(aH.upd hp1).trans (aH.upd hc);refine⟨.tup (.str nm::fs),?_,λp4 hp4=>?_⟩
          ·have e1:upd (upd H5 p1 (.tup [.str nm])) l3 (.tup fs) p1=some (.tup [.str nm]):=by rw[aC (aF upd_same hc)];exact upd_same
           have e2:upd (upd H5 p1 (.tup [.str nm])) l3 (.tup fs) l3=some (.tup fs):=upd_same;unfold catO;simp only[e1,e2];refine ai ⟨ao (m:=100) (by simp;omega) (by decide),by simp,λz=>by rw[z]at h;simp at h⟩
          ·refine q _ _ (s7.trans (s4.trans (aH.upd hp4))) ?_;rw[hk,A9 (by omega)];exact⟨p4,_,rfl,upd_same,.str nm,fs,rfl,rfl,Reps.same (s4.trans (aH.upd hp4)) g5⟩
        ·rw[ab (by omega)];have g6:kN H5 dd (.str nm) (some (.str z)):=by have:=kN.k (k:=.inr nm) (g1 _ _ d2);rw[sY,hz]at this;exact this
         refine⟨_,rfl,_,rfl,.str nm,C _ s7,dd,.str z,rfl,g6,by decide,λp1 hp1=>⟨.lst (fs++[.str z]),sV (by rw[aC (aF g4 hp1)];exact g4) upd_same (ao (m:=100) (by simp;omega) (by decide)),λp2 hp2=>?_⟩⟩;have s8:aH H5 (upd (upd H5 p1 (.lst [.str z])) p2 (.lst (fs++[.str z]))):=(aH.upd hp1).trans (aH.upd hp2);cases hl:cX os with
         | nil =>
          rw[hl]at g5 hk;cases g5;exact⟨.str z,by rw[ixV_l upd_same];rfl,q _ _ (s7.trans s8) (by rw[hk];rfl)⟩
         | cons g gs =>
          rw[hl]at g5 hk lf;have en:gs=[]:=by rw[aq]at lf;exact List.length_eq_zero_iff.mp (by omega)
          subst en;obtain⟨y,r,rfl,ry,_⟩:=g5;exact⟨y,by rw[ixV_l upd_same,List.cons_append,atI_zero],q _ _ (s7.trans s8) (by rw[hk];exact bD.same s8 ry)⟩
theorem OU {f:Addr}{c:FuncData}(F:fZ K "_law_flat" "_law_flat" dJ f c)(T:Txt mg)(b:∀n,cC P w K mg base bA (n+2) "_law_ahead" (jO n))(a:cC P w K mg base bA 1 "_law_opened" lU)
  (l:mg "_law_flat" = some (.ref f)) (o:PySem.W.keepIn K (.ref f)=true) (d:gA K c gQ []):∀n,bW P w K mg base bA (n+3) f c gQ (qA n):=by
 intro n
 induction n using Nat.strongRecOn with
 | ind n g =>
  exact OA n F T (b n) a ⟨f,c,_,⟨λvs H Q E ⟨m,e,h⟩=>(g m e).len vs H Q E h,λA outer s H args us vs Q E j p d i ⟨m,e,h⟩=>((g m e).mono (by omega)).run A outer s H args us vs Q E j p d i h⟩,l,o,d⟩
theorem KF {f:Addr}{c:FuncData}(F:fZ K "_law_flat" "_law_flat" dJ f c)(T:Txt mg)(b:∀n,cC P w K mg base bA (n+2) "_law_ahead" (jO n))(a:cC P w K mg base bA 1 "_law_opened" lU)
  (d:mg "_law_flat" = some (.ref f)) (e:PySem.W.keepIn K (.ref f)=true) (g:gA K c gQ []) (n:Nat):cC P w K mg base bA (n+3) "_law_flat" (qA n):=⟨f,c,_,OU F T b a d e g n,d,e,g⟩
end
section
variable {P:Program}{w:World}{K:PySem.W.Frag}{mg:fR}{base:Heap}
theorem Reps.rev {H:Hp}:∀{ds:List D} {vs:List V},Reps H ds vs->Reps H ds.reverse vs.reverse
 | [],_,e=>by cases e;rfl
 | d::ds,_,⟨x,r,e,a,b⟩=>by subst e;rw[List.reverse_cons,List.reverse_cons];exact Reps.snoc a (Reps.rev b)
end
end Lw
namespace L2
open PySem PySem.Spec PyProof.Rows
noncomputable def revT {α:Type}(xs:List α):List α:=(xs.drop 1).reverse
theorem wN {α:Type}(x:α)(xs:List α):revT (x::xs)=xs.reverse:=rfl
theorem L8 (k:Nat):(List.range k).map (λm=>k - m)=((List.range k).map (λm=>1+m)).reverse:=by
 apply List.ext_getElem
 ·simp
 ·intro i b a;simp at b a⊢;omega
theorem xZ (its:bX)(k:Nat)(h:its.length=k+1):(List.range k).filterMap (λm=>its.toArray[k - m]?)=(its.drop 1).reverse:=by
 have e:(List.range k).filterMap (λm=>its.toArray[k - m]?)=((List.range k).map (λm=>k - m)).filterMap (λj=>its.toArray[j]?):=by rw[List.filterMap_map];rfl
 rw[e,L8,List.filterMap_reverse];have:=pick_run its.toArray 1 k;rw[this];congr 1;rw[List.take_of_length_le];rw[bu];simp;omega
theorem G5 (its:bX)(h:its≠[]):slicePick its.toArray none (some 0) (some (-1))=(revT its).toArray:=by
 obtain⟨k,hk⟩:∃k,its.length=k+1:=⟨its.length - 1,by have:=List.length_pos_iff.mpr h;omega⟩
 unfold slicePick;rw[ag,hk];have e:sliceBounds none (some 0) (some (-1)) (k+1)=((k:Int),0,-1):=by
  simp only[sliceBounds,Option.getD_some];refine Prod.ext ?_ (Prod.ext ?_ rfl)
  ·simp
  ·simp <;> omega
 rw[e];have b:sliceRange (k:Int) 0 (-1)=(List.range k).map λm=>k - m:=by
  unfold sliceRange;have c:(if (-1:Int) > 0 then(if (k:Int)<0 then(0 - (k:Int) + -1 - 1) / -1 else 0)else(if (k:Int) > 0 then((k:Int) - 0 - -1 - 1) / (- -1)else 0)).toNat=k:=by
   rw[ab (by decide)];split
   ·have:((k:Int) - 0 - -1 - 1) / (- -1)=k:=by rw[show(- -1:Int)=1 from rfl,Int.ediv_one];omega
    rw[this];omega
   ·omega
  dsimp only;rw[c];refine List.map_congr_left λm a=>?_;have:=List.mem_range.mp a;omega
 dsimp only;rw[b,List.filterMap_map];have:=xZ its k hk;unfold revT;rw[←this];rfl
theorem AI {prog:Program}{w:World}{A:Around}{E:cE}{s:Shared}{f:Addr}{e c d:Value}{n:Nat}{Q:Int×Int×Nat->Shared->Prop}(i:s.heap.IsSliceOf f e c d)(pl:IsPart e none)(g:IsPart c (some 0))(pt:IsPart d (some (-1)))(o:1<=n)
  (h:Q ((n:Int) - 1,-1,n - 1) s):wpAny (model prog w) A (Builtin.Slice.sliceApplied (.ref f) (pure (n:Int))) Q E s:=by
 obtain⟨os,a,j,b⟩:=id i;unfold Builtin.Slice.sliceApplied Builtin.Slice.sliceFields;refine aa (aa (wpAny_field a b (x:=e) rfl (aa (wpAny_field a b (x:=c) rfl (aa (wpAny_field a b (x:=d) rfl (al ?_)))))));refine aa (HT.slicePart_ pt ?_);show wpAny _ _ (if ((-1:Int) == 0)=true then _ else _) _ _ s;rw[ab (by decide)];refine aa (HT.slicePart_ pl (aa (HT.slicePart_ g (aa (al ?_)))));have m:Builtin.Slice.sliceAdjust none (some 0) (-1) (n:Int)=((n:Int) - 1,0):=by
  unfold Builtin.Slice.sliceAdjust;refine Prod.ext ?_ ?_
  ·simp
  ·simp;omega
 have l:Builtin.Slice.slicePlaces ((n:Int) - 1) 0 (-1)=n - 1:=by
  unfold Builtin.Slice.slicePlaces;rw[ab (by decide)];split
  ·rw[show(- -1:Int)=1 from rfl,Int.ediv_one];omega
  ·omega
 show wpAny _ _ (match Builtin.Slice.sliceAdjust none (some 0) (-1) (n:Int)with|(lo,hi)=>pure (lo,(-1:Int),Builtin.Slice.slicePlaces lo hi (-1))) _ _ s;rw[m];show wpAny _ _ (pure ((n:Int) - 1,(-1:Int),Builtin.Slice.slicePlaces ((n:Int) - 1) 0 (-1))) _ _ s;rw[l];exact al h
theorem CV {prog:Program}{w:World}{A:Around}{E:cE}{s:Shared}{t b:Addr}{its:bX}{j g i:Value}{Q:cE}(a:IsTup s.heap t its.toArray)(l:s.heap.IsSliceOf b j g i)(pl:IsPart j none)(o:IsPart g (some 0))(pt:IsPart i (some (-1)))(p:its≠[])(hz:its.length<=sizeLine)
  (h:Q (.ref s.heap.objs.size) {s with heap:=s.heap.push {cls:=.type "tuple",data:=.seq (revT its).toArray} }):wpAny (model prog w) A (getItem (.ref t) (.ref b)) Q E s:=by
 obtain⟨k,hk⟩:∃k,its.length=k+1:=⟨its.length - 1,by have:=List.length_pos_iff.mpr p;omega⟩
 obtain⟨os,c,d,r⟩:=id l;have f:s.TypeIs (.ref b) "slice":=⟨os,c,d⟩
 unfold getItem
 try with_reducible refine cf ?_
 first|refine aa (al ?_)|skip
 refine aa (wpAny_sequenceKey a.typeIs (by decide) ?_)
 refine aa (wpAny_callSpecial?_slot (name:=Str.ofString "__getitem__") a.typeIs PyProof.Rows.slot_tuple_getitem
  (wpAny_call_entry PyProof.Rows.slot_tuple_getitem a.typeIs entry_tuple_getitem ?_ (args_tuple_getitem _ _)))
 show wpAny _ _ (Builtin.Tuple.tupleItemsOf (.ref t) >>= _) _ _ s;refine aa (tupleItemsOf_ a ?_);refine aa (wpAny_typeOf f ?_);rw[ai (by decide)];refine aa (AI (n:=its.toArray.size) l pl o pt (by rw[ag];omega) ?_);dsimp only;rw[ab (by intro q;rw[Bool.and_eq_true,Bool.and_eq_true]at q;exact absurd q.1.2 (by decide))];have e:((List.range (its.toArray.size - 1)).filterMap λ(m:Nat)=>its.toArray[(((its.toArray.size:Nat):Int) - 1+(m:Int) * -1).toNat]?).toArray=(revT its).toArray:=by rw[ag,hk];have q:=xZ its k hk;unfold revT;rw[←q];congr 2;funext m;congr 1;omega
 rw[e];have hsz:sizeOk (.seq (revT its).toArray):=by show(revT its).toArray.size<=sizeLine;rw[ag];unfold revT;rw[List.length_reverse,bu];omega
 first
  | exact aa (m:=Builtin.Tuple.tupleExact _) (ca (al ⟨_,rfl,al h⟩) hsz)
  | exact aa (m:=Builtin.Tuple.tupleExact _) (ca (aa (al (al ⟨_,rfl,al h⟩))) hsz)
  | exact aa (aa (m:=Builtin.Tuple.tupleExact _) (ca (al (al ⟨_,rfl,al h⟩)) hsz))
  | exact aa (aa (m:=Builtin.Tuple.tupleExact _) (ca (al ⟨_,rfl,al h⟩) hsz))
noncomputable def SW (X:Cx)(r:V->Option Int->Option Int->Option Int->Hp->VK->Prop):Prop :=
 ∀(a:cY) (s:Shared) (σ:St) (H:Hp) (x:V) (v vl vu vt:Value) (lo hi st:Option Int) (sl:Addr) (Q:VK),aR X a σ H s->aX x v->s.heap.IsSliceOf sl vl vu vt->IsPart vl lo->IsPart vu hi->IsPart vt st->r x lo hi st H Q ->
  ∃T id,typeLookup (.type T) "__getitem__" = pure (some (.builtin id))/\s.TypeIs v T/\wpAny (model X.prog X.w) X.A (getItem v (.ref sl)) (EP X a σ Q) X.xe s
noncomputable def tSl3 (r:V->Option Int->Option Int->Option Int->Hp->VK->Prop)(c:TE)(tl b a:TO):TE:=λσ H Q=>c σ H λx g=>tl σ g λl f=>b σ f λu e=>a σ e λt d=>r x l u t d Q
theorem wQ {X:Cx}{e:Expr}{o:TE}{p w:Option Expr}{st:Expr}{tl m j:TO}{d K:Pos}{r:V->Option Int->Option Int->Option Int->Hp->VK->Prop}(P:SW X r)(U:PE X e o)(R:PO X p tl)(N:PO X w m)(O:PO X (some st) j):PE X (.Subscript e (.Slice p w (some st) K) d) (tSl3 r o tl m j):=by intro a s σ H Q I h;refine Subscript_ (thn (U a s σ H _ I h) λv B ⟨x,H1,I1,r1,G⟩=>?_);refine wpAny_Slice (thn (R a B σ H1 _ I1 G) λi s2 ⟨l,H2,I2,pl,F⟩=>thn (N a s2 σ H2 _ I2 F) λf A ⟨u,H3,I3,J,E⟩=>thn (O a A σ H3 _ I3 E) λg c ⟨t,z,Z,pt,C⟩=>?_);have Y:aR X a σ z {c with heap:=c.heap.push {cls:=.type "slice",data:=.fields #[i,f,g]} }:=Z.kept (t':=c.toks) λb ob q=>af _ q;obtain⟨T,id,W,L,S⟩:=P a _ σ z x v i f g l u t c.heap.objs.size Q Y r1 (Heap.IsSliceOf.new ..) pl J pt C;exact tail_any (ops:=[v,.ref c.heap.objs.size]) L W S (by with_unfolding_all rfl)
noncomputable def rBack:V->Option Int->Option Int->Option Int->Hp->VK->Prop:=λx b c st H Q=>b=none/\c=some 0/\st=some (-1)/\∃a xs,x = .ref a/\fY H a xs/\xs≠[] /\
 ∀p o,H p=none->(o = .lst (revT xs)/\H a=some (.lst xs)∨o = .tup (revT xs)/\H a=some (.tup xs))->Q (.ref p) (upd H p o)
theorem aY.revT {xs:List V}{us:bX}(h:aY xs us):aY (revT xs) (L2.revT us):=(h.drop 1).reverse
theorem AZ {α:Type}(xs:List α):(revT xs).length<=xs.length:=by unfold revT;rw[List.length_reverse,bu];omega
theorem EY {xs:List V}{us:bX}(h:aY xs us)(n:xs≠[]):us≠[]:=λz=>by have:=h.length;rw[z]at this;exact n (List.length_eq_zero_iff.mp this)
theorem E7 {X:Cx}:SW X rBack:=by
 intro i s σ H x v u p t z A st w Q I f j pl g pt h;obtain⟨rfl,rfl,rfl,a,xs,rfl,e|e,l,q⟩:=h
 ·cases f;obtain⟨its,r,d,hz⟩:=I.list (fQ.of e);refine⟨"list",_,slot_list_getitem.lookup,d.isList.typeIs,?_⟩;have c:=r.length;refine wpAny_getItem_list_slice d.isList j pl g pt (by decide) ?_ (by rw[ag] <;> omega);rw[G5 its (EY r l)];refine⟨.ref s.heap.objs.size,_,I.laid (t':=s.toks) (o:=.lst (revT xs)) (λb m q=>af _ q) (ac _) ?_,rfl,q _ _ (I.hok.fresh (ac _)) (.inl ⟨rfl,e⟩)⟩;exact⟨ao (AZ xs) hz,_,0,r.revT,au _ rfl⟩
 ·cases f;obtain⟨its,r,d,hz⟩:=I.tuple (iE.of e);refine⟨"tuple",_,PyProof.Rows.slot_tuple_getitem.lookup,d.typeIs,?_⟩;have c:=r.length;refine CV d j pl g pt (EY r l) (by omega) ?_;refine⟨.ref s.heap.objs.size,_,I.laid (t':=s.toks) (o:=.tup (revT xs)) (λb m q=>af _ q) (ac _) ?_,rfl,q _ _ (I.hok.fresh (ac _)) (.inr ⟨rfl,e⟩)⟩;exact⟨ao (AZ xs) hz,_,r.revT,⟨_,au _ rfl,rfl,_,rfl⟩⟩
noncomputable def rExtU:V->List V->Hp->VK->Prop:=λx vs H Q=>∃l b xs a,x = .ref l/\vs=[.ref b]/\H l=some (.lst xs)/\fY H b a/\xs.length+a.length<=sizeLine/\Q .non (upd H l (.lst (xs++a)))
theorem OX {l b:Addr}{its its2:jK}{n n2:Nat}{od:Option Addr}{osl:Array (Option Value)}(c:(!its.isEmpty && Builtin.List.listTooLong (its.size+its2.size))=false)(m:its.size<=sizeLine)(j:its.size+its2.size<=sizeLine+1) :
  Meets (Builtin.«list.extend» ⟨[.ref l,.ref b],[]⟩) (λ_ R s=>s.heap.get? l=some {cls:=.type "list",data:=.seq its n}/\s.heap.get? b=some ⟨.type "tuple",od,.seq its2 n2,osl⟩ /\
   R (.ok (.ret .none)) {s with heap:=s.heap.update l (Obj.mapSeq λx=>x++its2)}):=by
 refine .of_wp λprog w A R e h=>?_;obtain⟨o,g,d,tk,os⟩:=e;obtain⟨a,f,h⟩:=h;have c:¬(!its.isEmpty && Builtin.List.listTooLong (its.size+its2.size))=true:=by rw[c];decide
 have f1:=AutoSeq1.idx_int;have f4:=AutoSeq1.sub_tuple_list;have p:=AutoSeq1.sub_list_tuple;have i:(its++its2).size<=sizeLine+1:=by rw[Array.size_append];exact j
 wp_walk using (wpAny_updateSeq a rfl (hz:=m) (_hz':=i)),
  bf a,bf f
 exact⟨_,rfl,h⟩
theorem zK {X:Cx}:R5 X "list.extend" rExtU:=by
 intro a s σ H x vs v us Q I f g h;obtain⟨l,b,xs,p,j,o,c,d|d,hz,q⟩:=h
 ·exact HN a s σ H x vs v us Q I f g ⟨l,b,xs,p,j,o,c,d,hz,q⟩
 subst j o;cases f;obtain⟨u,rfl,t⟩:=g.one;cases t;obtain⟨z,its,n,r,K,e⟩:=I.lstM c;obtain⟨its2,i,⟨⟨J,od,w,osl⟩,B,E,n2,C⟩,G⟩:=I.tuple (iE.of d);cases E;cases C;have A:=i.length;have hsz:its.toArray.size+its2.toArray.size<=sizeLine:=by rw[ag,ag];omega
 have m:=OX (l:=l) (b:=b) (its:=its.toArray) (its2:=its2.toArray) (n:=n) (n2:=n2) (od:=od) (osl:=osl) (by rw[uB hsz,Bool.and_false]) (by rw[ag];omega) (by omega);refine call_meets F.slot_list_extend ⟨_,e,rfl⟩ F.entry_list_extend (F.args_list_extend_2 _ _) m ⟨e,B,?_⟩;refine⟨.non,_,I.lset (its':=its++its2) c e (by simp) (r.append i) ?_,rfl,q⟩;rw[ar];omega
noncomputable def tl1 (z:Str):Str:=⟨(z.cps.toList.drop 1).toArray⟩
noncomputable def rSlTx:V->Option Int->Option Int->Hp->VK->Prop:=λx a b H Q=>∃z,x = .str z/\a=some 1/\b=none/\1<=z.length/\z.length<=sizeLine/\Q (.str (tl1 z)) H
theorem G4 (z:Str)(h:1<=z.length)(u:Tok):slicePicked z (some (1,u)) none none=(List.range (z.length - 1)).map λm=>1+m:=by
 show Builtin.Str.strSliceIndices (some 1) none 1 z.length=_;unfold Builtin.Str.strSliceIndices;dsimp only;rw[ab (show ¬(1:Int)<0 by decide),ai (show(1:Int) > 0 by decide),ai (show(1:Int) > 0 by decide)];have e:max 0 (min 1 (z.length:Int))=1:=by omega
 rw[e];unfold sliceRange;dsimp only;rw[ai (by decide)];have c:(if (1:Int)<(z.length:Int)then((z.length:Int) - 1+1 - 1) / 1 else 0).toNat=z.length - 1:=by
  split
  ·rw[Int.ediv_one];omega
  ·omega
 rw[c];refine List.map_congr_left λm _=>?_;omega
theorem QM {X:Cx}:SV X rSlTx:=by
 intro a s σ H x v j i p r o Q I b d pl c h;obtain⟨z,rfl,rfl,rfl,g,hz,q⟩:=h;obtain⟨t,rfl⟩:=b;cases pl;rename_i tk;cases c;refine⟨"str",_,F.slot_str_getitem.lookup,typeIs_str _ _ _,?_⟩;refine wpAny_getItem_str_slice (l:=some (1,tk)) (u:=none) (st:=none) d rfl ?_;have f:=G4 z g tk;unfold sliceMade;rw[f,ab (by intro w;rw[Bool.and_eq_true]at w;have:=eq_of_beq w.2;simp at this;omega)];have e:(((List.range (z.length - 1)).map λm=>1+m).filterMap (z.cps[·]?)).toArray=(z.cps.toList.drop 1).toArray:=by have:=pick_run z.cps 1 (z.length - 1);rw[this];congr 1;rw[List.take_of_length_le];rw[bu,bo];exact ac _
 rw[e];refine⟨?_,.str (tl1 z),H,I.tok _,⟨_,rfl⟩,q⟩;show(z.cps.toList.drop 1).toArray.size<=sizeLine;have hd:(z.cps.toList.drop 1).length=z.cps.size - 1:=by simp
 rw[ag,hd];exact ao (Nat.sub_le _ _) hz
noncomputable def TM (z:Str):It:=⟨λi _=>i<z.cps.size,λi H x H'=>H'=H/\∃c,z.cps[i]?=some c/\x = .str ⟨#[c]⟩,λi _=>i=z.cps.size⟩
theorem JN {P:Program}{w:World}{K:PySem.W.Frag}{C:Expr}(it:Addr)(z:Str)(t:Tok):n9 P w K C (TM z) [it] it (λi h=>h.IsStrIter it "str_ascii_iterator" z t i) where
 mem:=by simp
 obj:=λi h st b f=>by
  obtain rfl:b=it:=by simpa using f
  obtain⟨o,e,c,d⟩:=st;exact⟨o,e,λv q=>by rw[d]at q;cases q⟩
 keep:=λi h h' st k=>by obtain⟨o,e,r⟩:=st;exact⟨o,k it (by simp) o e,r⟩
 item:=by intro X x m A hc i a s σ H E I l st j;subst x m A;obtain⟨f0,f1,f2,f3,f4,B⟩:=l it (by simp);have W:=Walks.strAscii (prog:=X.prog) (w:=X.w) (I.ok.hd hc) it z t;refine W.item i s _ _ j st λv h' tk G g F=>?_;obtain⟨c,u,p,rfl⟩:=G;have N:aR X a σ H {s with heap:=h',toks:=tk}:=I.turned (λb o f e=>F b o (by simpa using f) e) f0 f1 f3 f4 B;obtain⟨o,e,L,d⟩:=id g;exact⟨_,rfl,xF (s:={s with heap:=h',toks:=tk}) e L d (by decide) ⟨.str ⟨#[c]⟩,H,N,⟨u,rfl⟩,⟨rfl,c,p,rfl⟩,g,λb f=>(l b f).1⟩⟩
 done:=by intro X x m A hc i a s σ H E I l st j;subst x m A;obtain⟨f0,f1,f2,f3,f4,B⟩:=l it (by simp);have j:i=z.cps.size:=j;subst j;exact wpAny_pyNext_ascii_end (I.ok.hd hc) st (by simp) λh' J=>⟨rfl,I.turned (t':=s.toks) (λb o f e=>J b o f e) f0 f1 f3 f4 B⟩
 self:=λ_ _ _ _ _ st h=>wpAny_pyIter_striter_ascii st h
noncomputable def iTxt (a:TE):TI:=λσ H R=>a σ H λx b=>∃z:Str,x = .str z/\z.cps.all (· < 128)=true/\R (TM z) b
theorem J6 {X:Cx}{g e:Expr}{f:TE}(j:PE X e f):PI X g e (iTxt f):=by
 intro a s σ H R I h;refine thn (j a s σ H _ I h) λv c ⟨x,p,d,r1,i⟩=>?_;obtain⟨z,rfl,m,q⟩:=i;obtain⟨t,rfl⟩:=r1;refine wpAny_pyIter_ascii m ?_;refine⟨c.heap.objs.size,[c.heap.objs.size],_,_,p,rfl,d.kept (t':=c.toks) λb o e=>af _ e,JN _ z t,⟨_,au _ rfl,rfl,rfl⟩,λb l=>?_,q⟩;obtain rfl:b=c.heap.objs.size:=by simpa using l
 exact d.fpOk (ac _) (d.hok.fresh (ac _))
section
variable {X:Cx}{CX:AO}{k:Nat}{sp:Sp}{E:XK}{x m:Str}{C:Addr}{p pos apos:Pos}{o e:Expr}{es:lR}{ta:TE}{t:TA}
theorem y8 {pl:Sem Bool}(O:JA X.prog X.w X.K X.mg X.base CX k C m sp)(h:eX k X.A)(d:jY CX X E)(i:PE X o ta)(l:PA X (e::es) t)
  (a:starEach (e::es) X.env=(false,eval e X.env)::starEach es X.env:=by rfl) (b:(backTo pos (starEach es X.env)).any (·.1)=false:=by rfl)
  (g:eval (.Call (.Attribute o m apos) (e::es) [] pos) X.env=(do
   let ov ←eval o X.env
   standAt apos.atName
   let(f,first) ←holding [ov] (getMethod ov m pl)
   callWith pos f first (backTo pos (starEach (e::es) X.env)) (backToKw pos (keywordEach [] X.env))):=by rfl):PE X (.Call (.Attribute o m apos) (e::es) [] pos) (tMeth C m sp [] E ta t):=by
 obtain⟨f,p,ps,F,M,j,c⟩:=O;exact NE i c M F h j .nil d l a b g
def R4 (P:Program)(w:World)(K:PySem.W.Frag)(mg:fR)(base:Heap)(CX:AO)(k:Nat)(x:Str)(C:Addr)(sp:Sp):Prop :=
 ∃f a ps,bW P w K mg base CX k f a ps sp/\mg x=some (.ref C)/\Mk K C f/\gA K a ps []
theorem SH (O:R4 X.prog X.w X.K X.mg X.base CX k x C sp)(d:eX (k+1) X.A)(c:jY CX X E)(h:Gl X x)(l:PA X (e::es) t)(b:(x == ("__debug__" : Str))=false:=by decide)
  (i:starEach (e::es) X.env=(false,eval e X.env)::starEach es X.env:=by rfl) (a:(backTo pos (starEach es X.env)).any (·.1)=false:=by rfl):PE X (.Call (.Name x p) (e::es) [] pos) (tMake C sp [] E t):=by
 obtain⟨f,m,ps,F,g,M,j⟩:=O;exact NF M F d h g j .nil c l b i a
end
section
variable {g:TG}{tt:TT}{te:TE}{Q:VK}{σ:St}{H:Hp}
theorem xP {z:Str}(Pv:Nat->List V->St->Hp->Prop)(e:Pv 0 [] σ H)(b:∀i c a σ H,z.cps[i]?=some c->Pv i a σ H->CStep g tt te (.str ⟨#[c]⟩) a σ H (Pv (i+1)))
  (hd:∀a σ H,Pv z.cps.size a σ H->∀p,H p=none->Q (.ref p) (upd H p (.lst a))):nR (TM z) g tt te Q σ H :=
 mH (n:=z.cps.size) Pv e (λi a σ H d p=>⟨d,λx H' y=>by obtain⟨rfl,c,hc,rfl⟩:=y;exact b i c a σ _ hc p⟩) λa σ H p=>⟨rfl,hd a σ H p⟩
end
noncomputable def inTx (z:Str)(c:Nat):Bool:=!(Builtin.Str.occurrences z ⟨#[c]⟩ 0 z.length 1).isEmpty
end L2
namespace Lw
open PySem L2
section
variable {P:Program}{w:World}{K:PySem.W.Frag}{mg:fR}{base:Heap}
noncomputable def mulO (a:cT)(n:Str):Option Int:=(a.find? λr=>decide (r.1=n)).map (·.2)
noncomputable def mulV (a:cT)(n:Str):V:=((mulO a n).map V.int).getD .non
noncomputable def nulV (sm:bU)(n:Str):V:=((zr sm n).map V.str).getD .non
theorem JI (n:Str):∀a:cT,valV (a.map λr=>((.inr r.1,V.int r.2):bE×V)) (.inr n)=(mulO a n).map V.int
 | []=>rfl
 | r::l=>by
  by_cases e:r.1=n
  ·rw[bc,kC (by rw[e])];simp[mulO,e]
  ·rw[bc,kD (λz=>e (by cases z;rfl)),JI n l];simp[mulO,e]
structure iV (K:PySem.W.Frag)(C:Addr)(fx:cT)(sm:bU)(H:Hp)(g:Addr):Prop where
 cls:JD K C
 n1:iQ K C "many_by_name"
 n2:iQ K C "nought_by_name"
 ex:∃dx fs dm dn,H g=some (.ins C dx fs)/\fs.lookup ("many" : Str)=none/\fs.lookup ("nought" : Str)=none/\fs.lookup ("many_by_name" : Str)=some (.ref dm)/\fs.lookup ("nought_by_name" : Str)=some (.ref dn) /\
  H dm=some (.dK (fx.map λr=>(.inr r.1,.int r.2)))/\H dn=some (.dK (sm.map λr=>(.inr r.1,.str r.2)))
theorem iV.same {C:Addr}{d:cT}{sm:bU}{H H':Hp}{g:Addr}(h:iV K C d sm H g)(s:aH H H'):iV K C d sm H' g:=by obtain⟨a,b,c,p,fs,r,q,o,m,l,j,i,f,e⟩:=h;exact⟨a,b,c,p,fs,r,q,s _ _ o,m,l,j,i,s _ _ f,s _ _ e⟩
def C5 (K:PySem.W.Frag)(C:Addr):Sp:=λvs H Q _=>∃(g:Addr) (n:Str) (fx:cT) (sm:bU),vs=[.ref g,.str n]/\iV K C fx sm H g/\Q (mulV fx n) H
theorem N4 {f C:Addr}{m:FuncData}(F:fZ K "many" "Signs.many" eU f m)(T:Txt mg):bW P w K mg base bA 1 f m lM (C5 K C):=by
 refine F.ok vT (λvs H Q E h=>?_) (λB A outer s H vs Q E l h=>?_)
 ·obtain⟨g,n,u,sm,rfl,_⟩:=h;rfl
 ·obtain⟨g,n,u,sm,rfl,⟨i,e,G,x,fs,z,I,d,t,r,c,p,a,o⟩,q⟩:=h;have j:=l.units;refine⟨_,(aG (aP (tX (a0 K rfl (aK aM rfl T.n_isinstance rfl (aA (pv 1) (aA (bV (v:=V.ty "str") rfl T.n_str rfl rfl) aB))) (λ_=>rfl)) (A6 (aj (bx (by decide) _) j) (KB (pv 0) rfl) (pv 1) ⟨rfl,rfl,rfl,rfl⟩) y6))),?_⟩;simp only[pP];clear l F T j;have b:=kN.k (k:=.inr n) a;rw[JI]at b;have keep:=aI q (aI i (aI e (aI d (aI c (aI a b)))));clear q i e G d t r c p a o b
  walk_at "rd"
  obtain⟨q,i,e,d,c,a,b⟩:=keep;refine⟨true,rfl,?_⟩;rw[ai rfl];exact⟨_,rfl,g,C,x,fs,_,rfl,d,i,e,c,z,rfl,.inl ⟨_,.inl a⟩,_,rfl,_,b,q⟩
def oP (K:PySem.W.Frag)(C:Addr):Sp:=λvs H Q _=>∃(g:Addr) (n:Str) (fx:cT) (sm:bU),vs=[.ref g,.str n]/\iV K C fx sm H g/\Q (nulV sm n) H
theorem HB {f C:Addr}{m:FuncData}(F:fZ K "nought" "Signs.nought" dP f m)(T:Txt mg):bW P w K mg base bA 1 f m jI (oP K C):=by
 refine F.ok sE (λvs H Q E h=>?_) (λB A outer s H vs Q E l h=>?_)
 ·obtain⟨g,n,u,sm,rfl,_⟩:=h;rfl
 ·obtain⟨g,n,u,sm,rfl,⟨i,G,e,x,fs,I,z,d,t,r,p,c,o,a⟩,q⟩:=h;have j:=l.units;refine⟨_,(aG (aP (tX (a0 K rfl (aK aM rfl T.n_isinstance rfl (aA (pv 1) (aA (bV (v:=V.ty "str") rfl T.n_str rfl rfl) aB))) (λ_=>rfl)) (A6 (aj (bx (by decide) _) j) (KB (pv 0) rfl) (pv 1) ⟨rfl,rfl,rfl,rfl⟩) y6))),?_⟩;simp only[mY];clear l F T j;have b:=kN.k (k:=.inr n) a;rw[sY]at b;have keep:=aI q (aI i (aI e (aI d (aI c (aI a b)))));clear q i G e d t r p c o a b
  walk_at "rd"
  obtain⟨q,i,e,d,c,a,b⟩:=keep;refine⟨true,rfl,?_⟩;rw[ai rfl];exact⟨_,rfl,g,C,x,fs,_,rfl,d,i,e,c,z,rfl,.inl ⟨_,.inl a⟩,_,rfl,_,b,q⟩
theorem SD {c:Nat}(h:isWd c):inTx "abcdefghijklmnopqrstuvwxyz0123456789" c=true:=by
 have a:∀j:Fin 26,inTx "abcdefghijklmnopqrstuvwxyz0123456789" (97+j.1)=true:=by decide +kernel
 have b:∀j:Fin 10,inTx "abcdefghijklmnopqrstuvwxyz0123456789" (48+j.1)=true:=by decide +kernel
 unfold isWd at h;rcases h with h|h
 ·have:=a ⟨c - 97,by omega⟩;rw[show 97+(c - 97)=c by omega]at this;exact this
 ·have:=b ⟨c - 48,by omega⟩;rw[show 48+(c - 48)=c by omega]at this;exact this
theorem BM {H:Hp}{z:Str}(h:z.length<=sizeLine):lenV H (.str z)=some z.length:=ai h
theorem zR {H:Hp}{z:Str}{i:Int}(h:z.length<=sizeLine):ixV H (.str z) (.int i)=(atI z.cps.toList i).map λc=>.str ⟨#[c]⟩:=ai h
def yF:Sp:=λvs H Q _=>∃x:Str,vs=[.str x]/\(cK x∨jJ x)/\∀H',aH H H'->(cK x->Q (.bl true) H')/\(jJ x->Q (.bl false) H')
theorem NV {f:Addr}{J:FuncData}(F:fZ K "is_wish" "is_wish" gL f J)(T:Txt mg):bW P w K mg base bA 1 f J rB yF:=by
 refine F.ok DC (λvs H Q E h=>?_) (λZ A outer s H vs Q E G h=>?_)
 ·obtain⟨x,rfl,_⟩:=h;rfl
 ·obtain⟨x,rfl,b,q⟩:=h;have C:=G.units
  refine⟨_,(aE (bN (PW.pt (i9 (cR (a0 K rfl (aK aM rfl T.n_isinstance rfl (aA (pv 0) (aA (bV (v:=V.ty "str") rfl T.n_str rfl rfl) aB))) (λ_=>rfl))) (iK (cR (mC pB pB aJ (aK bM rfl T.n_len rfl (aA (pv 0) aB)) (g8 T.c_LONGEST_WISH rfl)))))) (aG (aP lP)) aV)
   (aG (aP (DK (dX (d9 C) (bQ cU (pv 0) aJ (λ_ _=>rfl)) dR (nomark _)) (y0 (aK (q9 rfl) rfl T.n_all rfl (aA (g9 rfl (bF.by (N:=rE) (names:=(aD gL).names) (N':=["sign"]) (src:=[none]) (by decide +kernel) rfl rfl) (J6 (fX QM (pv 0) (fE aJ) gF)) (λ_ _ _ _=>(bO (i:=0) (show List.Nodup (["sign"]:aQ)by decide +kernel) rfl (Or.inl rfl))) (λ_ _ _ _=>eB) (λ_ _ _ _=>(dX qH (pv 0) (g8 T.c_WISH_SIGNS rfl) (by with_unfolding_all rfl)))) aB))))))),?_⟩
  simp only[rE];clear G F T C;have keep:=aI q b;clear q b
  walk_at "rd"
  obtain⟨q,b⟩:=keep;have U:x.length<=20:=by
   rcases b with⟨l,rfl,_,j,_⟩|h
   ·show(63::l).toArray.size<=20;rw[ag,aq];omega
   ·have:=h.2.1;rw[bo]at this;exact ao this (by decide)
  have hz:x.length<=sizeLine:=ao U (by decide);refine⟨true,rfl,?_⟩;rw[ab (by decide)];refine⟨.int x.length,by rw[BM hz];rfl,_,rfl,?_⟩;rcases b with B|g
  ·obtain⟨l,rfl,h1,j,I⟩:=id B;have u:(Str.mk (63::l).toArray).length=l.length+1:=by show(63::l).toArray.size=_;rw[ag,aq]
   have d:=λH' t=>(q H' t).1 B;have O:ixV H (.str ⟨(63::l).toArray⟩) (.int 0)=some (.str ⟨#[63]⟩):=by rw[zR hz];show(atI (63::l).toArray.toList 0).map _=_;rw[List.toList_toArray,atI_zero];rfl
   rw[ai (by rw[u];omega)];refine⟨_,rfl,?_⟩;rw[ab (by rw[u];omega)];refine⟨_,O,?_⟩;rw[rEqD_ss]

   refine⟨_,rfl,?_⟩;have z:decide ((⟨#[63]⟩:Str)=Str.ofString "?")=true:=by decide +kernel
   rw[ai z];have L:tl1 ⟨(63::l).toArray⟩=⟨l.toArray⟩:=by unfold tl1;simp
   refine⟨_,rfl,1,rfl,⟨(63::l).toArray⟩,rfl,rfl,rfl,by rw[u];omega,hz,tl1 ⟨(63::l).toArray⟩,rfl,?_,?_⟩
   ·rw[L];simp only[List.all_toArray,List.all_eq_true,decide_eq_true_eq];intro c hc;have:=I c hc;unfold isWd at this;omega
   ·rw[L];refine xP (λi a σ H'=>H'=H/\a=(List.replicate i true).map V.bl/\i<=8/\∃o:Option V,σ=[o]) ⟨rfl,rfl,by decide,none,rfl⟩ ?_ ?_
    ·rintro i c a σ H' hc ⟨rfl,rfl,W,o,rfl⟩;have hc':l[i]?=some c:=by simpa using hc
     have S:c∈l:=bh hc';have hi':i<l.length:=(cm.mp hc').1;refine⟨_,rfl,_,rfl,_,rfl,?_⟩;have e:=SD (I c S);unfold inTx at e;dsimp only;refine⟨aj (m:=100) (by simp;omega) (by decide),rfl,?_,by omega,_,rfl⟩;rw[e,List.replicate_succ',ay];rfl
    ·rintro a σ H' ⟨rfl,rfl,W,o,rfl⟩ p R;refine⟨p,rfl,List.replicate _ true,upd_same,?_⟩;have:(List.replicate (Str.mk l.toArray).cps.size true).all id=true:=by simp
     rw[this];exact d _ (aH.upd R)
  ·have d:=λH' t=>(q H' t).2 g;by_cases j:(2:Int)<=x.length
   ·rw[ai j];refine⟨_,rfl,?_⟩;have:=g.2.1;rw[bo]at this;have e9:(x.length:Int)<=9:=by show(x.cps.size:Int)<=9;omega
    rw[ab (by omega)];cases hc:x.cps.toList with
    | nil=>have:=g.1;rw[hc]at this;simp at this
    | cons c r =>
     have X:=g.2.2 c (by rw[hc];exact aw);refine⟨.str ⟨#[c]⟩,by rw[zR hz,hc,atI_zero];rfl,?_⟩;rw[rEqD_ss];refine⟨_,rfl,?_⟩;rw[ab]
     ·exact d _ (aH.refl _)
     ·intro w;have:=bp w;have e:(⟨#[c]⟩:Str).cps=(Str.ofString "?").cps:=by rw[this]
      have Y:(Str.ofString "?").cps = #[63]:=by decide +kernel
      rw[Y]at e;have:c=63:=by simpa using e
      omega
   ·rw[ab j];exact d _ (aH.refl _)
theorem BE {a:cT}{sm:bU}(so:cD a sm){n:Str}{k:Int}(h:(n,k)∈a):mulO a n=some k:=by
 have nd:=(List.nodup_append.mp so.nd).1;unfold mulO;clear so
 induction a with
 | nil=>cases h
 | cons r l b =>
  rw[bc,cx]at nd;obtain rfl|h:=cr.mp h
  ·simp
  ·have ne:r.1≠n:=λe=>nd.1 (by rw[e];exact List.mem_map_of_mem (f:=(·.1)) h);rw[List.find?_cons,bi ne];exact b h nd.2
theorem MP {sm:bU}{n:Str}(h:n∉sm.map (·.1)):zr sm n=none:=by
 unfold zr;rw[List.find?_eq_none.mpr]
 ·rfl
 ·intro r a e;exact h (cu.mpr ⟨r,a,bp e⟩)
theorem MO {sm:bU}{n:Str}(h:n∈sm.map (·.1)):∃z,zr sm n=some z:=by
 obtain⟨r,a,e⟩:=cu.mp h;cases q:sm.find? (λr=>decide (r.1=n))with
 | none=>exact absurd (bg e) (List.find?_eq_none.mp q r a)
 | some z=>exact⟨z.2,by unfold zr;rw[q];rfl⟩
def yR (K:PySem.W.Frag)(C:Addr):Sp:=λvs H Q _=>∃(g:Addr) (fx:cT) (sm:bU) (os:aQ) (d:D) (v:V),vs=[.ref g,v]/\iV K C fx sm H g/\cD fx sm/\(∀x∈os,cK x)/\bD H d v/\bT fx sm os d/\lvs d<=100/\∀H',aH H H'->Q (.bl true) H'
theorem KZ {f C:Addr}{fd:FuncData}(F:fZ K "is_built" "is_built" gH f fd)(T:Txt mg)(b:cC P w K mg base bA 1 "is_wish" yF)(i:JA P w K mg base bA 1 C "many" (C5 K C))(c:JA P w K mg base bA 1 C "nought" (oP K C)):bW P w K mg base bA 2 f fd oC (yR K C):=by
 refine F.ok AY (λvs H Q E h=>?_) (λcdv A outer s H vs Q E o h=>?_)
 ·obtain⟨g,u,sm,os,d,v,rfl,_⟩:=h;rfl
 ·obtain⟨g,u,sm,os,d,v,rfl,sg,so,ho,rep,tm,m,q⟩:=h;have W:=o.units
  refine⟨_,(aE (bN (a0 K rfl (aK aM rfl T.n_isinstance rfl (aA (pv 1) (aA (bV (v:=V.ty "str") rfl T.n_str rfl rfl) aB))) (λ_=>rfl)) (aG (aP (SG (aL b (o.mono (by decide)) pass0 rfl (aA (pv 1) aB)) (y0 (dX (d9 W) (y8 i (o.mono (by decide)) pass0 (pv 0) (aA (pv 1) aB)) aJ (nomark _)))))) aV)
   (aE (bN (PW.pt (i9 (cR (a0 K rfl (aK aM rfl T.n_isinstance rfl (aA (pv 1) (aA (fL (aA (bV (v:=V.ty "list") rfl T.n_list rfl rfl) (aA (bV (v:=V.ty "tuple") rfl T.n_tuple rfl rfl) aB))) aB))) (λ_=>rfl))) (iK (aS (jA W) (aK bM rfl T.n_len rfl (aA (pv 1) aB)) aJ (nomark _))))) (aG (aP lP)) aV)
   (aE (bN (aS NP (y8 c (o.mono (by decide)) pass0 (pv 0) (aA (bQ cU (pv 1) aJ (λ_ _=>rfl)) aB)) y6 (nomark _)) (aG (aP (dX PP (aK bM rfl T.n_len rfl (aA (pv 1) aB)) aJ (nomark _)))) aV)
   (aG (aP (dX (d9 W) (y8 i (o.mono (by decide)) pass0 (pv 0) (aA (bQ cU (pv 1) aJ (λ_ _=>rfl)) aB)) (bP qE (aK bM rfl T.n_len rfl (aA (pv 1) aB)) aJ) (nomark _))))))),?_⟩
  simp only[vH];clear o F T W b i c;have keep:=aI q (aI sg (aI so (aI ho (aI rep (aI tm m)))));clear q sg so ho rep tm m
  walk_at "rd"
  obtain⟨q,sg,so,ho,rep,tm,m⟩:=keep;obtain⟨dx,fs,_,_,S,Y,h3,_⟩:=sg.ex;rcases JR tm with⟨x,rfl,J⟩|⟨n,ds,hd,hh,tms⟩
  ·cases (show v = .str x from rep);refine⟨true,rfl,?_⟩;rw[ai rfl];rcases J with J|J
   ·have U:=ho x J;refine⟨x,rfl,.inl U,λH' L=>⟨λ_=>⟨true,rfl,?_⟩,λX=>?_⟩⟩
    ·rw[ai rfl];exact q _ L
    ·obtain⟨l,rfl,_⟩:=U;have:=X.2.2 63 (by simp);omega
   ·obtain⟨r,o,e⟩:∃r∈u,r.1=x/\r.2=0:=by unfold zeros at J;obtain⟨r,S,rfl⟩:=cu.mp J;obtain⟨Y,h3⟩:=cy.mp S;exact⟨r,Y,rfl,by simpa using h3⟩
    have X:jJ x:=so.nm x (cb _ (cu.mpr ⟨r,o,e.1⟩));have hm:mulO u x=some 0:=BE so (by rw[←e.1,←e.2];exact o);refine⟨x,rfl,.inr X,λH' L=>⟨λU=>?_,λ_=>⟨false,rfl,?_⟩⟩⟩
    ·obtain⟨l,rfl,_⟩:=U;have:=X.2.2 63 (by simp);omega
    ·rw[ab (by decide)];refine⟨_,rfl,g,dx,fs,rfl,L _ _ S,Y,_,rfl,g,x,u,sm,rfl,sg.same L,?_⟩;show rEqD (mulV u x) _ _ _;unfold mulV;rw[hm];show rEqD (.int 0) _ _ _;rw[rEqD_ii];exact q _ L
  ·obtain⟨I,j,rfl,hbb,hseq,res⟩:∃I j,v = .ref I/\isV H (.ref I) (.ty "str")=some false/\fY H I (.str n::j)/\Reps H ds j:=by
    rcases hd with rfl|rfl
    ·obtain⟨a,vs,rfl,R,_,j,rfl,e1,r⟩:=rep;cases e1;exact⟨a,j,rfl,nZ R,.inr R,r⟩
    ·obtain⟨a,vs,rfl,R,_,j,rfl,e1,r⟩:=rep;cases e1;exact⟨a,j,rfl,uL R,.inl R,r⟩
   have hlen:=Reps.len res;refine⟨false,hbb,?_⟩;rw[ab (by decide)];refine⟨by decide,λp hp=>?_⟩;have t:aH H (upd H p (.tup [.ty "list",.ty "tuple"])):=aH.upd hp;have G:upd H p (.tup [.ty "list",.ty "tuple"]) p=some (.tup [.ty "list",.ty "tuple"]):=upd_same;generalize upd H p (.tup [.ty "list",.ty "tuple"])=H1 at t G⊢;have B:=hseq.same t;have N:ixV H1 (.ref I) (.int 0)=some (.str n):=by
    rcases B with e|e
    ·rw[ixV_l e,atI_zero]
    ·rw[ixV_t e,atI_zero]
   have ln:lenV H1 (.ref I)=some (j.length+1):=by
    rcases B with e|e
    ·rw[lenV_l e];rfl
    ·rw[lenV_t e];rfl
   refine⟨true,by rcases B with e|e;exact LH e G;exact LG e G,?_⟩;rw[ab (by decide)];have O:=qU hh;refine⟨_,by rw[ln];rfl,_,rfl,?_⟩;rw[ab (by omega)];refine⟨_,rfl,g,dx,fs,rfl,t _ _ S,h3,_,rfl,.str n,N,g,n,u,sm,rfl,sg.same t,?_⟩;rcases hh with⟨k0,O⟩|⟨k2,O⟩
   ·have Z:n∉sm.map (·.1):=λz=>(List.nodup_append.mp so.nd).2.2 n (List.mem_map_of_mem (f:=(·.1)) O) n z rfl;have e0:nulV sm n = .non:=by unfold nulV;rw[MP Z];rfl
    have em:mulV u n = .int (ds.length:Int):=by unfold mulV;rw[BE so O];rfl
    rw[e0];refine⟨false,rfl,?_⟩;rw[ab (by decide)];refine⟨_,rfl,g,dx,fs,rfl,t _ _ S,Y,_,rfl,.str n,N,g,n,u,sm,rfl,sg.same t,?_⟩;refine⟨_,by rw[ln];rfl,_,rfl,?_⟩;rw[em,rEqD_ii,bg (by omega)];exact q _ t
   ·obtain⟨z,hz⟩:=MO O;have e0:nulV sm n = .str z:=by unfold nulV;rw[hz];rfl
    rw[e0];refine⟨true,rfl,?_⟩;rw[ai rfl];refine⟨_,by rw[ln];rfl,_,rfl,?_⟩;rw[bg (p:=_) (by omega)];exact q _ t
mutual
noncomputable def nds:D->Nat
 | .tup (_::ds)=>1+ndss ds
 | .lst (_::ds)=>1+ndss ds
 | _=>1
noncomputable def ndss:List D->Nat
 | []=>0
 | d::ds=>nds d+ndss ds
end
theorem sP (d:D):1<=nds d:=by unfold nds;split <;> omega
theorem kJ:∀ds:List D,ds.length<=ndss ds
 | []=>ac _
 | d::ds=>by rw[ndss,aq];have:=sP d;have:=kJ ds;omega
theorem hO:∀ds a:List D,ndss (ds++a)=ndss ds+ndss a
 | [],a=>by simp[ndss]
 | d::ds,a=>by rw[List.cons_append,ndss,hO ds a,ndss];omega
theorem uC:∀ds:List D,ndss ds.reverse=ndss ds
 | []=>rfl
 | d::ds=>by rw[List.reverse_cons,hO,uC ds,ndss,ndss,ndss];omega
theorem JG {c:TT}{d:TS}{D:iJ}{σ:St}{H:Hp}(Pv:Nat->St->Hp->Prop)(n:Nat)(f:Pv n σ H)
  (e:∀n σ H,Pv n σ H->∀R:Bool->Hp->Prop,(∀H',d {D with nx:=λb a=>∃m,m<n/\Pv m b a,ct:=λb a=>∃m,m<n/\Pv m b a,bk:=D.nx} σ H'->R true H')->(∀H',D.nx σ H'->R false H')->c σ H R):yC c d D σ H:=by
 refine⟨Pv,⟨n,f⟩,?_⟩;intro m σ H p;refine e m σ H p _ (λH' h=>?_) (λH' h=>?_)
 ·rw[ai rfl];exact⟨_,λb a z=>z,h⟩
 ·rw[ab (by decide)];exact h
theorem AD {H:Hp}{p:Addr}{o:HO}:del (upd H p o) p=del H p:=by
 funext b;unfold del upd;by_cases e:b=p
 ·rw[ai e,ai e]
 ·rw[ab e,ab e,ab e]
theorem GC {H:Hp}{t p:Addr}{o:HO}(h:H p=none):aH (del H t) (del (upd H p o) t):=λb u e=>by obtain⟨a,c⟩:=eC e;exact fP (by rw[aC (aF a h)];exact a) c
theorem kM {H H':Hp}{t:Addr}(s:aH H H'):aH (del H t) (del H' t):=λb u e=>by obtain⟨c,a⟩:=eC e;exact fP (s _ _ c) a
theorem jQ {H:Hp}{d:D}:∀{ds:List D} {vs:List V},Reps H (ds++[d]) vs->∃us v,vs=us++[v]/\Reps H ds us/\bD H d v
 | [],vs,⟨v,r,e,h,h'⟩=>by
  cases (show r=[]from h');exact⟨[],v,e,rfl,h⟩
 | c::ds,vs,⟨v,r,e,h,h'⟩=>by obtain⟨us,u,f,b,a⟩:=jQ (ds:=ds) h';exact⟨v::us,u,by rw[e,f];rfl,⟨v,us,rfl,h,b⟩,a⟩
noncomputable def tp (r:D×Nat):D:=.tup [r.1,.int r.2]
def UT (g t:Addr)(v:V)(b:cT)(sm:bU)(os:aQ)(H:Hp)(n:Nat)(σ:St)(a:Hp):Prop:=∃(ps:List (D×Nat)) (vs:List V) (o3 o4:Option V),σ=[some (.ref g),some v,some (.ref t),o3,o4]/\a t=some (.lst vs)/\aH H (del a t) /\
 Reps (del a t) (ps.map tp) vs/\(∀r∈ps,bT b sm os r.1/\lvs r.1<=100/\r.2+depD r.1<=100)/\ndss (ps.map (·.1))=n/\n<=1000
def UU (t:Addr)(ds:List D)(k:Nat)(e:Hp)(i:Nat)(a:List V)(σ:St)(b:Hp):Prop:=∃c:Option V,σ=[c,some (.int k)]/\aH e b/\Reps (del b t) ((ds.reverse.take i).map λd=>tp (d,k+1)) a
theorem L3 {H:Hp}{t:Addr}(h:H t=none){a:Hp}(s:aH H a):aH H (del a t):=λb u e=>fP (s _ _ e) (aF e h)
theorem GB {H a:Hp}{t:Addr}(s:aH H (del a t)):aH H a:=λb u e=>(eC (s _ _ e)).1
def yQ (K:PySem.W.Frag)(C:Addr):Sp:=λvs H Q _=>∃(g:Addr) (fx:cT) (sm:bU) (os:aQ) (d:D) (v:V),vs=[.ref g,v]/\iV K C fx sm H g/\cD fx sm/\(∀x∈os,cK x)/\bD H d v/\bT fx sm os d/\lvs d<=100/\depD d<=100/\nds d<=1000/\∀H',aH H H'->Q .non H'
theorem KY {f C:Addr}{fd:FuncData}(F:fZ K "check_term" "check_term" dU f fd)(T:Txt mg)(j:cC P w K mg base bA 2 "is_built" (yR K C)):bW P w K mg base bA 3 f fd lI (yQ K C):=by
 refine F.ok iC (λvs H Q E h=>?_) (λcdv A outer s H vs Q E hr h=>?_)
 ·obtain⟨g,fx,sm,os,d,v,rfl,_⟩:=h;rfl
 ·obtain⟨g,fx,sm,os,d,v,rfl,sg,so,ho,rep,tm,S,U,z,q⟩:=h;have hu:=hr.units
  refine⟨_,(aE (aU (i:=2) iC.nd rfl (Or.inl rfl) (bR (aA (fL (aA (pv 1) (aA aJ aB))) aB)))
   (aG (mE df (a0 K rfl (pv 2) (λ_=>rfl)) (aE (tV (zA db PySem.F.slot_list_pop PySem.F.type_list_pop DU (pv 2)) (J7 rfl (oY (bO (i:=3) iC.nd rfl (Or.inl rfl)) (oY (bO (i:=4) iC.nd rfl (Or.inr rfl)) FC))))
   (aE (bN (PW.pt (i9 (aS A8 (pv 4) (g8 T.c_DEEPEST rfl) (nomark _)) (iK (cR (a0 K rfl (aL j (hr.mono (by decide)) pass0 rfl (aA (pv 0) (aA (pv 3) aB))) (λ_=>rfl)))))) (aG eZ) aV)
   (aG (bN (cR (a0 K rfl (aK aM rfl T.n_isinstance rfl (aA (pv 3) (aA (bV (v:=V.ty "str") rfl T.n_str rfl rfl) aB))) (λ_=>rfl))) (aG (cN (iT db PySem.F.slot_list_extend PySem.F.type_list_extend zK (pv 2) (aA (g9 rfl (bF.by (N:=lN) (names:=(aD dU).names) (N':=["part","depth"]) (src:=[none,some 4]) (by decide +kernel) rfl rfl) (dQ K rfl (wQ E7 (pv 3) gF (fE aJ) (fE (PN JK aJ)))) (λ_ _ _ _=>(bO (i:=0) (show List.Nodup (["part","depth"]:aQ)by decide +kernel) rfl (Or.inl rfl))) (λ_ _ _ _=>eB) (λ_ _ _ _=>(fL (aA (pv 0) (aA (bP bJ (pv 1) aJ) aB))))) aB)))) aV))))))),?_⟩
  simp only[lN];clear hr F T hu j;have keep:=aI q (aI sg (aI so (aI ho (aI rep (aI tm (aI S (aI U z)))))));clear q sg so ho rep tm S U z
  walk_at "rd"
  obtain⟨q,sg,so,ho,rep,tm,S,U,z⟩:=keep;refine⟨by decide,λp hp=>⟨by decide,λt ht=>?_⟩⟩;have s1:aH H (upd H p (.tup [v,.int 0])):=aH.upd hp;have I:upd H p (.tup [v,.int 0]) p=some (.tup [v,.int 0]):=upd_same;generalize upd H p (.tup [v,.int 0])=H1 at s1 I ht⊢;have ht0:H t=none:=s1.free ht;have e1:del (upd H1 t (.lst [.ref p])) t=del H1 t:=AD;have sd:aH H (del H1 t):=L3 ht0 s1;refine JG (UT g t v fx sm os H) (nds d) ⟨[(d,0)],[.ref p],none,none,rfl,upd_same,by rw[e1];exact sd,?_,?_,by simp[ndss],z⟩ ?_
  ·rw[e1];exact⟨.ref p,[],rfl,⟨p,_,rfl,fP I (aF I ht),v,_,rfl,bD.same sd rep,.int 0,[],rfl,rfl,rfl⟩,rfl⟩
  ·intro r hr;rw[cp.mp hr];exact⟨tm,S,by simpa using U⟩
  ·rintro n σ H2 ⟨ps,vs,o3,o4,rfl,h2,sH,c,ok,rfl,G⟩ R hT hF;rcases List.eq_nil_or_concat ps with rfl|⟨ps',r,rfl⟩
   ·have:vs=[]:=c;subst this;exact⟨_,rfl,false,.inl ⟨[],fQ.of h2,rfl⟩,hF H2 (q _ (GB sH))⟩
   ·rw[List.concat_eq_append]at c ok G hT;rw[ay,bc,List.map_nil]at c G hT;obtain⟨us,u,rfl,Z,ru⟩:=jQ c;obtain⟨a,_,rfl,ha,x,_,rfl,rx,_,_,rfl,e2,e3⟩:=ru;cases e2;cases (show _=[]from e3);obtain⟨X,lr,dr⟩:=ok r (by simp);have keep:=aI q (aI sg (aI so (aI ho (aI sH (aI Z (aI ok (aI G (aI h2 (aI ha (aI rx (aI X (aI lr dr))))))))))));refine⟨_,rfl,true,.inl ⟨_,fQ.of h2,by simp⟩,hT H2 ?_⟩;clear q sg so ho sH c ok G hT hF rep tm S U z s1 I ht ht0 e1 sd h2 Z ha rx X lr dr e3
    walk_at "rd"
    obtain⟨q,sg,so,ho,sH,c,ok,G,h2,ha,rx,X,lr,dr⟩:=keep;have hat:H2 a=some (.tup [x,.int r.2])/\a≠t:=eC ha;refine⟨tyL h2,.ref a,by simp,a,rfl,[x,.int r.2],iE.of (by rw[aC hat.2];exact hat.1),rfl,x,_,rfl,_,_,rfl,rfl,r.2,rfl,?_⟩;rw[ab (by omega),List.dropLast_concat];have e3:del (upd H2 t (.lst us)) t=del H2 t:=AD;have h3:upd H2 t (.lst us) t=some (.lst us):=upd_same;rw[←e3]at sH c rx;generalize upd H2 t (.lst us)=H3 at e3 h3 sH c rx⊢;have nl:us.length<=1000:=by have:=Reps.len c;rw[ae]at this;have h1:=kJ (ps'.map (·.1));rw[ae]at h1;rw[hO]at G;omega
    refine⟨g,fx,sm,os,r.1,x,rfl,sg.same (GB sH),so,ho,bD.same (B7 _ _) rx,X,lr,λH4 s4=>⟨true,rfl,?_⟩⟩;rw[ab (by decide)];have h4:=s4 _ _ h3;have sd4:=kM (t:=t) s4;have sH4:=sH.trans sd4;have Y:=Reps.same sd4 c;have W:=bD.same sd4 rx;have rest:∀r'∈ps',bT fx sm os r'.1/\lvs r'.1<=100/\r'.2+depD r'.1<=100:=λr' hr'=>ok r' (cb _ hr');rw[hO]at G⊢;rcases JR X with⟨y,ey,hy⟩|⟨n,ds,hd,hh,tms⟩
    ·rw[ey]at W;cases (show x = .str y from W);refine⟨true,rfl,?_⟩;rw[ab (by decide)];exact⟨_,by rw[ndss,ndss];have:=sP r.1;omega,ps',us,_,_,rfl,h4,sH4,Y,rest,rfl,by omega⟩
    ·obtain⟨va,O,rfl,hbb,hseq,res⟩:∃va O,x = .ref va/\isV H4 (.ref va) (.ty "str")=some false/\fY H4 va (.str n::O)/\Reps (del H4 t) ds O:=by
      rcases hd with e|e
      ·rw[e]at W;obtain⟨a,vs,rfl,ha,_,O,rfl,e1,r⟩:=W;cases e1;exact⟨a,O,rfl,nZ (eC ha).1,.inr (eC ha).1,r⟩
      ·rw[e]at W;obtain⟨a,vs,rfl,ha,_,O,rfl,e1,r⟩:=W;cases e1;exact⟨a,O,rfl,uL (eC ha).1,.inl (eC ha).1,r⟩
     have hnd:nds r.1=1+ndss ds:=by rcases hd with e|e <;> rw[e,nds]
     have hdp:depD r.1=depDs ds+1:=by
      rcases hd with e|e
      ·rw[e,depD,depDs,show depD (.str n)=0 from rfl];omega
      ·rw[e,depD,depDs,show depD (.str n)=0 from rfl];omega
     have hlv:lvs r.1=lvss ds:=by rcases hd with e|e <;> rw[e,lvs]
     refine⟨false,hbb,?_⟩;rw[ai rfl];refine⟨tyL h4,_,rfl,0,rfl,1,rfl,-1,rfl,rfl,rfl,rfl,va,_,rfl,hseq,by simp,λb o hb ho=>?_⟩;rw[wN]at ho;refine⟨b,rfl,O.reverse,by rcases ho with⟨rfl,_⟩|⟨rfl,_⟩;exact .inl upd_same;exact .inr upd_same,λJ hJ=>?_⟩;have s5:aH H4 (upd H4 b o):=aH.upd hb;have hb5:upd H4 b o b=some o:=upd_same;have nbt:b≠t:=(aF h4 hb).symm;generalize upd H4 b o=H5 at s5 hb5 hJ⊢;refine dA hJ (UU t ds r.2 H5) ⟨none,rfl,aH.refl _,rfl⟩ ?_ ?_ ?_
     ·rintro i L σ H' _ ⟨_,_,s6,_⟩;rw[hb5,s6 _ _ hb5]
     ·rintro i y L σ H6 hy ⟨o0,rfl,s6,B⟩;obtain⟨e,he,re⟩:=Reps.get (Reps.rev res) hy;have la:=Reps.len B;have h1:=kJ ds;refine⟨_,rfl,_,rfl,.inl ⟨_,rfl,(by decide:2<=sizeLine),λp1 I=>⟨aj (m:=1000) ?_ (by decide),_,rfl,s6.trans (aH.upd I),?_⟩⟩⟩
      ·rw[ae,bq,List.length_reverse]at la;rw[ndss,ndss]at G;omega
      ·have np:p1≠t:=(aF (s6 _ _ (s5 _ _ h4)) I).symm;have sm5:aH (del H4 t) (del (upd H6 p1 (.tup [y,.int (r.2+1)])) t):=kM ((s5.trans s6).trans (aH.upd I));rw[aW he,ay];have rp:bD (del (upd H6 p1 (.tup [y,.int (r.2+1)])) t) (tp (e,r.2+1)) (.ref p1):=⟨p1,_,rfl,fP upd_same np,y,_,rfl,bD.same sm5 re,_,[],rfl,rfl,rfl⟩
       exact Reps.snoc rp (Reps.same (GC I) B)
     ·rintro L σ H6 ⟨o0,rfl,s6,B⟩ l hl;have la:=Reps.len B;have lr':=Reps.len res;have h1:=kJ ds;have h6:upd H6 l (.lst L) t=some (.lst us):=by rw[aC (aF (s6 _ _ (s5 _ _ h4)) hl)];exact s6 _ _ (s5 _ _ h4)
      rw[List.length_reverse,lr',←List.length_reverse (as:=ds),br]at B;rw[ae,bq,List.length_reverse]at la;rw[ndss,ndss]at G;have s7:aH H4 (upd H6 l (.lst L)):=(s5.trans s6).trans (aH.upd hl);have e7:del (upd (upd H6 l (.lst L)) t (.lst (us++L))) t=del (upd H6 l (.lst L)) t:=AD;refine⟨t,l,us,L,rfl,rfl,h6,.inl upd_same,ao (m:=2000) (by omega) (by decide),ndss (ps'.map (·.1))+ndss ds,by rw[ndss,ndss];omega,ps'++ds.reverse.map (λd=>(d,r.2+1)),us++L,_,_,rfl,upd_same,?_,?_,?_,?_,by omega⟩
      ·rw[e7];exact sH4.trans (kM s7)
      ·rw[e7,ay,ci];exact Reps.append (Reps.same (kM s7) Y) (Reps.same (GC hl) B)
      ·intro r' hr';rcases cs.mp hr' with h|h
       ·exact rest r' h
       ·obtain⟨e,he,rfl⟩:=cu.mp h;have he:=List.mem_reverse.mp he;obtain⟨i,hi⟩:=List.getElem?_of_mem he;have h2:=FK hi;have h3:=jC hi;exact⟨tms.get hi,by show lvs e<=100;omega,by show r.2+1+depD e<=100;omega⟩
      ·rw[ay,ci,hO];congr 1;rw[show((λx:D×Nat=>x.1) ∘ λd=>(d,r.2+1))=id from rfl,List.map_id,uC]
end
section
variable {P:Program}{w:World}{K:PySem.W.Frag}{mg:fR}{base:Heap}
mutual
noncomputable def Wk:D->Prop
 | .str _=>True
 | .tup (.str _::ds)=>Wks ds
 | .lst (.str _::ds)=>Wks ds
 | _=>False
noncomputable def Wks:List D->Prop
 | []=>True
 | d::ds=>Wk d/\Wks ds
end
mutual
noncomputable def wlk:D->List D
 | .tup (.str n::ds)=>.tup (.str n::ds)::wlks ds
 | .lst (.str n::ds)=>.lst (.str n::ds)::wlks ds
 | d=>[d]
noncomputable def wlks:List D->List D
 | []=>[]
 | d::ds=>wlk d++wlks ds
end
theorem wB:∀ds:List D,wlks ds=ds.flatMap wlk
 | []=>rfl
 | d::ds=>by rw[wlks,wB ds];rfl
theorem P6 {d:D}(h:Wk d):(∃x,d = .str x)∨∃n ds,(d = .tup (.str n::ds)∨d = .lst (.str n::ds))/\Wks ds:=by
 unfold Wk at h;split at h
 ·exact .inl ⟨_,rfl⟩
 ·exact .inr ⟨_,_,.inl rfl,h⟩
 ·exact .inr ⟨_,_,.inr rfl,h⟩
 ·exact absurd h id
mutual
theorem PX:∀{d:D},Fl d->Wk d
 | .str x,h=>trivial
 | .tup (.str n::ds),h=>by unfold Wk;unfold Fl at h;exact F0 h
 | .non,h | .bl _,h | .int _,h | .lst _,h | .tup [],h | .tup (.non::_),h | .tup (.bl _::_),h | .tup (.int _::_),h | .tup (.tup _::_),h | .tup (.lst _::_),h=>by unfold Fl at h;exact absurd h id
theorem F0:∀{ds:List D},Fls ds->Wks ds
 | [],_=>trivial
 | _::_,⟨a,b⟩=>⟨PX a,F0 b⟩
end
theorem Wks.app:∀{ds c:List D},Wks ds->Wks c->Wks (ds++c)
 | [],_,_,h=>h
 | _::_,_,⟨a,b⟩,h=>⟨a,Wks.app b h⟩
theorem Wks.rev:∀{ds:List D},Wks ds->Wks ds.reverse
 | [],h=>h
 | d::ds,⟨a,b⟩=>by rw[List.reverse_cons];exact Wks.app (Wks.rev b) ⟨a,trivial⟩
theorem Wks.unsnoc:∀{ds:List D} {d:D},Wks (ds++[d])->Wks ds/\Wk d
 | [],_,h=>⟨trivial,h.1⟩
 | _::_,_,⟨a,b⟩=>⟨⟨a,(Wks.unsnoc b).1⟩,(Wks.unsnoc b).2⟩
mutual
theorem sK:∀d:D,(wlk d).length<=nds d
 | .tup (.str n::ds)=>by rw[wlk,nds,aq];have:=sX ds;omega
 | .lst (.str n::ds)=>by rw[wlk,nds,aq];have:=sX ds;omega
 | .non | .bl _ | .int _ | .str _ | .tup [] | .lst [] | .tup (.non::_) | .tup (.bl _::_) | .tup (.int _::_) | .tup (.tup _::_) | .tup (.lst _::_) | .lst (.non::_) | .lst (.bl _::_) | .lst (.int _::_) | .lst (.tup _::_) | .lst (.lst _::_)=>by unfold wlk;rw[cg];exact sP _
theorem sX:∀ds:List D,(wlks ds).length<=ndss ds
 | []=>ac _
 | d::ds=>by rw[wlks,ndss,ar];have:=sK d;have:=sX ds;omega
end
def oO:Sp:=λvs H Q _=>∃(d:D) (v:V) (G:Hp),vs=[v]/\aH G H/\bD G d v/\Wk d/\nds d<=1000/\∀(l:Addr) (ws:List V) (H':Hp),aH H H'->H l=none->H' l=some (.lst ws)->Reps G (wlk d) ws->Q (.ref l) H'
def T1 (v:V)(b t:Addr)(d:D)(H G:Hp)(n:Nat)(σ:St)(a:Hp):Prop:=∃(fs ts:List D) (ws us:List V) (o:Option V),σ=[some v,some (.ref b),some (.ref t),o]/\a b=some (.lst ws)/\a t=some (.lst us)/\aH H a/\Reps G fs ws/\Reps G ts us/\Wks ts /\
 fs++ts.reverse.flatMap wlk=wlk d/\ndss ts=n/\n<=1000
theorem G9 {f:Addr}{fd:FuncData}(F:fZ K "walked" "walked" i5 f fd)(T:Txt mg):bW P w K mg base bA 1 f fd vD oO:=by
 refine F.ok mZ (λvs H Q E h=>?_) (λcdv A outer s H vs Q E hr h=>?_)
 ·obtain⟨d,v,G,rfl,_⟩:=h;rfl
 ·obtain⟨d,v,G,rfl,U,rep,wk,c,q⟩:=h;have hu:=hr.units
  refine⟨_,(aE (aU (i:=1) mZ.nd rfl (Or.inl rfl) (bR aB))
   (aE (aU (i:=2) mZ.nd rfl (Or.inl rfl) (bR (aA (pv 0) aB)))
   (aE (mE df (a0 K rfl (pv 2) (λ_=>rfl)) (aE (aU (i:=3) mZ.nd rfl (Or.inl rfl) (zA db PySem.F.slot_list_pop PySem.F.type_list_pop DU (pv 2)))
   (aE (cN (iT db de dc eF (pv 1) (aA (pv 3) aB)))
   (aG (bN (cR (a0 K rfl (aK aM rfl T.n_isinstance rfl (aA (pv 3) (aA (bV (v:=V.ty "str") rfl T.n_str rfl rfl) aB))) (λ_=>rfl))) (aG (cN (iT db PySem.F.slot_list_extend PySem.F.type_list_extend zK (pv 2) (aA (wQ E7 (pv 3) gF (fE aJ) (fE (PN JK aJ))) aB)))) aV)))))
   (aG (aP (pv 1)))))),?_⟩
  simp only[CG];clear hr F T hu;have keep:=aI q (aI rep (aI wk (aI c U)));clear q rep wk c U
  walk_at "rd"
  obtain⟨q,rep,wk,c,U⟩:=keep;refine⟨by decide,λL l=>⟨by decide,λt ht=>?_⟩⟩;have O:L≠t:=aF upd_same ht;have C:H t=none:=(aH.upd l).free ht;refine JG (T1 v L t d H G) (nds d) ⟨[],[d],[],[v],none,rfl,by rw[aC O];exact upd_same,upd_same,(aH.upd l).trans (aH.upd ht),rfl,⟨v,[],rfl,rep,rfl⟩,⟨wk,trivial⟩,by simp,by simp[ndss],c⟩ ?_;rintro n σ Y ⟨fs,ts,J,us,o,rfl,h1,h2,sH,X,rt,Z,e,rfl,B⟩ R hT hF;rcases List.eq_nil_or_concat ts with rfl|⟨p,r,rfl⟩
  ·cases (show us=[]from rt);refine⟨_,rfl,false,.inl ⟨[],fQ.of h2,rfl⟩,hF Y ⟨_,rfl,?_⟩⟩;have e:fs=wlk d:=by simpa using e
   rw[e]at X;exact q L J Y sH l h1 X
  ·rw[List.concat_eq_append]at rt Z e B hT;obtain⟨g,u,rfl,rt',W⟩:=jQ rt;obtain⟨wt',wr⟩:=Z.unsnoc;have keep:=aI q (aI h1 (aI h2 (aI sH (aI X (aI rt' (aI W (aI wt' (aI wr (aI e (aI B (aI l (aI C (aI c U)))))))))))));refine⟨_,rfl,true,.inl ⟨_,fQ.of h2,by simp⟩,hT Y ?_⟩;clear q h1 h2 sH X rt rt' W Z wt' wr e B hT hF rep wk c l ht C U
   walk_at "rd"
   obtain⟨q,h1,h2,sH,X,rt,W,Z,wr,e,B,l,C,c,U⟩:=keep;rw[List.dropLast_concat];rw[List.reverse_append,List.reverse_cons,List.reverse_nil,List.nil_append,List.singleton_append,List.flatMap_cons]at e;have h3:upd Y t (.lst g) t=some (.lst g):=upd_same;have f3:upd Y t (.lst g) L=some (.lst J):=by rw[aC O];exact h1
   have s3:aH H (upd Y t (.lst g)):=λb o z=>by rw[aC (aF z C)];exact sH _ _ z
   generalize upd Y t (.lst g)=H3 at h3 f3 s3⊢;have h4:upd H3 L (.lst (J++[u])) t=some (.lst g):=by rw[aC O.symm];exact h3
   have f4:upd H3 L (.lst (J++[u])) L=some (.lst (J++[u])):=upd_same;have s4:aH H (upd H3 L (.lst (J++[u]))):=λb o z=>by rw[aC (aF z l)];exact s3 _ _ z
   have lf:=Reps.len X;have lw:=congrArg List.length e;rw[ar]at lw;have lt':=Reps.len rt;have hn:=kJ p;have hnr:nds r+ndss p<=1000:=by rw[hO,ndss,ndss]at B;omega
   have S:Reps G (fs++[r]) (J++[u]):=Reps.snoc W X;refine⟨tyL h2,u,by simp,tyL f3,J,f3,aj (m:=1000) (by have:=sK d;omega) (by decide),?_⟩;generalize upd H3 L (.lst (J++[u]))=H4 at h4 f4 s4⊢;have N:=U.trans s4;rw[hO];rcases P6 wr with⟨x,rfl⟩|⟨nm,ds,hd,wds⟩
   ·cases (show u = .str x from W);refine⟨true,rfl,?_⟩;rw[ab (by decide)];refine⟨ndss p,by rw[ndss,ndss];have:=sP (.str x);omega,fs++[.str x],p,_,g,_,rfl,f4,h4,s4,S,rt,Z,?_,rfl,by omega⟩;rw[←e];show _=fs++([.str x]++_);rw[cj]
   ·obtain⟨va,j,rfl,hbb,I⟩:∃va j,u = .ref va/\isV H4 (.ref va) (.ty "str")=some false/\fY H4 va (.str nm::j)/\Reps G ds j:=by
     rcases hd with rfl|rfl
     ·obtain⟨a,vs,rfl,ha,_,j,rfl,e1,r⟩:=W;cases e1;exact⟨a,j,rfl,nZ (N _ _ ha),.inr (N _ _ ha),r⟩
     ·obtain⟨a,vs,rfl,ha,_,j,rfl,e1,r⟩:=W;cases e1;exact⟨a,j,rfl,uL (N _ _ ha),.inl (N _ _ ha),r⟩
    obtain⟨I,res⟩:=I;have hnd:nds r=1+ndss ds:=by rcases hd with rfl|rfl <;> rw[nds]
    have hwl:wlk r=r::wlks ds:=by rcases hd with rfl|rfl <;> rw[wlk]
    have h1:=kJ ds;have lr:=Reps.len res;refine⟨false,hbb,?_⟩;rw[ai rfl];refine⟨tyL h4,_,rfl,0,rfl,1,rfl,-1,rfl,rfl,rfl,rfl,va,_,rfl,I,by simp,λb o z ho=>?_⟩;rw[wN]at ho;have h5:upd H4 b o t=some (.lst g):=by rw[aC (aF h4 z)];exact h4
    have f5:upd H4 b o L=some (.lst (J++[.ref va])):=by rw[aC (aF f4 z)];exact f4
    have s5:aH H (upd H4 b o):=s4.trans (aH.upd z);refine⟨t,b,g,j.reverse,rfl,rfl,h5,by rcases ho with⟨rfl,_⟩|⟨rfl,_⟩;exact .inl upd_same;exact .inr upd_same,ao (m:=2000) (by rw[List.length_reverse];omega) (by decide),ndss p+ndss ds,by rw[ndss,ndss];omega,fs++[r],p++ds.reverse,_,_,_,rfl,by rw[aC O];exact f5,upd_same,?_,S,Reps.append rt (Reps.rev res),Z.app wds.rev,?_,by rw[hO,uC],by omega⟩
    ·exact λb o z=>by rw[aC (aF z C)];exact s5 _ _ z
    ·rw[←e,hwl,List.reverse_append,List.reverse_reverse,List.flatMap_append,←wB];simp
noncomputable def mrk:D->M
 | .str x=>(sortS x,x,0)
 | .tup (.str n::ds)=>(2,n,ds.length+1)
 | _=>(0,"",0)
mutual
theorem FU:∀{d:D},Fl d->key d=(wlk d).map mrk
 | .str x,_=>by unfold key wlk;rfl
 | .tup (.str n::ds),h=>by unfold Fl at h;rw[key,wlk,BR h];rfl
 | .non,h | .bl _,h | .int _,h | .lst _,h | .tup [],h | .tup (.non::_),h | .tup (.bl _::_),h | .tup (.int _::_),h | .tup (.tup _::_),h | .tup (.lst _::_),h=>by unfold Fl at h;exact absurd h id
theorem BR:∀{ds:List D},Fls ds->keys ds=(wlks ds).map mrk
 | [],_=>rfl
 | d::ds,⟨a,b⟩=>by rw[keys,wlks,FU a,BR b,ay]
end
mutual
theorem LU:∀{d:D},Fl d->∀e∈wlk d,Fl e
 | .str x,h=>by unfold wlk;intro e a;rw[cp.mp a];exact h
 | .tup (.str n::ds),h=>by
  rw[wlk];intro e a;obtain rfl|a:=cr.mp a
  ·exact h
  ·exact FZ (by unfold Fl at h;exact h) e a
 | .non,h | .bl _,h | .int _,h | .lst _,h | .tup [],h | .tup (.non::_),h | .tup (.bl _::_),h | .tup (.int _::_),h | .tup (.tup _::_),h | .tup (.lst _::_),h=>by unfold Fl at h;exact absurd h id
theorem FZ:∀{ds:List D},Fls ds->∀e∈wlks ds,Fl e
 | [],_=>λe c=>by cases c
 | d::ds,⟨a,b⟩=>λe c=>by
  rw[wlks]at c;obtain c|c:=cs.mp c
  ·exact LU a e c
  ·exact FZ b e c
end
noncomputable def mV (m:M):List V:=[.int m.1,.str m.2.1,.int m.2.2]
noncomputable def mD (m:M):D:=.tup [.int m.1,.str m.2.1,.int m.2.2]
def C4:Sp:=λvs H Q _=>∃(d:D) (v:V),vs=[v]/\bD H d v/\Fl d/\∀p,H p=none->Q (.ref p) (upd H p (.tup (mV (mrk d))))
theorem N3 {f:Addr}{t:FuncData}(F:fZ K "order_mark" "order_mark" eN f t)(T:Txt mg):bW P w K mg base bA 1 f t lG C4:=by
 refine F.ok vS (λvs H Q E h=>?_) (λL A outer s H vs Q E j h=>?_)
 ·obtain⟨d,v,rfl,_⟩:=h;rfl
 ·obtain⟨d,v,rfl,rep,e,q⟩:=h;have i:=j.units
  refine⟨_,(aE (bN (a0 K rfl (aK aM rfl T.n_isinstance rfl (aA (pv 0) (aA (bV (v:=V.ty "str") rfl T.n_str rfl rfl) aB))) (λ_=>rfl)) (aG (aP (fL (aA (tX (aS (d9 i) (bQ cU (pv 0) aJ (λ_ _=>rfl)) dR (nomark _)) aJ aJ) (aA (pv 0) (aA aJ aB)))))) aV)
   (aG (aP (fL (aA aJ (aA (bQ cU (pv 0) aJ (λ_ _=>rfl)) (aA (aK bM rfl T.n_len rfl (aA (pv 0) aB)) aB))))))),?_⟩
  simp only[pM];clear j F T i;have keep:=aI q (aI rep e);clear q rep e
  walk_at "rd"
  obtain⟨q,rep,e⟩:=keep;rcases jW e with⟨x,rfl,o,l⟩|⟨nm,ds,rfl,C⟩
  ·cases (show v = .str x from rep);refine⟨true,rfl,?_⟩;rw[ai rfl];have hz:x.length<=sizeLine:=ao (m:=20) (by rw[bo]at l;exact l) (by decide);cases hc:x.cps.toList with
   | nil=>rw[hc]at o;simp at o
   | cons c r =>
    refine⟨.str ⟨#[c]⟩,by rw[zR hz,hc,atI_zero];rfl,?_⟩;rw[rEqD_ss];refine⟨_,rfl,?_⟩;have G:decide ((⟨#[c]⟩:Str)=Str.ofString "?")=decide (c=63):=by
     have I:Str.ofString "?" = ⟨#[63]⟩:=by decide +kernel
     rw[I,bS];simp
    have u:sortS x=if c=63 then 0 else 1:=by unfold sortS;rw[hc];simp
    rw[G];by_cases h:c=63
    ·rw[ai (bg h)];refine⟨by decide,λp b=>?_⟩;have:Q (.ref p) (upd H p (.tup [.int (sortS x),.str x,.int 0])):=q p b;rw[u,ai h]at this;exact this
    ·rw[ab (by simpa using h)];refine⟨by decide,λp b=>?_⟩;have:Q (.ref p) (upd H p (.tup [.int (sortS x),.str x,.int 0])):=q p b;rw[u,ab h]at this;exact this
  ·obtain⟨a,vs,rfl,g,_,z,rfl,J,r⟩:=rep;cases J;have B:=Reps.len r;refine⟨false,nZ g,?_⟩;rw[ab (by decide)];refine⟨.str nm,by rw[ixV_t g,atI_zero],.int (ds.length+1),by rw[lenV_t g,aq,B];rfl,by decide,λp b=>?_⟩;exact q p b
def spKey:Sp:=λvs H Q _=>∃(d:D) (v:V),vs=[v]/\bD H d v/\Fl d/\nds d<=1000/\∀(l:Addr) (H':Hp),aH H H'->H l=none->bD (nw H H') (.lst ((key d).map mD)) (.ref l)->Q (.ref l) H'
def UF (ds:List D)(H d:Hp)(i:Nat)(a:List V)(σ:St)(b:Hp):Prop:=∃c:Option V,σ=[c]/\aH d b/\Reps (nw H b) (((ds.take i).map mrk).map mD) a
theorem A2 {H:Hp}{p:Addr}{m:M}(h:H p=some (.tup (mV m))):bD H (mD m) (.ref p):=⟨p,_,rfl,h,.int _,_,rfl,rfl,.str _,_,rfl,rfl,.int _,[],rfl,rfl,rfl⟩
theorem FG {H c b:Hp}(s:aH c b):aH (nw H c) (nw H b):=λa o e=>by obtain⟨f,d⟩:=eW.mp e;exact eW.mpr ⟨f,s _ _ d⟩
theorem RC {f:Addr}{O:FuncData}(F:fZ K "order_key" "order_key" eI f O)(T:Txt mg)(c:cC P w K mg base bA 1 "order_mark" C4)(g:cC P w K mg base bA 1 "walked" oO):bW P w K mg base bA 2 f O mJ spKey:=by
 refine F.ok yT (λvs H Q E h=>?_) (λcdv A outer s H vs Q E G h=>?_)
 ·obtain⟨d,v,rfl,_⟩:=h;rfl
 ·obtain⟨d,v,rfl,rep,u,j,q⟩:=h;have Y:=G.units
  refine⟨_,(aE (bN (a0 K rfl (aK aM rfl T.n_isinstance rfl (aA (pv 0) (aA (bV (v:=V.ty "str") rfl T.n_str rfl rfl) aB))) (λ_=>rfl)) (aG (aP (bR (aA (aL c (G.mono (by decide)) pass0 rfl (aA (pv 0) aB)) aB)))) aV)
   (aG (aP (g9 rfl (bF.by (N:=mT) (names:=(aD eI).names) (N':=["at"]) (src:=[none]) (by decide +kernel) rfl rfl) (dQ K rfl (aL g (G.mono (by decide)) pass0 rfl (aA (pv 0) aB))) (λ_ _ _ _=>(bO (i:=0) (show List.Nodup (["at"]:aQ)by decide +kernel) rfl (Or.inl rfl))) (λ_ _ _ _=>eB) (λ_ _ _ _=>(aL c (G.mono (by decide)) pass0 rfl (aA (pv 0) aB))))))),?_⟩
  simp only[mT];clear G F T Y c g;have keep:=aI q (aI rep (aI u j));clear q rep u j
  walk_at "rd"
  obtain⟨q,rep,u,j⟩:=keep;rcases jW u with⟨x,rfl,I,h2⟩|⟨nm,ds,rfl,fls⟩
  ·cases (show v = .str x from rep);refine⟨true,rfl,?_⟩;rw[ai rfl];refine⟨_,_,rfl,rep,u,λp t=>⟨by decide,λl r=>q l _ ((aH.upd t).trans (aH.upd r)) ((aH.upd t).free r) ?_⟩⟩;have hk:key (.str x)=[mrk (.str x)]:=by unfold key;rfl
   rw[hk];exact⟨l,[.ref p],rfl,eW.mpr ⟨(aH.upd t).free r,upd_same⟩,.ref p,[],rfl,A2 (eW.mpr ⟨t,by rw[aC (aF upd_same r)];exact upd_same⟩),rfl⟩
  ·obtain⟨b,hb⟩:∃b,isV H v (.ty "str")=some b/\b=false:=by obtain⟨a,vs,rfl,ha,_⟩:=rep;exact⟨false,nZ ha,rfl⟩
   refine⟨b,hb.1,?_⟩;rw[ab (by rw[hb.2];decide)];refine⟨_,v,H,rfl,aH.refl _,rep,PX u,j,λW R H1 B Z I C=>⟨W,rfl,R,.inl I,λJ hJ=>?_⟩⟩;have U:=Reps.len C;have lk:=sK (.tup (.str nm::ds));refine dA hJ (UF (wlk (.tup (.str nm::ds))) H H1) ⟨none,rfl,aH.refl _,rfl⟩ (λi z σ H' _ ⟨_,_,s2,_⟩=>by rw[I,s2 _ _ I]) ?_ ?_
   ·rintro i x z σ H2 X ⟨S,rfl,s2,o⟩;obtain⟨e,L,re⟩:=Reps.get C X;have la:=Reps.len o;refine⟨_,rfl,e,x,rfl,bD.same (B.trans s2) re,LU u e (bh L),λp t=>⟨aj (m:=1000) ?_ (by decide),_,rfl,s2.trans (aH.upd t),?_⟩⟩
    ·rw[ae,ae,bq]at la;omega
    ·rw[aW L,ay,ay];exact Reps.snoc (A2 (eW.mpr ⟨(B.trans s2).free t,upd_same⟩)) (Reps.same (FG (aH.upd t)) o)
   ·rintro z σ H2 ⟨S,rfl,s2,o⟩ l r;rw[U,br]at o;refine q l _ ((B.trans s2).trans (aH.upd r)) ((B.trans s2).free r) ?_;rw[FU u];exact⟨l,z,rfl,eW.mpr ⟨(B.trans s2).free r,upd_same⟩,Reps.same (FG (aH.upd r)) o⟩
noncomputable def opP (n:Str)(d:D):List D:=match d with
 | .tup (.str m::a)=>if m=n then a else [d]
 | d=>[d]
def pX:Sp:=λvs H Q _=>∃(n:Str) (d:D) (v:V),vs=[.str n,v]/\bD H d v/\Fl d/\∀(l:Addr) (ws:List V) (H':Hp),aH H H'->H l=none->H' l=some (.lst ws)->Reps H (opP n d) ws->Q (.ref l) H'
theorem DP {f:Addr}{z:FuncData}(F:fZ K "opened" "opened" i8 f z)(T:Txt mg):bW P w K mg base bA 1 f z vF pX:=by
 refine F.ok GZ (λvs H Q E h=>?_) (λG A outer s H vs Q E t h=>?_)
 ·obtain⟨n,d,v,rfl,_⟩:=h;rfl
 ·obtain⟨n,d,v,rfl,rep,i,q⟩:=h;have m:=t.units
  refine⟨_,(aE (bN (PW.pt (tU (a0 K rfl (aK aM rfl T.n_isinstance rfl (aA (pv 1) (aA (bV (v:=V.ty "tuple") rfl T.n_tuple rfl rfl) aB))) (λ_=>rfl)) (oW (aS (d9 m) (bQ cU (pv 1) aJ (λ_ _=>rfl)) (pv 0) (nomark _))))) (aG (aP (bH uZ rfl T.n_list rfl (aA (fX kR (pv 1) (fE aJ) gF) aB)))) aV)
   (aG (aP (bR (aA (pv 1) aB))))),?_⟩
  simp only[CH];clear t F T m;have keep:=aI q (aI rep i);clear q rep i
  walk_at "rd"
  obtain⟨q,rep,i⟩:=keep;have b:opP n d=[d]->1<=sizeLine/\∀(p:Addr),H p=none->Q (V.ref p) (upd H p (HO.lst [v])):=λe=>⟨by decide,λp g=>q p [v] _ (aH.upd g) g upd_same (by rw[e];exact⟨v,[],rfl,rep,rfl⟩)⟩
  rcases jW i with⟨x,rfl,J,I⟩|⟨nm,ds,rfl,B⟩
  ·cases (show v = .str x from rep);exact⟨false,rfl,by rw[ab (by decide)];exact b rfl⟩
  ·obtain⟨a,vs,rfl,j,_,c,rfl,C,r⟩:=id rep;cases C;refine⟨true,zT j,?_⟩;rw[ai rfl];refine⟨.str nm,by rw[ixV_t j,atI_zero],?_⟩;rw[rEqD_ss];refine⟨_,rfl,?_⟩;by_cases e:nm=n
   ·rw[ai (bg e)];refine⟨a,rfl,_,.inr j,λ_ h=>?_,λp o g ho=>?_⟩
    ·have:=h.1;simp[HT.sIx]at this
    ·rw[AE]at ho;refine⟨c,by rcases ho with⟨rfl,_⟩|⟨rfl,_⟩;rw[seqV_l upd_same];rw[seqV_t upd_same],λl u=>q l c _ ((aH.upd g).trans (aH.upd u)) ((aH.upd g).free u) upd_same ?_⟩;show Reps H (if nm=n then ds else [.tup (.str nm::ds)]) c;rw[ai e];exact r
   ·rw[ab (by simpa using e)];exact b (by show(if nm=n then ds else [.tup (.str nm::ds)])=_;rw[ab e])
end
end Lw
namespace L2
open PySem PySem.Spec PyProof.Rows PySem.W
noncomputable def iY (n:Nat)(lt:Nat->Nat->Bool){α:Type}:KasT α->(α->Prop)->Prop
 | .ret a,Q=>Q a
 | .ask i j k,Q=>i<n/\j<n/\iY n lt (k (lt i j)) Q
theorem iY.bind {n:Nat}{lt:Nat->Nat->Bool}{α β:Type}{f:α->KasT β}{Q:β->Prop}{R:α->Prop}(b:∀a,R a->iY n lt (f a) Q):∀{t:KasT α},iY n lt t R->iY n lt (t.bind f) Q
 | .ret a,h=>b a h
 | .ask i j k,h=>⟨h.1,h.2.1,iY.bind b h.2.2⟩
theorem iY.mono {n:Nat}{lt:Nat->Nat->Bool}{α:Type}{Q R:α->Prop}(b:∀a,R a->Q a):∀{t:KasT α},iY n lt t R->iY n lt t Q
 | .ret a,h=>b a h
 | .ask i j k,h=>⟨h.1,h.2.1,iY.mono b h.2.2⟩
structure SY (n:Nat)(lt:Nat->Nat->Bool):Prop where
 irr:∀i,lt i i=false
 asym:∀i j,lt i j=true->lt j i=false
 tr:∀i j k,lt j i=false->lt k j=false->lt k i=false
section
variable {n:Nat}{lt:Nat->Nat->Bool}
def le (lt:Nat->Nat->Bool)(i j:Nat):Prop:=lt j i=false
noncomputable abbrev pa (p:Array Nat)(i:Nat):Nat:=p.getD i 0
def Up (lt:Nat->Nat->Bool)(p:Array Nat)(k:Nat):Prop:=∀i j,i<=j->j<k->le lt (pa p i) (pa p j)
def Dn (lt:Nat->Nat->Bool)(p:Array Nat)(k:Nat):Prop:=∀i j,i<=j->j<k->le lt (pa p j) (pa p i)
def Gd (n:Nat)(p:Array Nat):Prop:=p.Perm (List.range n).toArray
theorem Gd.size {p:Array Nat}(h:Gd n p):p.size=n:=by have:=h.size_eq;simpa using this
theorem Gd.inn {p:Array Nat}(h:Gd n p)(b:1<=n)(i:Nat):pa p i<n:=by
 by_cases a:i<p.size
 ·have e:pa p i=p[i]:=by simp[pa,Array.getD,a]
  rw[e];have c:p[i]∈p.toList:=by simp
  have:=(Array.perm_iff_toList_perm.mp h).mem_iff.mp c
  simpa using this
 ·have e:pa p i=0:=by simp[pa,Array.getD,a]
  rw[e];exact b
theorem A7 {p q:Array Nat}{i j:Nat}(h:p[i]?=q[j]?):pa p i=pa q j:=by unfold pa;rw[Array.getD_eq_getD_getElem?,Array.getD_eq_getD_getElem?,h]
theorem kY {p:Array Nat}{i j:Nat}(a:j<=p.size)(k:Nat):pa (kas_rev p i j) k=if i<=k/\k<j then pa p (i+j - 1 - k)else pa p k:=by
 have e:=getElem?_mirror_all (xs:=p) (i:=i) a k;unfold kas_rev;by_cases h:i<=k/\k<j
 ·rw[ai h]at e⊢;exact A7 e
 ·rw[ab h]at e⊢;exact A7 e
theorem QZ {p:Array Nat}{src d:Nat}(c:src<p.size)(hd:d<=src)(k:Nat):pa (bubble p src d) k=if k=src - d then pa p src else if src - d<k/\k<=src then pa p (k - 1)else pa p k:=by
 have e:=getElem?_bubble (xs:=p) c d hd k;by_cases b:k=src - d
 ·rw[ai b]at e⊢;exact A7 e
 ·rw[ab b]at e⊢;by_cases a:src - d<k/\k<=src
  ·rw[ai a]at e⊢;exact A7 e
  ·rw[ab a]at e⊢;exact A7 e
theorem Gd.rev {p:Array Nat}(h:Gd n p)(i j:Nat):Gd n (kas_rev p i j):=(mirror_perm p i j _).trans h
theorem Gd.bub {p:Array Nat}(h:Gd n p)(i j:Nat):Gd n (bubble p i j):=(bubble_perm p i j).trans h
variable (O:SY n lt)
include O
theorem SY.le_refl (i:Nat):le lt i i:=O.irr i
theorem SY.le_trans {i j k:Nat}(a:le lt i j)(b:le lt j k):le lt i k:=O.tr i j k a b
theorem SY.le_of {i j:Nat}(h:lt i j=true):le lt i j:=O.asym i j h
theorem Up.snoc {p:Array Nat}{k:Nat}(h:Up lt p k)(d:1<=k)(e:le lt (pa p (k - 1)) (pa p k)):Up lt p (k+1):=by
 intro i j b f;by_cases a:j<k
 ·exact h i j b a
 ·have:j=k:=by omega
  subst this;by_cases c:i=j
  ·subst c;exact O.le_refl _
  ·exact O.le_trans (h i (j - 1) (by omega) (by omega)) e
theorem Dn.snoc {p:Array Nat}{k:Nat}(h:Dn lt p k)(d:1<=k)(e:le lt (pa p k) (pa p (k - 1))):Dn lt p (k+1):=by
 intro i j b f;by_cases a:j<k
 ·exact h i j b a
 ·have:j=k:=by omega
  subst this;by_cases c:i=j
  ·subst c;exact O.le_refl _
  ·exact O.le_trans e (h i (j - 1) (by omega) (by omega))
theorem vA {p:Array Nat}(g:Gd n p)(i:1<=n):∀(f k:Nat),1<=k->Up lt p k->iY n lt (kas_asc p f k) λm=>k<=m/\m<=k+f/\Up lt p m/\(m<k+f->lt (pa p m) (pa p (m - 1))=true)
 | 0,k,j,h=>⟨ac _,ac _,h,λz=>absurd z (bI _)⟩
 | f+1,k,j,h=>by
  refine⟨g.inn i _,g.inn i _,?_⟩;cases c:lt (p.getD k 0) (p.getD (k - 1) 0)with
  | true =>
   dsimp only;rw[ai rfl];exact⟨ac _,by omega,h,λ_=>c⟩
  | false =>
   dsimp only;rw[ab (by decide)];exact(vA g i f (k+1) (by omega) (Up.snoc O h j c)).mono λm ⟨a,b,d,e⟩=>⟨by omega,by omega,d,λz=>e (by omega)⟩
theorem n8 {p:Array Nat}{k:Nat}(g:Gd n p)(e:1<=n)(d:Up lt p k):∀(f l r:Nat),r - l<=f->l<=r->r<=k->(∀i,i<l->le lt (pa p i) (pa p k))->(∀i,r<=i->i<k->le lt (pa p k) (pa p i)) ->
  iY n lt (kas_place p k f l r) λm=>m<=k/\(∀i,i<m->le lt (pa p i) (pa p k))/\(∀i,m<=i->i<k->le lt (pa p k) (pa p i))
 | 0,l,r,t,o,a,j,h=>by
  have:l=r:=by omega
  subst this;exact⟨a,j,h⟩
 | f+1,l,r,t,o,a,j,h=>by
  unfold kas_place;by_cases b:l ≥ r
  ·rw[ai b];have:l=r:=by omega
   subst this;exact⟨a,j,h⟩
  ·rw[ab b];refine⟨g.inn e _,g.inn e _,?_⟩;cases c:lt (p.getD k 0) (p.getD ((l+r) / 2) 0)with
   | true =>
    dsimp only;rw[ai rfl];refine n8 g e d f l ((l+r) / 2) (by omega) (by omega) (by omega) j λi q s=>?_;exact O.le_trans (O.le_of c) (d _ _ q s)
   | false =>
    dsimp only;rw[ab (by decide)];refine n8 g e d f ((l+r) / 2+1) r (by omega) (by omega) a (λi q=>?_) h;exact O.le_trans (d i ((l+r) / 2) (by omega) (by omega)) c
theorem QB {p:Array Nat}{k l:Nat}(h:k<p.size)(b:Up lt p k)(r:l<=k)(o:∀i,i<l->le lt (pa p i) (pa p k))(m:∀i,l<=i->i<k->le lt (pa p k) (pa p i)):Up lt (bubble p k (k - l)) (k+1):=by
 have e:=QZ (p:=p) h (Nat.sub_le k l);have q:k - (k - l)=l:=by omega
 rw[q]at e;intro i j c s;rw[e i,e j];by_cases g:i=l
 ·rw[ai g];by_cases a:j=l
  ·rw[ai a];exact O.le_refl _
  ·rw[ab a,ai (by omega)];exact m _ (by omega) (by omega)
 ·rw[ab g];by_cases f:l<i/\i<=k
  ·rw[ai f,ab (by omega),ai (by omega)];exact b _ _ (by omega) (by omega)
  ·rw[ab f];by_cases a:j=l
   ·rw[ai a];exact o _ (by omega)
   ·rw[ab a];by_cases d:l<j/\j<=k
    ·rw[ai d];exact b _ _ (by omega) (by omega)
    ·rw[ab d];exact b _ _ c (by omega)
theorem CD (d:1<=n):∀(f:Nat) (p:Array Nat) (k:Nat),Gd n p->k+f<=n->Up lt p k->iY n lt (kas_bin f p k) λq=>Gd n q/\Up lt q (k+f)
 | 0,p,k,g,e,a=>⟨g,a⟩
 | f+1,p,k,g,e,a=>by
  unfold kas_bin;refine iY.bind (R:=λm=>m<=k/\(∀i,i<m->le lt (pa p i) (pa p k))/\(∀i,m<=i->i<k->le lt (pa p k) (pa p i))) (λm b=>?_) (n8 O g d a k 0 k (by omega) (by omega) (ac _) (λi c=>absurd c (Nat.not_lt_zero _)) λi c e=>absurd c (by omega));refine(CD d f (bubble p k (k - m)) (k+1) (g.bub _ _) (by omega) (QB O (by rw[g.size];omega) a b.1 b.2.1 b.2.2)).mono λq h=>⟨h.1,?_⟩
  rw[show k+(f+1)=k+1+f by omega];exact h.2
def SB (lt:Nat->Nat->Bool)(p:Array Nat)(n q:Nat):Prop:=∀i j,n - (q+1)<=i->i<n->n - (q+1)<=j->j<n->le lt (pa p i) (pa p j)
theorem LY {p:Array Nat}{k q:Nat}(b:k<=p.size)(e:Dn lt p k)(eq:SB lt p k q):Dn lt (kas_rev p (k - (q+1)) k) k:=by
 intro i j a f;rw[kY b,kY b];by_cases d:k - (q+1)<=i/\i<k
 ·rw[ai d,ai (by omega)];exact eq _ _ (by omega) (by omega) (by omega) (by omega)
 ·rw[ab d];by_cases c:k - (q+1)<=j/\j<k
  ·rw[ai c];exact e _ _ (by omega) (by omega)
  ·rw[ab c];exact e _ _ a f
theorem tY {p:Array Nat}{i j:Nat}(a:j<=p.size){k:Nat}(h:j<=k):pa (kas_rev p i j) k=pa p k:=by rw[kY a,ab (by omega)]
theorem nE (e:1<=n):∀(f:Nat) (p:Array Nat) (k q:Nat),Gd n p->1<=k->k+f<=n->q+1<=k->Dn lt p k->SB lt p k q->iY n lt (kas_desc f p k q) λr=>Gd n r.1/\k<=r.2.1/\r.2.1<=k+f/\r.2.2+1<=r.2.1/\Dn lt r.1 r.2.1/\SB lt r.1 r.2.1 r.2.2
 | 0,p,k,q,g,l,w,o,h,eq=>⟨g,ac _,ac _,o,h,eq⟩
 | f+1,p,k,q,g,l,w,o,h,eq=>by
  refine⟨g.inn e _,g.inn e _,?_⟩;have one:∀s:Array Nat,SB lt s (k+1) 0:=λs i j a b c d=>by
   have:i=k:=by omega
   have:j=k:=by omega
   subst_vars
   exact O.le_refl _
  have more:∀r:Array Nat×Nat×Nat,(Gd n r.1/\k+1<=r.2.1/\r.2.1<=k+1+f/\r.2.2+1<=r.2.1/\Dn lt r.1 r.2.1/\SB lt r.1 r.2.1 r.2.2)->(Gd n r.1/\k<=r.2.1/\r.2.1<=k+(f+1)/\r.2.2+1<=r.2.1/\Dn lt r.1 r.2.1/\SB lt r.1 r.2.1 r.2.2):=λr ⟨a,b,c,d⟩=>⟨a,by omega,by omega,d⟩
  have hz:k<=p.size:=by rw[g.size];omega
  cases c:lt (p.getD k 0) (p.getD (k - 1) 0)with
  | true =>
   dsimp only;rw[ai rfl];have t:=O.le_of c;by_cases v:q > 0
   ·rw[ai v];have C:=LY O hz h eq;have B:pa (kas_rev p (k - (q+1)) k) k=pa p k:=tY O hz (ac _);have A:le lt (pa p k) (pa (kas_rev p (k - (q+1)) k) (k - 1)):=by rw[kY hz,ai (by omega)];exact O.le_trans t (eq _ _ (by omega) (by omega) (by omega) (by omega))
    exact(nE e f _ (k+1) 0 (g.rev _ _) (by omega) (by omega) (by omega) (Dn.snoc O C l (by rw[B];exact A)) (one _)).mono more
   ·rw[ab v];exact(nE e f p (k+1) 0 g (by omega) (by omega) (by omega) (Dn.snoc O h l t) (one _)).mono more
  | false =>
   dsimp only;rw[ab (by decide)];refine⟨g.inn e _,g.inn e _,?_⟩;cases c2:lt (p.getD (k - 1) 0) (p.getD k 0)with
   | true =>
    dsimp only;rw[ai rfl];exact⟨g,ac _,by show k<=k+(f+1);omega,o,h,eq⟩
   | false =>
    dsimp only;rw[ab (by decide)];refine(nE e f p (k+1) (q+1) g (by omega) (by omega) (by omega) (Dn.snoc O h l c2) ?_).mono more;have F:le lt (pa p (k - 1)) (pa p k):=c;have E:le lt (pa p k) (pa p (k - 1)):=c2;intro i j H z G x;by_cases u:i=k
    ·by_cases m:j=k
     ·subst u;subst m;exact O.le_refl _
     ·subst u;exact O.le_trans E (eq _ _ (by omega) (by omega) (by omega) (by omega))
    ·by_cases m:j=k
     ·subst m;exact O.le_trans (eq _ _ (by omega) (by omega) (by omega) (by omega)) F
     ·exact eq _ _ (by omega) (by omega) (by omega) (by omega)
theorem MR {p:Array Nat}{k:Nat}(a:k<=p.size)(c:Dn lt p k):Up lt (kas_rev p 0 k) k:=by intro i j b d;rw[kY a,kY a,ai (by omega),ai (by omega)];exact c _ _ (by omega) (by omega)
theorem u9 (b:1<=n){p:Array Nat}{k m:Nat}(g:Gd n p)(c:1<=k)(f:k<=m)(e:m<=n)(d:Dn lt p k):iY n lt (kas_tail3 k m p) λr=>Gd n r.2/\1<=r.1/\r.1<=m/\Up lt r.2 r.1:=by
 have hz:k<=p.size:=by rw[g.size];omega
 unfold kas_tail3;refine iY.bind (λa h=>?_) (vA O (g.rev 0 k) b (m - k) k c (MR O hz d));exact⟨g.rev 0 k,by have:=h.1;show 1<=a;omega,by have:=h.2.1;show a<=m;omega,h.2.2.1⟩
theorem nM (l:1<=n){p:Array Nat}{k m:Nat}(g:Gd n p)(u:1<=k)(t:k+1<=m)(o:m<=n)(s:Dn lt p (k+1)):iY n lt (kas_descPart k m p) λr=>Gd n r.2/\1<=r.1/\r.1<=m/\Up lt r.2 r.1:=by
 unfold kas_descPart
 refine iY.bind (λr h=>?_) (nE O l (m - (k+1)) p (k+1) 0 g (by omega) (by omega) (by omega) s λi j a b c d=>by
  have:i=k:=by omega
  have:j=k:=by omega
  subst_vars
  exact O.le_refl _)
 obtain⟨a,b,c,d,e,f⟩:=h;by_cases q:r.2.2 > 0
 ·rw[ai q];exact u9 O l (a.rev _ _) (by omega) (by omega) o (LY O (by rw[a.size];omega) e f)
 ·rw[ab q];exact u9 O l a (by omega) (by omega) o e
theorem EM (d:1<=n){p:Array Nat}(g:Gd n p):iY n lt (kas_count n p) λr=>Gd n r.2/\1<=r.1/\r.1<=n/\Up lt r.2 r.1:=by
 unfold kas_count
 refine iY.bind (λm h=>?_) (vA O g d (n - 1) 1 (ac _) λi j a b=>by
  have:i=0:=by omega
  have:j=0:=by omega
  subst_vars
  exact O.le_refl _)
 obtain⟨l,w,f,s⟩:=h;by_cases e:m=n
 ·rw[ai (by simpa using e)];exact⟨g,l,by show m<=n;omega,f⟩
 ·rw[ab (by simpa using e)];have u:=s (by omega);by_cases t:m > 1
  ·rw[ai t];refine⟨g.inn d _,g.inn d _,?_⟩;cases c:lt (p.getD 0 0) (p.getD (m - 1) 0)with
   | true =>
    dsimp only;rw[ai rfl];exact⟨g,l,by show m<=n;omega,f⟩
   | false =>
    dsimp only;rw[ab (by decide)];have hz:m<=p.size:=by rw[g.size];omega
    have all:∀i j,i<m->j<m->le lt (pa p i) (pa p j):=λi j v o=>O.le_trans (O.le_trans (f i (m - 1) (by omega) (by omega)) c) (f 0 j (by omega) o);refine nM O d (g.rev 0 m) l (by omega) (ac _) (Dn.snoc O (λi j q o=>?_) l ?_)
    ·rw[kY hz,kY hz,ai (by omega),ai (by omega)];exact all _ _ (by omega) (by omega)
    ·rw[tY O hz (ac _),kY hz,ai (by omega)];exact O.le_trans (O.le_of u) (all _ _ (by omega) (by omega))
  ·rw[ab t];have:m=1:=by omega
   subst this;refine nM O d g (ac _) (by omega) (ac _) (Dn.snoc O (λi j q o=>?_) (ac _) (O.le_of u));have:i=0:=by omega
   have:j=0:=by omega
   subst_vars
   exact O.le_refl _
theorem I8 (c:1<=n):iY n lt (kas_sort n) λq=>Gd n q/\Up lt q n:=by
 unfold kas_sort;refine iY.bind (λr h=>?_) (EM O c (Array.Perm.refl _));obtain⟨g,e,d,a⟩:=h;by_cases h:r.1<n
 ·rw[ai h,show max r.1 1=r.1 by omega];refine(CD O c (n - r.1) r.2 r.1 g (by omega) a).mono λq b=>⟨b.1,?_⟩
  rw[←show r.1+(n - r.1)=n by omega];exact b.2
 ·rw[ab h];have:r.1=n:=by omega
  rw[this]at a;exact⟨g,a⟩
end
theorem GG {n:Nat}{lt:Nat->Nat->Bool}{α:Type}{b:Nat->Nat->(Bool->Shared->Prop)->Shared->Prop}(J:Shared->Prop)(hc:∀i j C s,i<n->j<n->J s->(∀c,J c->C (lt i j) c)->b i j C s){Q:α->Prop}{R:α->Shared->Prop}(f:∀a s,J s->Q a->R a s) :
  ∀{t:KasT α},iY n lt t Q->∀s,J s->t.kasWp b R s
 | .ret a,h,s,e=>f a s e h
 | .ask i j k,h,s,e=>hc i j _ s h.1 h.2.1 e λc d=>GG J hc f h.2.2 c d
end L2
namespace L2
open PySem PySem.Spec PyProof.Rows PySem.SeqAt
open PySem.AutoSeq1 (wpAny_loadPart')
open PySem.MeetsSeq PySem.MeetsSeq2 PySem.MeetsSeq3
def PD (A:Around)(s:Shared)(y x:Value)(b:Bool):Prop:=∀(prog:Program) (w:World) (E:cE) (Q:cE),Q (.bool b) s->wpAny (model prog w) A (richCompare .Lt y x) Q E s
inductive v8 (A:Around)(s:Shared):bX->bX->Bool->Prop
 | nn:v8 A s [] [] false
 | nc {v:Value} {vs:bX}:v8 A s [] (v::vs) true
 | cn {u:Value} {us:bX}:v8 A s (u::us) [] false
 | eq {u v:Value} {us vs:bX} {b:Bool}:EqAt A s u v true->v8 A s us vs b->v8 A s (u::us) (v::vs) b
 | ne {u v:Value} {us vs:bX} {b:Bool}:EqAt A s u v false->PD A s u v b->v8 A s (u::us) (v::vs) b
def R6 (us:jK)(i:Nat)(xs:bX):Prop:=i<=us.size/\us.toList.drop i=xs
theorem R6.end_ {us:jK}{i:Nat}(h:R6 us i []):us.size=i/\us[i]?=none:=by have e:=congrArg List.length h.2;rw[bu,bo,List.length_nil]at e;have:=h.1;exact⟨by omega,Array.getElem?_eq_none (by omega)⟩
theorem R6.next {us:jK}{i:Nat}{x:Value}{xs:bX}(h:R6 us i (x::xs)):i<us.size/\us[i]?=some x/\R6 us (i+1) xs:=by
 have e:=congrArg List.length h.2;rw[bu,bo,aq]at e;have lt:i<us.toList.length:=by rw[bo];omega
 have a:=h.2;rw[List.drop_eq_getElem_cons lt]at a;injection a with c b;rw[bo]at lt;refine⟨lt,?_,lt,b⟩;rw[Array.getElem?_eq_getElem lt,←c];rfl
noncomputable abbrev vN (l b:Addr)(ol ob:Obj)(xs ys:bX):PySem.Spec:=λA R s=>s.heap.get? l=some ol/\s.heap.get? b=some ob/\∃r,v8 A.in1 s xs ys r/\R (.ok (.ret (.bool r))) s
theorem tD {l b:Addr}{ol a:Obj}{xs ys:bX}{i:Nat}{prog:Program}{w:World}{A:Around}{R:Result->Shared->Prop}{s:Shared}(m:Meets (Builtin.«list.__eq__.loop» (ltAsk l b i)) (vN l b ol a xs ys))(h:vN l b ol a xs ys A R s) :
  (Code.builtin "list.__eq__.loop" (ltAsk l b i)).quiet=true/\codeAny (model prog w) A (.builtin "list.__eq__.loop" (ltAsk l b i)) R s:=by
 refine⟨plainId_quiet plain_eq_loop (ltAsk l b i),codeAny_builtin entry_eq_loop ?_⟩;have u:=A.under_plainId plain_eq_loop (ltAsk l b i);rw[u];exact m prog w A R s h
theorem wG (l b:Addr)(us vs:jK)(n k:Nat)(u t:Option Addr)(p o:Array (Option Value)):∀(xs ys:bX) (i:Nat),R6 us i xs->R6 vs i ys ->
  Meets (Builtin.«list.__eq__.loop» (ltAsk l b i)) (vN l b {cls:=.type "list",dict:=u,data:=.seq us n,slots:=p} {cls:=.type "list",dict:=t,data:=.seq vs k,slots:=o} xs ys)
 | [],ys,i,f,g=>by
  rintro prog w A R ⟨q,s,d,tk,os⟩ ⟨a,c,r,hc,h⟩;obtain⟨z,no⟩:=f.end_;have e:r=decide (us.size<vs.size):=by
   cases hc with
   | nn=>exact(bi (by rw[z,(g.end_).1];exact bI _)).symm
   | nc=>exact(bg (by rw[z];exact(g.next).1)).symm
  rw[e]at h
  wp_walk using bf a,bf c
  rw[show((i:Nat):Int).toNat=i from rfl,no];cases vs[i]? <;> wp_walk using bf a,bf c <;> exact h
 | x::xs,[],i,f,g=>by
  rintro prog w A R ⟨q,s,d,tk,os⟩ ⟨a,c,r,hc,h⟩;obtain⟨z,no⟩:=g.end_;obtain⟨lt,is,_⟩:=f.next
  cases hc;have e:false=decide (us.size<vs.size):=(bi (by omega)).symm;rw[e]at h
  wp_walk using bf a,bf c
  rw[show((i:Nat):Int).toNat=i from rfl,no,is]
  wp_walk using bf a,bf c
  exact h
 | x::xs,y::ys,i,f,g=>by
  have go:=wG l b us vs n k u t p o xs ys (i+1) (f.next).2.2 (g.next).2.2;rintro prog w A R ⟨q,s,d,tk,os⟩ ⟨a,c,r,hc,h⟩;obtain⟨_,m,_⟩:=f.next
  obtain⟨_,isV,_⟩:=g.next
  wp_walk using bf a,bf c
  rw[show((i:Nat):Int).toNat=i from rfl,m,isV];cases hc with
  | eq asked rest =>
   refine aa (asked prog w _ _ ?_)
   wp_walk
   exact tD go ⟨a,c,r,rest,h⟩
  | ne asked j =>
   refine aa (asked prog w _ _ ?_);have j:=j prog w
   wp_walk using bf a,bf c
   rw[m,isV]
   wp_walk using j
   exact h
theorem zL (l b:Addr)(us vs:jK)(n k:Nat)(i g:Option Addr)(f e:Array (Option Value)) :
  Meets (Builtin.«list.__lt__» ⟨[.ref l,.ref b],[]⟩) (vN l b {cls:=.type "list",dict:=i,data:=.seq us n,slots:=f} {cls:=.type "list",dict:=g,data:=.seq vs k,slots:=e} us.toList vs.toList):=by
 have go:=wG l b us vs n k i g f e us.toList vs.toList 0 ⟨av _,rfl⟩ ⟨av _,rfl⟩;rintro prog w A R ⟨j,m,d,tk,os⟩ ⟨a,c,h⟩;have kind:=AutoSeq1.sub_list_list
 wp_walk using bf a,bf c
 exact tD go ⟨a,c,h⟩
theorem vQ (l b:Addr)(us vs:jK)(n k:Nat)(E C:Option Addr)(t s:Array (Option Value)) :
  Meets (Builtin.«tuple.__lt__» ⟨[.ref l,.ref b],[]⟩) (vN l b {cls:=.type "tuple",dict:=E,data:=.seq us n,slots:=t} {cls:=.type "tuple",dict:=C,data:=.seq vs k,slots:=s} us.toList vs.toList):=by
 refine .of_wp λprog w A R u h=>?_;obtain⟨q,g,d,tk,os⟩:=u;obtain⟨z,B,r,hc,h⟩:=h;have f2:=AutoSeq1.sub_tuple_tuple
 wp_walk using bf z,bf B,wpAny_forIn_list _ (λrest b m=>b.1=none/\m=⟨q,g,d,tk,os⟩/\∃(xs ys:bX),rest=xs.zip ys/\v8 A.in1 ⟨q,g,d,tk,os⟩ xs ys r/\xs.length+vs.size=ys.length+us.size) _
 case turn =>
  rintro⟨y,x⟩ rest b m ⟨j,rfl,xs,ys,hz,i,a⟩;cases i with
  | nn=>cases hz
  | nc=>cases hz
  | cn=>cases hz
  | eq asked more =>
   rw[List.zip_cons_cons]at hz;injection hz with f e;injection f with o p;subst o p;simp only[aq]at a;refine aa (asked prog w _ _ ?_)
   wp_walk
   exact⟨rfl,rfl,_,_,e,more,by omega⟩
  | ne asked c =>
   rw[List.zip_cons_cons]at hz;injection hz with f e;injection f with o p;subst o p;refine aa (asked prog w _ _ ?_);have c:=c prog w
   wp_walk using c
   refine⟨_,rfl,?_⟩
   simpa using h
 case fin =>
  rintro⟨G,F⟩ m ⟨j,rfl,xs,ys,hz,i,a⟩;simp only at j;subst j;have v:r=decide (us.size<vs.size):=by
   cases i with
   | nn =>
    simp only[List.length_nil]at a;exact(bi (by omega)).symm
   | nc =>
    simp only[List.length_nil,aq]at a;exact(bg (by omega)).symm
   | cn =>
    simp only[List.length_nil,aq]at a;exact(bi (by omega)).symm
   | eq _ _=>rw[List.zip_cons_cons]at hz;cases hz
   | ne _ _=>rw[List.zip_cons_cons]at hz;cases hz
  rw[v]at h
  wp_walk
  exact⟨_,rfl,by simpa [Builtin.Tuple.tupleCompareSizes] using h⟩
 case h =>
  exact⟨rfl,rfl,us.toList,vs.toList,rfl,hc,by simp[Nat.add_comm]⟩
end L2
namespace Lw
open PySem PySem.Spec PyProof.Rows PySem.SeqAt L2
theorem LW (m b:M):eqD (mD m) (mD b)=decide (m=b):=by obtain⟨a,x,c⟩:=m;obtain⟨i,g,h⟩:=b;rw[bS];simp[mD,eqD,eqDs];exact⟨λ⟨f,d,e⟩=>⟨by omega,d,by omega⟩,λ⟨f,d,e⟩=>⟨by omega,d,by omega⟩⟩
theorem GS (A:Around)(s:Shared)(x y:Str)(t u:Tok):PD A s (.str x t) (.str y u) (sL x y):=λprog w E Q h=>(lt_str h:wpAny (model prog w) A (compareOp .Lt (.str x t) (.str y u)) Q E s)
theorem xD (A:Around)(s:Shared)(x y:Int)(t u:Tok):PD A s (.int x t) (.int y u) (decide (x<y)):=λprog w E Q h=>HT.rcLt_int A s x t y u prog w E Q h
section
variable {P:Program}{w:World}{H:Hp}{s:Shared}
theorem vals3 {a b c:V}{us:bX}(h:aY [a,b,c] us):∃u v x,us=[u,v,x]/\aX a u/\aX b v/\aX c x:=by
 cases h with
 | cons r1 h =>
  obtain⟨v,x,rfl,e,d⟩:=aY.two h;exact⟨_,v,x,rfl,r1,e,d⟩
theorem BI (ok:hV P w H s.heap){m:M}{v:V}{u:Value}(h:bD H (mD m) v)(r:aX v u):∃p t1 a t3,u = .ref p/\s.heap.IsTuple p #[.int m.1 t1,.str m.2.1 a,.int m.2.2 t3]:=by obtain⟨p,vs,rfl,e,q,r1,rfl,j,o,A,rfl,i,l,c,rfl,g,f⟩:=h;cases j;cases i;cases g;cases (show c=[]from f);cases r;obtain⟨its,b,d⟩:=jS ok e;obtain⟨z,x,t,rfl,⟨t1,rfl⟩,⟨a,rfl⟩,⟨t3,rfl⟩⟩:=vals3 b;exact⟨p,t1,a,t3,rfl,d⟩
theorem OG (ok:hV P w H s.heap)(A:Around)(hu:A.units+8<cLine){m C:M}{v O:V}{u R:Value}(h:bD H (mD m) v)(h':bD H (mD C) O)(r:aX v u)(X:aX O R)(ne:m≠C):PD A s u R (ltM m C):=by
 obtain⟨p,t1,S,t3,rfl,⟨⟨c,dd,dt,W⟩,ho,hc,n,hd⟩⟩:=BI ok h r;obtain⟨Y,l,j,i,rfl,⟨⟨c',N,dt',J⟩,o,B,Z,t⟩⟩:=BI ok h' X;simp only at hc hd B t;subst hc hd B t;obtain⟨a,x,b⟩:=m;obtain⟨f,g,d⟩:=C;have q:v8 A.in1 s [.int a t1,.str x S,.int b t3] [.int f l,.str g j,.int d i] (ltM (a,x,b) (f,g,d)):=by
  have K:A.in1.units+0<cLine:=by rw[fB];omega
  have I:=eqAtD ok (.int a) (.int f) A.in1 (.int a) (.int f) (.int a t1) (.int f l) rfl rfl ⟨_,rfl⟩ ⟨_,rfl⟩ K;have G:=eqAtD ok (.str x) (.str g) A.in1 (.str x) (.str g) (.str x S) (.str g j) rfl rfl ⟨_,rfl⟩ ⟨_,rfl⟩ K;have U:=eqAtD ok (.int b) (.int d) A.in1 (.int b) (.int d) (.int b t3) (.int d i) rfl rfl ⟨_,rfl⟩ ⟨_,rfl⟩ K;unfold ltM;dsimp only;by_cases T:a=f
  ·subst T;rw[ai rfl];refine .eq (by rw[fN]at I;exact I) ?_;by_cases L:x=g
   ·subst L;rw[ai rfl];refine .eq (by rw[fN]at G;exact G) ?_;have h3:b≠d:=λz=>ne (by rw[z]);have e:eqD (.int (b:Int)) (.int (d:Int))=false:=by show((b:Int) == (d:Int))=false;simp;omega
    rw[e]at U;have:decide (b<d)=decide ((b:Int)<(d:Int)):=by rw[bS];simp
    rw[this];exact .ne U (xD _ _ _ _ _ _)
   ·rw[ab L];have e:eqD (.str x) (.str g)=false:=by
     show(x == g)=false
     simpa using L
    rw[e]at G;exact .ne G (GS _ _ _ _ _ _)
  ·rw[ab T];have e:eqD (.int (a:Int)) (.int (f:Int))=false:=by show((a:Int) == (f:Int))=false;simp;omega
   rw[e]at I;have:decide (a<f)=decide ((a:Int)<(f:Int)):=by rw[bS];simp
   rw[this];exact .ne I (xD _ _ _ _ _ _)
 intro prog w' E Q hq;exact richCompare_meets_room (op:=.Lt) ⟨_,ho,rfl⟩ ⟨_,o,rfl⟩ PySem.F.slot_tuple_lt PySem.F.entry_tuple_lt (PySem.F.args_tuple_lt_2 _ _) (vQ p Y _ _ n Z dd N W J)
  ⟨ho,o,_,q,show Value.bool _≠Value.notImplemented/\Q _ s from⟨(λx=>nomatch x),hq⟩⟩ (by omega)
theorem w8 (ok:hV P w H s.heap)(A:Around)(p:A.units+8<cLine):∀(ks c:List M) (vs a:List V) (us b:bX),Reps H (ks.map mD) vs->Reps H (c.map mD) a->aY vs us->aY a b->v8 A s us b (lexK ks c)
 | [],[],vs,a,us,b,h,h',r,d=>by
  cases (show vs=[]from h);cases (show a=[]from h');cases r.zero;cases d.zero;exact .nn
 | [],j::c,vs,a,us,b,h,⟨u,z,o,_,_⟩,r,d=>by
  cases (show vs=[]from h);subst o;cases r.zero;cases d;exact .nc
 | m::ks,[],vs,a,us,b,⟨x,q,e,_,_⟩,h',r,d=>by
  cases (show a=[]from h');subst e;cases d.zero;cases r;exact .cn
 | m::ks,j::c,vs,a,us,b,⟨x,q,e,t,B⟩,⟨u,z,o,g,l⟩,r,d=>by
  subst e o;cases r with
  | cons r1 v =>
   cases d with
   | cons f i =>
    have e:=eqAtD ok (mD m) (mD j) A _ _ _ _ t g r1 f (by
     have:depD (mD m)=1:=rfl
     omega)
    rw[LW]at e;rw[lexK];by_cases ne:m=j
    ·rw[ai ne];rw[bg ne]at e;exact .eq e (w8 ok A p ks c _ _ _ _ B l v i)
    ·rw[ab ne];rw[bi ne]at e;exact .ne e (OG ok A p t g r1 f ne)
theorem uK (ok:hV P w H s.heap){ks:List M}{v:V}{u:Value}(h:bD H (.lst (ks.map mD)) v)(r:aX v u):∃l vs us,u = .ref l/\Reps H (ks.map mD) vs/\aY vs us/\s.heap.IsList l us.toArray:=by obtain⟨l,vs,rfl,d,c⟩:=h;cases r;obtain⟨us,b,a⟩:=iH ok d;exact⟨l,vs,us,rfl,c,b,a⟩
theorem BT (ok:hV P w H s.heap)(A:Around)(O:A.units+16<cLine){ks a:List M}{v t:V}{u i:Value}(h:bD H (.lst (ks.map mD)) v)(h':bD H (.lst (a.map mD)) t)(r:aX v u)(B:aX t i) :
  s.TypeIs u "list"/\s.TypeIs i "list"/\∀(prog:Program) (w:World) (E:cE) (Q:cE),Q (.bool (lexK ks a)) s->wpAny (model prog w) A (call (.builtin "list.__lt__") [u,i]) Q E s:=by
 obtain⟨l,vs,us,rfl,I,z,K⟩:=uK ok h r;obtain⟨G,f,g,rfl,o,m,p⟩:=uK ok h' B;obtain⟨⟨c,N,R,x⟩,ho,hc,n,hd⟩:=id K;obtain⟨⟨S,q,L,j⟩,b,e,C,d⟩:=id p;simp only at hc hd e d;subst hc hd e d;refine⟨⟨_,ho,rfl⟩,⟨_,b,rfl⟩,λprog w E Q J=>?_⟩;exact call_meets PySem.F.slot_list_lt ⟨_,ho,rfl⟩ PySem.F.entry_list_lt (PySem.F.args_list_lt_2 _ _) (zL l G _ _ n C N q x j) ⟨ho,b,_,w8 ok A.in1 (by rw[fB];omega) ks a vs f us g I o z m,J⟩
end
end Lw
namespace L2
open PySem PySem.Spec PyProof.Rows
theorem aR.adopt {X:Cx}{d:cY}{σ:St}{H:Hp}{s:Shared}{a:Addr}{o:HO}(I:aR X d σ H s)(f:fV X d H a)(new:bZ X.prog X.w (upd H a o) s.heap a o):aR X d σ (upd H a o) s:=by
 obtain⟨f0,f1,f2,f3,f4,v⟩:=f;have keep:∀b u,H b=some u->upd H a o b=some u:=λb u e=>by rw[aC (aF e f0)];exact e
 refine {ok:=I.ok,os:=I.os,bare:=I.bare,base:=?_,loc:=I.loc,cell:=I.cell,free:=?_,freeC:=?_,pin:=?_,hok:=?_,len:=I.len}
 ·have u:=I.base
  exact {
   keep:=u.keep,slot:=u.slot,there:=u.there,tups:=λb xs e=>keep _ _ (u.tups b xs e),frzs:=λb q r e=>keep _ _ (u.frzs b q r e),
   tbls:=λb ps e=>by obtain⟨more,h⟩:=u.tbls b ps e;exact⟨more,keep _ _ h⟩,
   free:=λb q e n g=>by
    have ne:b≠a:=λz=>by
     rcases f3 with h|h
     ·exact g (z ▸ h)
     ·exact bI _ (bd (ba e) (z ▸ h))
    rw[aC ne]
    exact u.free b q e n g}
 ·rw[aC (Ne.symm f1)];exact I.free
 ·intro x c e;rw[aC (f4 x c e)];exact I.freeC x c e
 ·intro p i;obtain⟨t,m,l⟩:=I.pin p i;exact⟨t,by rw[aC (v p i)];exact m,l⟩
 ·intro b u e;by_cases j:b=a
  ·subst j;rw[upd_same]at e;cases e;exact new
  ·rw[aC j]at e;exact(I.hok b u e).stay (λ_ _ _ q=>q) (λc q=>keep _ _ q) (λc xs q=>keep _ _ q)
theorem fV.at {X:Cx}{a:cY}{H H':Hp}{b:Addr}(f:fV X a H b)(h:H' b=none):fV X a H' b:=⟨h,f.2⟩
end L2
namespace Lw
open PySem PySem.Spec PyProof.Rows PySem.SeqAt PySem.W L2
noncomputable def kyD (d:D):D:=.lst ((key d).map mD)
theorem O3 {P:Program}{w:World}{H:Hp}{s:Shared}(ok:hV P w H s.heap)(A:Around)(i:A.units+32<cLine){d e:D}{v b:V}{u c:Value}(h:bD H (kyD d) v)(h':bD H (kyD e) b)(r:aX v u)(f:aX b c){prog:Program}{a:World}{E:cE}{Q:Bool->Shared->Prop}
  (q:Q (lexK (key d) (key e)) s):wpAny (model prog a) A (keyLt' oneType' u c) Q E s:=by
 obtain⟨t1,g,t3⟩:=BT ok A (by omega) h h' r f;rw[keyLt'_oneType,oneLt'_eq,ai rfl];refine aa (wpAny_cRoomFor (by omega) (aa (wpAny_callSpecialIfBound?_slot t1 F.slot_list_lt (t3 prog a _ _ ?_))));exact wpAny_truthy_bool q
theorem D2 {M:Model}{h:Heap}{l:Addr}{us:jK}(a:h.IsList l us):Looks M h (typeOf (.ref l)) (.type "list"):=λA Q E s k q=>by obtain⟨o,ho,hc,_⟩:=a;exact wpAny_typeOf ⟨o,k _ _ ho,hc⟩ q
noncomputable def ltI (ds:List D)(i j:Nat):Bool:=lexK (key (ds.getD i .non)) (key (ds.getD j .non))
theorem KG (n:Nat)(ds:List D):SY n (ltI ds):=⟨λi=>pD _,λi j h=>qM h,λi j k b a=>uH a b⟩
theorem zS {ks is:bX}{i:Nat}(h:ks.length=is.length)(a:i<is.length):kas_item (ks.toArray.zip is.toArray) i=(ks.getD i .none,is.getD i .none):=by
 unfold kas_item;have c:i<(ks.toArray.zip is.toArray).size:=by simp;omega
 rw[Array.getD_eq_getD_getElem?,Array.getElem?_eq_getElem c];have b:i<ks.length:=by omega
 simp[a,b]
theorem pG {H:Hp}{ds:List D}{vs:List V}(h:Reps H ds vs){i:Nat}(a:i<ds.length):bD H (ds.getD i .non) (vs.getD i .non):=by
 obtain⟨v,b,r⟩:=Reps.get' h (ax a);have d:ds.getD i .non=ds[i]:=by simp[a]
 have c:vs.getD i .non=v:=by rw[List.getD_eq_getElem?_getD,b];rfl
 rw[d,c];exact r
theorem pF {vs:List V}{us:bX}(h:aY vs us){i:Nat}(a:i<vs.length):aX (vs.getD i .non) (us.getD i .none):=by
 obtain⟨u,b,r⟩:=h.get (ax a);have d:vs.getD i .non=vs[i]:=by simp[a]
 have c:us.getD i .none=u:=by rw[List.getD_eq_getElem?_getD,b];rfl
 rw[d,c];exact r
theorem A1 {H:Hp}{ds:List D}{vs:List V}(h:Reps H ds vs):∀(l:List Nat),(∀i∈l,i<ds.length)->Reps H (l.map λi=>ds.getD i .non) (l.map λi=>vs.getD i .non)
 | [],_=>rfl
 | i::l,a=>⟨_,_,rfl,pG h (a i aw),A1 h l λj b=>a j (az _ b)⟩
theorem AR {vs:List V}{us:bX}(h:aY vs us):∀(l:List Nat),(∀i∈l,i<vs.length)->aY (l.map λi=>vs.getD i .non) (l.map λi=>us.getD i .none)
 | [],_=>.nil
 | i::l,a=>.cons (pF h (a i aw)) (AR h l λj b=>a j (az _ b))
theorem K7 (ds:List D):(List.range ds.length).map (λi=>ds.getD i .non)=ds:=by
 apply List.ext_getElem
 ·simp
 ·intro i b a;simp[a]
section
variable {X:Cx}{pins:cY}{σ:L2.St}{H Hj:Hp}{s:Shared}{a kS:Addr}{e1 e:Nat}{kvs xs:List V}{kus its:bX}{ds:List D}{A:Around}{E:cE}
theorem JV (hu:A.units+64<cLine)(I:aR X pins σ Hj s)(sH:aH H Hj)(r:fV X pins Hj a)(x:fV X pins Hj kS)(ne:kS≠a)(ha:s.heap.get? a=some (seqObj "list" #[] T))(hk:s.heap.get? kS=some (seqObj "list" kus.toArray e))
  (J:aY kvs kus) (F:Reps Hj (ds.map kyD) kvs) (W:aY xs its) (Y:Reps H ds xs) (h2:2<=ds.length) (R:ds.length<64) {Pf:PySem.Fin->Shared->Prop}
  (h:∀c ys B,aR X pins σ (upd Hj a (.lst ys)) c->B.Perm ds->B.Pairwise leK->Reps H B ys->Pf (.done (.ret .none)) c) :
  wpAny (model X.prog X.w) A (ksk_end a false its.toArray T (.ref kS) kus.toArray) Pf E s:=by
 have l1:=Reps.len F;rw[ae]at l1;have l2:=J.length;have l3:=Reps.len Y;have l4:=W.length;have N:kus.length=its.length:=by omega
 have n2:¬its.toArray.size<2:=by rw[ag];omega
 unfold ksk_end;dsimp only;rw[ab n2,ab n2,ab Bool.false_ne_true];have look:∀v∈kus,Looks (model X.prog X.w) s.heap (typeOf v) (.type "list"):=λv hv=>by
  obtain⟨i,d⟩:=List.getElem?_of_mem hv;have hi':=(cm.mp d).1;have r1:=pG F (i:=i) (by rw[ae];omega);have Z:=pF J (i:=i) (by omega);have ek:kus.getD i .none=v:=by rw[List.getD_eq_getElem?_getD,d];rfl
  rw[ek]at Z;have K:(ds.map kyD).getD i .non=kyD (ds.getD i .non):=by
   have:i<ds.length:=by omega
   simp[this]
  rw[K]at r1;obtain⟨l,_,us,rfl,_,_,hl⟩:=uK I.hok r1 Z;exact D2 hl
 refine aa (kas_kind (vs:=kus) (by omega) look (by decide) (by decide) ?_);have S:SortSt.mk' oneType' (kus.toArray.zip its.toArray) #[] 7 none=kas_st oneType' (kus.toArray.zip its.toArray) (List.toArray (List.range ds.length)):=by
  have e:=kas_range (kus.toArray.zip its.toArray);have z:(kus.toArray.zip its.toArray).size=ds.length:=by simp;omega
  rw[z]at e;unfold kas_st;rw[e]
 have run:=kas_runs (prog:=X.prog) (w:=X.w) (A:=A) (E:=E) (κ:=oneType') (it:=kus.toArray.zip its.toArray) (n:=ds.length) (s:=s)
  (Q:=λ_ f c=>c=s/\∃p:Array Nat,Gd ds.length p/\Up (ltI ds) p ds.length/\arrOf f=p.map (kas_item (kus.toArray.zip its.toArray))/\failedOf f=none)
  (G:=λp c=>c=s/\Gd ds.length p/\Up (ltI ds) p ds.length) h2 R (λp' f c _ a2 a3 U=>⟨U.1,p',U.2.1,U.2.2,a2,a3⟩) ?ask
 case ask =>
  refine GG (n:=ds.length) (lt:=ltI ds) (λc=>c=s) ?_ (λp c T e2=>⟨T,e2⟩) (I8 (KG ds.length ds) (by omega)) s rfl;intro i j C c d hj B hC;subst B;unfold kas_cmp;rw[zS N (by omega),zS N (by omega)];have g1:=pG F (i:=i) (by rw[ae];omega);have g2:=pG F (i:=j) (by rw[ae];omega);have K:∀i,i<ds.length->(ds.map kyD).getD i .non=kyD (ds.getD i .non):=λi d=>by simp[d]
  rw[K i d]at g1;rw[K j hj]at g2;exact O3 I.hok A (by omega) g1 g2 (pF J (by omega)) (pF J (by omega)) (hC _ rfl)
 rw[←S]at run;refine aa (wpAny_mono run ?_ λ_ _ z=>z);rintro⟨⟨⟩,f⟩ c ⟨rfl,p,q,up,P,hf⟩;have ho:(arrOf f).map (·.2)=(p.toList.map λi=>its.getD i .none).toArray:=by
  rw[P];apply Array.toList_inj.mp;rw[Array.map_map,Array.toList_map];refine List.map_congr_left λi d=>?_;have:i<ds.length:=by
   have:=(Array.perm_iff_toList_perm.mp q).mem_iff.mp d
   simpa using this
  show(kas_item (kus.toArray.zip its.toArray) i).2=_;rw[zS N (by omega)]
 have inn:∀i∈p.toList,i<ds.length:=λi d=>by
  have:=(Array.perm_iff_toList_perm.mp q).mem_iff.mp d
  simpa using this
 have pl:p.toList.length=ds.length:=by rw[bo,q.size]
 unfold ksk_tail;dsimp only;rw[ho];refine aa (listUpdate_at hk rfl ?_ (ao (m:=64) (by rw[ag];omega) (by decide)) (av _));refine aa (wpAny_letGo ?_);have t:=Heap.SameBut.update c.heap kS (Obj.mapSeq λ_=>(#[]:jK));have g:=(t.2 a ne.symm).trans ha;have I1:=I.turned (t':=c.toks) (λb o O z=>(t.2 b O).trans z) x.1 x.2.1 x.2.2.2.1 x.2.2.2.2.1 x.2.2.2.2.2;refine aa (seqEpoch_at g rfl ?_);refine aa (listUpdate_at g rfl ?_ (av _) (ao (m:=64) (by simp only[Bool.false_eq_true,if_false];rw[ag,ae];omega) (by decide)));rw[hf];simp only[bne_self_eq_false,if_false,Bool.false_eq_true];have L:=Heap.SameBut.update (c.heap.update kS (Obj.mapSeq λ_=>(#[]:jK))) a (Obj.mapSeq λ_=>(p.toList.map λi=>its.getD i .none).toArray);have I2:=I1.turned (t':=c.toks) (λb o O z=>(L.2 b O).trans z) r.1 r.2.1 r.2.2.2.1 r.2.2.2.2.1 r.2.2.2.2.2;have ga:=get?_update_seq g λ_=>(p.toList.map λi=>its.getD i .none).toArray;have I3:=I2.adopt (o:=.lst (p.toList.map λi=>xs.getD i .non)) r ⟨ao (m:=64) (by rw[ae];omega) (by decide),_,_,AR W p.toList (λi d=>by have:=inn i d;omega),ga⟩;refine al (h _ _ (p.toList.map λi=>ds.getD i .non) I3 ?_ ?_ (A1 Y p.toList inn))
 ·have:=(Array.perm_iff_toList_perm.mp q).map (λi=>ds.getD i .non);rw[List.toList_toArray,K7]at this;exact this
 ·rw[List.pairwise_map,List.pairwise_iff_getElem];intro i j d hj hij;have u:=up i j (by omega) (by omega);have ei:pa p i=p.toList[i]:=by
   have:i<p.size:=by rw[q.size];omega
   simp[pa,Array.getD,this]
  have ej:pa p j=p.toList[j]:=by
   have:j<p.size:=by rw[q.size];omega
   simp[pa,Array.getD,this]
  rw[ei,ej]at u;exact u
theorem LB {k:Nat}{f:Addr}{J:FuncData}{ps:aQ}(F:bW X.prog X.w X.K X.mg X.base bA k f J ps spKey)(S:gA X.K J ps [])(P:eX k A)(R:A.frames=some X.stack)(I:aR X pins σ Hj s)(t:fV X pins Hj a)(q:fV X pins Hj kS){j ok:Obj}(H:s.heap.get? a=some j)(G:s.heap.get? kS=some ok){d:D}{v:V}{u:Value}(N:bD Hj d v)(T:Fl d)(nd:nds d<=1000)(r:aX v u)
  {Q:cE} {E:cE} (h:∀g m H' c,aR X pins σ H' c->aH Hj H'->H' a=none->H' kS=none->c.heap.get? a=some j->c.heap.get? kS=some ok->bD H' (kyD d) g->aX g m->Q m c) :
  wpAny (model X.prog X.w) A (call (.ref f) [u]) Q E s:=by
 have e:=I.env0;have sp:spKey [v] Hj (λg H'=>aH Hj H'/\bD H' (kyD d) g) E0:=⟨d,v,rfl,N,T,nd,λl H' c C rep=>⟨c,bD.same (λb o z=>(eW.mp z).2) rep⟩⟩
 have C:[u].length=ps.length:=F.len _ _ _ _ sp;have B:∀b,fV X pins Hj b->b∉frs X.stack:=λb L z=>(cr.mp (I.stkSub b z)).elim L.2.1 L.2.2.1;refine wpAny_call (codeAny_mono (F.run A X.stack s Hj ⟨[u],[]⟩ [u] [v] _ E0 P ⟨R,e.mod,e.bs,e.bsz,e.funs,e.frf,e.hok,e.bare⟩ (by have:=S s [u] I.kIn (by simpa using C);simpa using this) (.cons r .nil) sp) λres c i=>?_);cases res with
 | error x=>exact i.elim
 | ok p =>
  cases p with
  | ret m =>
   obtain⟨g,H',os,bare,un,hok,O,sm,rep⟩:=i;have I':=I.call' (ch:=[]) os un hok bare (λb z=>absurd z (by simp));exact h g m H' c I' sm (un.free a j H t.1 (by simp)) (un.free kS ok G q.1 (by simp)) (un.keep a j H t.1 (B a t) (by simp)) (un.keep kS ok G q.1 (B kS q) (by simp)) rep O
  | next=>exact i.elim
  | brk=>exact i.elim
  | cont=>exact i.elim
theorem GV {k:Nat}{f:Addr}{fd:FuncData}{ps:aQ}(F:bW X.prog X.w X.K X.mg X.base bA k f fd ps spKey)(W:gA X.K fd ps [])(hr:eX k A)(he:A.frames=some X.stack)(I:aR X pins σ H s)(fa:fV X pins H a)(O:fV X pins H kS)(ne:kS≠a)
  (ha:s.heap.get? a=some (seqObj "list" #[] e1)) (hk:s.heap.get? kS=some (seqObj "list" #[] 0)) (P:aY xs its) (R:Reps H ds xs) (fl:∀d∈ds,Fl d/\nds d<=1000) (h2:2<=ds.length) (Z:ds.length<64) {Pf:PySem.Fin->Shared->Prop}
  (h:∀p H' ys J,aR X pins σ (upd H' a (.lst ys)) p->aH H H'->H' a=none->J.Perm ds->J.Pairwise leK->Reps H J ys->Pf (.done (.ret .none)) p) :
  wpAny (model X.prog X.w) A (ksk_rest a (.ref f) false its.toArray e1 (.ref kS)) Pf E s:=by
 have hu:=hr.units;have l3:=Reps.len R;have l4:=P.length;unfold ksk_rest;refine aa (wpAny_rule ?_);rw[List.forIn_toArray]
 refine aa (ksk_fold (λj p=>∃(Hj:Hp) (c:List V) (g:bX) (e:Nat),aR X pins σ Hj p/\aH H Hj/\Hj a=none/\Hj kS=none/\p.heap.get? a=some (seqObj "list" #[] e1)/\p.heap.get? kS=some (seqObj "list" g.toArray e)/\aY c g/\Reps Hj ((ds.take j).map kyD) c) its 0 s
  ⟨H,[],[],0,I,aH.refl _,fa.1,O.1,ha,hk,.nil,rfl⟩ ?step ?done)
 case step =>
  rintro j x p hx ⟨Hj,c,g,e,I',sm,N,S,q,l,L,r⟩;rw[Nat.zero_add]at r⊢;have hj:j<its.length:=(cm.mp hx).1;have hd:ds[j]?=some ds[j]:=ax (by omega);obtain⟨v,hv,rv⟩:=Reps.get' R hd;obtain⟨u,C,ru⟩:=P.get hv;rw[hx]at C;cases C;have lr:=Reps.len r;rw[ae,bq]at lr;have lk:=L.length;have hf:=fl ds[j] (bh hd);refine aa (wpAny_attempt (LB F W hr he I' (fa.at N) (O.at S) q l (bD.same sm rv) hf.1 hf.2 ru λkv U H' s2 I2 t T B Y G rep Q=>?_));have sb:=Heap.SameBut.update s2.heap kS (Obj.mapSeq (·.push U));have gk:=get?_update_seq G (·.push U);refine aa (listUpdate_at G rfl ?_ (ao (m:=64) (by rw[ag];omega) (by decide)) (ao (m:=65) (by rw[Array.size_push,ag];omega) (by decide)));have i:=O.at B;refine al ⟨rfl,H',c++[kv],g++[U],_,I2.turned (t':=s2.toks) (λb o W z=>(sb.2 b W).trans z) i.1 i.2.1 i.2.2.2.1 i.2.2.2.2.1 i.2.2.2.2.2,sm.trans t,T,B,(sb.2 a ne.symm).trans Y,by rw[gk,List.push_toArray],L.append (.cons Q .nil),?_⟩;rw[aW hd,ay];exact Reps.snoc rep (Reps.same t r)
 case done =>
  rintro p ⟨Hj,c,g,e,I',sm,N,S,q,l,L,r⟩;rw[Nat.zero_add,←l4,l3,br]at r;exact aa (listItems_at l rfl (JV (by omega) I' sm (fa.at N) (O.at S) ne q l L r P R h2 Z λs2 ys J I2 a1 a2 a3=>h s2 Hj ys J I2 sm N a1 a2 a3))
theorem EK {k:Nat}{f l:Addr}{G:FuncData}{ps:aQ}(F:bW X.prog X.w X.K X.mg X.base bA k f G ps spKey)(p:gA X.K G ps [])(N:eX (k+2) X.A)(I:aR X pins σ H s)(O:H l=some (.lst xs))(v:Reps H ds xs)(S:∀d∈ds,Fl d/\nds d<=1000)(P:2<=ds.length)(q:ds.length<64){Q:VK}
  (h:∀j ys c H',aH H H'->H j=none->H' j=some (.lst ys)->c.Perm ds->c.Pairwise leK->Reps H c ys->Q (.ref j) H') :
  wpAny (model X.prog X.w) X.A (call (.builtin "sorted") [.ref l] [(Str.ofString "key",.ref f)]) (EP X pins σ Q) E s:=by
 obtain⟨its,u,pl,hz⟩:=I.list (fQ.of O);have l3:=Reps.len v;have l4:=u.length;refine call_function_entry_kw kind_sorted plain_sorted entry_sorted (ksk_s1 _ _) ?_;unfold Builtin.«sorted»;refine aa (m:=checkCount "sorted" 1 1 _) (al (aa (collect_list pl.isList ?_ (by omega))));refine aa (wpAny_newList ?_ (by omega));have C:∀b o,s.heap.get? b=some o->((s.heap.push (seqObj "list" #[] 0)).update s.heap.objs.size (Obj.mapSeq λx=>x++its.toArray)).get? b=some o:=λb o e=>by have lt:=ba e;rw[Heap.get?_update_ne _ _ _ _ (bn lt)];exact af _ e
 have i:s.heap.objs.size<=((s.heap.push (seqObj "list" #[] 0)).update s.heap.objs.size (Obj.mapSeq λx=>x++its.toArray)).objs.size:=by rw[Heap.size_update,Heap.size_push];omega
 dsimp only;generalize (s.heap.push (seqObj "list" #[] 0)).update s.heap.objs.size (Obj.mapSeq λx=>x++its.toArray)=h1 at C i⊢;have I2:aR X pins σ H {s with heap:=h1.push (seqObj "list" its.toArray 0)}:=I.kept (t':=s.toks) λb o e=>af _ (C b o e);have B:=I.hok.fresh i;have a:=I.fpOk i B;have g:(h1.push (seqObj "list" its.toArray 0)).get? h1.objs.size=some (seqObj "list" its.toArray 0):=au _ rfl;refine aa (cf (wpAny_call_entry_kw slot_list_sort ⟨_,g,rfl⟩ entry_list_sort ?body (ksk_l1 _ _)));show wpAny (model X.prog X.w) X.A.in1.in1 (ksk_tree h1.objs.size (.ref f) false) _ _ _;unfold ksk_tree;refine aa (listItems_at g rfl ?_);refine aa (listUpdate_at g rfl ?_ (by rw[ag];omega) (av _));have J:=Heap.SameBut.update (h1.push (seqObj "list" its.toArray 0)) h1.objs.size (Obj.mapSeq λ_=>(#[]:jK));have r:=get?_update_seq g λ_=>(#[]:jK)
 have I3:=I2.turned (t':=s.toks) (λb o p z=>(J.2 b p).trans z) a.1 a.2.1 a.2.2.2.1 a.2.2.2.2.1 a.2.2.2.2.2;refine aa (seqEpoch_at r rfl ?_);refine aa (wpAny_newTuple ?_ (by show its.length<=_;omega));refine aa (wpAny_newList (cf ?_) (av _));have t:=I3.kept (t':=s.toks) λb o e=>af {cls:=.type "tuple",data:=.seq its.toArray} e;have Z:=t.kept (t':=s.toks) λb o e=>af {cls:=.type "list",data:=.seq #[]} e;have T:=t.fpOk (ac _) (t.hok.fresh (ac _));have R:=af {cls:=.type "list",data:=.seq #[]} (af {cls:=.type "tuple",data:=.seq its.toArray} r);refine GV F p N.in1.in1 (I.ok.frames) Z a T (λz=>?_) R (au _ rfl) u v S P q λs' H' ys c I' sm L Y W U=>⟨_,rfl,al ⟨_,rfl,.ref h1.objs.size,_,I',rfl,h _ ys c _ (sm.trans (aH.upd L)) B upd_same Y W U⟩⟩
 have lt:=ba (af {cls:=.type "tuple",data:=.seq its.toArray} r);exact Nat.ne_of_gt lt z
end
noncomputable def QF (e:TA):TE:=λσ H Q=>e σ H λvs a=>∃l xs ds,vs=[.ref l]/\a l=some (.lst xs)/\Reps a ds xs/\(∀d∈ds,Fl d/\nds d<=1000)/\2<=ds.length/\ds.length<64 /\
 ∀b ys c H',aH a H'->a b=none->H' b=some (.lst ys)->c.Perm ds->c.Pairwise leK->Reps a c ys->Q (.ref b) H'
theorem DG {X:Cx}{k:Nat}{e:Expr}{m:TA}{p o c a:Pos}(O:cC X.prog X.w X.K X.mg X.base bA k "order_key" spKey)(L:eX (k+2) X.A)(R:Gl X "sorted")(N:X.mg "sorted" = none)(i:Gl X "order_key")(W:PA X [e] m)
  (T:backTo a (starEach [e] X.env)=(false,eval e X.env)::backTo a (starEach [] X.env):=by rfl) (g:(backTo a (starEach [e] X.env)).any (·.1)=false:=by rfl):PE X (.Call (.Name "sorted" p) [e] [⟨some "key",.Name "order_key" o,c⟩] a) (QF m):=by
 obtain⟨f,fd,ps,F,S,hk,U⟩:=O;intro b s σ H Q I h;refine wpAny_Call_Name_kw (nY I R N (u:=.builtin "sorted") rfl ?_);refine callWith_kw (thn (W a b s σ H _ I h) λus v ⟨vs,t,I1,r1,C⟩=>?_) T g;have E:PK X [⟨some "key",.Name "order_key" o,c⟩] (tCons (tC (.ref f)) tNil):=NB (g8 ⟨_,S,rfl⟩ i) QV;refine thn (E a b v σ t (λvs r=>vs=[.ref f]/\r=t) I1 ⟨rfl,rfl⟩) λJ s2 ⟨G,r,I2,B,e1,e2⟩=>?_;subst e1 e2;obtain⟨ku,rfl,d⟩:=aY.one B;cases d;obtain⟨l,xs,ds,rfl,P,z,Z,Y,j,q⟩:=C;obtain⟨u,rfl,x⟩:=aY.one r1;cases x;exact EK F U L I2 P z Z Y j q
end Lw
namespace Lw
open PySem L2
section
variable {P:Program}{w:World}{K:PySem.W.Frag}{mg:fR}{base:Heap}
theorem Q1 (n z:Str)(d:D)(a:Fl d):opn1 n z d=if eqD d (.str z)=true then []else opP n d:=by
 rcases jW a with⟨x,rfl,_⟩|⟨m,b,rfl,_⟩
 ·rfl
 ·have e:eqD (.tup (.str m::b)) (.str z)=false:=rfl;rw[e,ab (by decide)];rfl
theorem rM:∀(ds l:List D),(∀d∈ds,Fl d)->(∀d∈l,Fl d)->l.Pairwise leK->(ds.foldl (λl d=>insA d l) l).Pairwise leK
 | [],l,_,_,h=>h
 | d::ds,l,hd,b,h=>by
  refine rM ds (insA d l) (λe a=>hd e (az _ a)) (λe a=>?_) (rO (hd d aw) b h);rcases cr.mp ((nB d l).mem_iff.mp a)with rfl|a
  ·exact hd _ aw
  ·exact b e a
theorem vV {ds:List D}(h:∀d∈ds,Fl d):(cX ds).Pairwise leK:=rM ds [] h (λ_ h=>by cases h) .nil
theorem GU {ds a:List D}(h:∀d∈ds,Fl d)(p:a.Perm ds)(s:a.Pairwise leK):a=cX ds :=
 tO (λd hd=>h d (p.mem_iff.mp hd)) (p.trans (cI ds).symm) s (vV h)
theorem FH:∀{ds:List D} {d:D},d∈ds->nds d<=ndss ds
 | e::ds,d,h=>by
  rw[ndss];obtain rfl|h:=cr.mp h
  ·omega
  ·have:=FH h;omega
theorem KI (n z:Str)(d:D):ndss (opn1 n z d)<=nds d:=by
 unfold opn1;split
 ·split
  ·rw[nds];omega
  ·rw[ndss,ndss];omega
 ·split
  ·rw[ndss];omega
  ·rw[ndss,ndss];omega
theorem zB (n z:Str):∀ds:List D,ndss (opn n z ds)<=ndss ds
 | []=>ac _
 | d::ds=>by rw[pA,hO,ndss];have:=KI n z d;have:=zB n z ds;omega
def pZ:Sp:=λvs H Q _=>∃(n z:Str) (a:Addr) (ds:List D) (ws:List V),vs=[.str n,.str z,.ref a]/\H a=some (.lst ws)/\Reps H ds ws/\Fls ds/\szs ds<=60/\ndss ds<=1000/\depDs ds<=50 /\
 ∀(b:V) (H':Hp),aH H H'->bD H' (one n z (cX (opn n z ds))) b->Q b H'
def UO (a l:Addr)(n z:Str)(ds:List D)(H:Hp)(i:Nat)(σ:St)(b:Hp):Prop:=∃(us:List V) (o:Option V),σ=[some (.str n),some (.str z),some (.ref a),some (.ref l),o]/\b l=some (.lst us)/\aH H b/\Reps b (opn n z (ds.take i)) us
theorem DR {f:Addr}{O:FuncData}(F:fZ K "flat_sum" "flat_sum" gI f O)(T:Txt mg)(t:cC P w K mg base bA 1 "opened" pX)(j:cC P w K mg base bA 2 "order_key" spKey):bW P w K mg base bA 5 f O oE pZ:=by
 refine F.ok lW (λvs H Q E h=>?_) (λcdv A outer s H vs Q E hr h=>?_)
 ·obtain⟨n,z,a,ds,ws,rfl,_⟩:=h;rfl
 ·obtain⟨n,z,a,ds,ws,rfl,G,L,r,v,c,B,q⟩:=h;have hu:=hr.units
  refine⟨_,(aE (aU (i:=3) lW.nd rfl (Or.inl rfl) (bR aB))
   (aE (eV df rfl (dQ K rfl (pv 2)) (bO (i:=4) lW.nd rfl (Or.inl rfl)) (aG (bN (aS (fC hu) (pv 4) (pv 1) (nomark _)) (aG (cN (iT db PySem.F.slot_list_extend PySem.F.type_list_extend zK (pv 3) (aA (aL t (hr.mono (by decide)) pass0 rfl (aA (pv 0) (aA (pv 4) aB))) aB)))) aV)))
   (aE (bN (cR (a0 K rfl (pv 3) (λ_=>rfl))) (aG (aP (pv 1))) aV)
   (aE (bN (aS (d9 hu) (aK bM rfl T.n_len rfl (aA (pv 3) aB)) aJ (nomark _)) (aG (aP (bQ cU (pv 3) aJ (λ_ _=>rfl)))) aV)
   (aG (aP (bH dY rfl T.n_tuple rfl (aA (bP bJ (bR (aA (pv 0) aB)) (DG j (hr.mono (by decide)) rfl T.n_sorted rfl (aA (pv 3) aB))) aB)))))))),?_⟩
  simp only[vI];clear hr F T hu t j;have keep:=aI q (aI G (aI L (aI r (aI v (aI c B)))));clear q G L r v c B
  walk_at "rd"
  obtain⟨q,G,L,r,v,c,B⟩:=keep;refine⟨by decide,λl N=>⟨ws,.inl (by rw[aC (aF G N)];exact G),λJ hJ=>?_⟩⟩;have Z:aH H (upd H l (.lst [])):=aH.upd N;have h1:upd H l (.lst []) l=some (.lst []):=upd_same;generalize upd H l (.lst [])=H1 at Z h1 hJ⊢;have g:∀i,(opn n z (ds.take i)).length<=60:=λi=>by have h1:=kQ (opn n z (ds.take i));have I:=tZ n z (ds.take i);have h3:=AV i ds;omega
  have lw:=Reps.len L;refine lA hJ (UO a l n z ds H) ⟨[],none,rfl,h1,Z,rfl⟩ (by rintro i σ H' _ ⟨_,_,_,_,s2,_⟩;rw[s2 _ _ G,Z _ _ G]) ?_ ?_
  ·rintro i x σ H2 hx ⟨us,o,rfl,I,s2,C⟩;obtain⟨d,hd,rx⟩:=Reps.get L hx;have O:=r.get hd;have dd:=jC hd;have keep:=aI q (aI G (aI L (aI r (aI v (aI c (aI B (aI N (aI I (aI s2 (aI C (aI hd (aI rx (aI O (aI dd g))))))))))))));clear q G L r v c B N I s2 C hd rx O dd g Z h1 hJ hx
   walk_at "rd"
   obtain⟨q,G,L,r,v,c,B,N,I,s2,C,hd,rx,O,dd,g⟩:=keep;refine⟨d,.str z,bD.same s2 rx,rfl,by omega,_,rfl,?_⟩;have S:=Reps.len C;have X:=Q1 n z d O;cases U:eqD d (.str z)with
   | true =>
    rw[ab (by decide)];rw[U,ai rfl]at X;exact⟨us,_,rfl,I,s2,by rw[aW hd,iG,X,bj];exact C⟩
   | false =>
    rw[ai (by decide)];rw[U,ab (by decide)]at X;refine⟨tyL I,n,d,x,rfl,bD.same s2 rx,O,λl2 Y H3 s3 hl2 h3 r3=>?_⟩;have l3:=s3 _ _ I;have lv:=Reps.len r3;have sm:=g (i+1);rw[aW hd,iG,ar,X]at sm;have f2:Fls (opn n z (ds.take i)++opP n d):=by rw[←X,←iG,←aW hd];exact zC (jV λe U=>hU r e (List.mem_of_mem_take U))
    refine⟨l,l2,us,Y,rfl,rfl,l3,.inl h3,ao (m:=100) (by omega) (by decide),us++Y,_,rfl,upd_same,λb o hb=>by rw[aC (aF hb N)];exact s3 _ _ (s2 _ _ hb),?_⟩;rw[aW hd,iG,X];exact Reps.tups (bG.lst l3) f2 (Reps.append (Reps.same s3 C) (Reps.same s3 r3))
  ·rintro σ H2 ⟨us,o,rfl,I,s2,C⟩;rw[lw,br]at C;have keep:=aI q (aI G (aI L (aI r (aI v (aI c (aI B (aI N (aI I (aI s2 (aI C g))))))))));clear q G L r v c B N I s2 C g Z h1 hJ
   walk_at "rd"
   obtain⟨q,G,L,r,v,c,B,N,I,s2,C,g⟩:=keep;have W:=zC (n:=n) (z:=z) r;have S:=Reps.len C;have sm:=g ds.length;rw[br]at sm;have nn:=zB n z ds;refine⟨!us.isEmpty,.inl ⟨us,fQ.of I,rfl⟩,?_⟩;generalize hos:opn n z ds=os at W S sm nn C q;clear hos
   match os,W,S,sm,nn,C,q with
   | [],W,S,sm,nn,C,q =>
    cases (show us=[]from C);rw[ai (by decide)];exact q _ _ s2 rfl
   | [d],W,S,sm,nn,⟨u,_,e,h,e'⟩,q =>
    subst e;cases (show _=[]from e');rw[ab (by simp),ai (by simp)];exact⟨u,atI_zero,q _ _ s2 h⟩
   | d::d2::R,W,S,sm,nn,C,q =>
    have l2:us.length=R.length+2:=by rw[S];rfl
    have ne:us≠[]:=λz=>by rw[z]at l2;simp at l2
    rw[ab (by cases us with|nil=>exact absurd rfl ne|cons a b=>simp),ab (by omega)];refine⟨by decide,λp hp=>?_⟩;have sp:aH H2 (upd H2 p (.lst [.str n])):=aH.upd hp;have hpp:upd H2 p (.lst [.str n]) p=some (.lst [.str n]):=upd_same;generalize upd H2 p (.lst [.str n])=H3 at sp hpp⊢;have all:∀e∈d::d2::R,Fl e:=hU W;refine⟨_,rfl,l,us,d::d2::R,rfl,sp _ _ I,Reps.same sp C,λe U=>⟨all e U,by have:=FH U;omega⟩,by simp,by simp only[aq]at sm⊢;omega,λl' ys es H4 s4 hl' h4 pm so re=>?_⟩;have ees:=GU all pm so;have ly:=Reps.len re;have le:=pm.length_eq;refine⟨.lst (.str n::ys),sV (s4 _ _ hpp) h4 (ao (m:=100) (by simp only[aq,List.length_nil]at sm le⊢;omega) (by decide)),λp5 hp5=>⟨.str n::ys,.inl upd_same,λl6 H6 hc=>?_⟩⟩;rcases hc with⟨hc,_⟩|⟨_,hl6,rfl⟩
    ·cases hc
    ·have s6:aH H4 (upd (upd H4 p5 (.lst (.str n::ys))) l6 (.tup (.str n::ys))):=(aH.upd hp5).trans (aH.upd hl6);refine q _ _ ((s2.trans (sp.trans s4)).trans s6) ?_;rw[A9 (by rw[(cI _).length_eq];simp),←ees];exact⟨l6,_,rfl,upd_same,.str n,ys,rfl,rfl,Reps.same (s4.trans s6) re⟩
def hX (K:PySem.W.Frag)(C:Addr):Sp:=λvs H Q _=>∃(g:Addr) (fx:cT) (sm:bU) (n:Str) (a:Addr) (ds:List D) (ws:List V),vs=[.ref g,.str n,.ref a]/\iV K C fx sm H g/\H a=some (.lst ws)/\Reps H ds ws/\Fls ds/\szs ds<=60/\ndss ds<=1000/\depDs ds<=50 /\
 ∀(b:V) (H':Hp),aH H H'->bD H' (knot sm n ds) b->Q b H'
theorem DQ {f C:Addr}{N:FuncData}(F:fZ K "flat_of_parts" "flat_of_parts" cV f N)(T:Txt mg)(c:JA P w K mg base bA 1 C "nought" (oP K C))(b:cC P w K mg base bA 5 "flat_sum" pZ):bW P w K mg base bA 6 f N iM (hX K C):=by
 refine F.ok kF (λvs H Q E h=>?_) (λX A outer s H vs Q E u h=>?_)
 ·obtain⟨g,L,sm,n,a,ds,o,rfl,_⟩:=h;rfl
 ·obtain⟨g,L,sm,n,a,ds,o,rfl,sg,t,r,j,e,d,l,q⟩:=h;have R:=u.units
  refine⟨_,(aE (aU (i:=3) kF.nd rfl (Or.inl rfl) (y8 c (u.mono (by decide)) pass0 (pv 0) (aA (pv 1) aB)))
   (aE (bN (aS Q4 (pv 3) y6 (nomark _)) (aG (aP (bH dY rfl T.n_tuple rfl (aA (bP bJ (bR (aA (pv 1) aB)) (pv 2)) aB)))) aV)
   (aG (aP (aL b (u.mono (by decide)) pass0 rfl (aA (pv 1) (aA (pv 3) (aA (pv 2) aB)))))))),?_⟩
  simp only[lQ];clear u F T R c b;have keep:=aI q (aI t (aI r (aI j (aI e (aI d (aI l sg))))));clear q t r j e d l sg
  walk_at "rd"
  obtain⟨q,t,r,j,e,d,l,sg⟩:=keep;obtain⟨W,fs,_,_,U,_,S,_⟩:=sg.ex;refine⟨_,rfl,g,W,fs,rfl,U,S,_,rfl,g,n,L,sm,rfl,sg,?_⟩;unfold knot at q;cases hz:zr sm n with
  | none =>
   have B:nulV sm n = .non:=by unfold nulV;rw[hz];rfl
   rw[hz]at q;rw[B,ai rfl];have Y:=Reps.len r;have:=kQ ds;refine⟨by decide,λp J=>⟨.lst (.str n::o),sV upd_same (by rw[aC (aF t J)];exact t) (ao (m:=100) (by simp;omega) (by decide)),λO v=>⟨.str n::o,.inl upd_same,λI Z hc=>?_⟩⟩⟩;rcases hc with⟨hc,_⟩|⟨_,x,rfl⟩
   ·cases hc
   ·have G:aH H (upd (upd (upd H p (.lst [.str n])) O (.lst (.str n::o))) I (.tup (.str n::o))):=((aH.upd J).trans (aH.upd v)).trans (aH.upd x);exact q _ _ G ⟨I,_,rfl,upd_same,.str n,o,rfl,rfl,Reps.same G r⟩
  | some z =>
   have B:nulV sm n = .str z:=by unfold nulV;rw[hz];rfl
   rw[hz]at q;rw[B,ab (by simp)];exact⟨n,z,a,ds,o,rfl,t,r,j,e,d,l,q⟩
end
end Lw
namespace L2
open PySem PySem.Spec PyProof.Rows
theorem NI {X:Cx}(K:PySem.W.Frag)(h:X.K=K){o:Expr}{f:TE}{name:Str}{b a:Pos}{T id:String}{r:V->List V->Hp->VK->Prop}(pa:PlainAttrs T)(slot:Slot T name id)(e:typeOf (.builtin id)=pure (.type "method_descriptor"))(g:TK X id r)(ho:PE X o f)
  (d:attributeBase o name X.env (eval o X.env)=eval o X.env:=by rfl) (c:(b.endLine == a.line)=true:=by rfl):PE X (.Call (.Attribute o name b) [] [] a) (tBM0 K T r f):=by
 subst h;exact zA pa slot e g ho d c
noncomputable abbrev pinO (a:Addr)(o:Obj):HO:=.ext λh=>h.get? a=some o
theorem yY {P:Program}{w:World}{H:Hp}{h:Heap}{a:Addr}{o:Obj}(e:h.get? a=some o):bZ P w H h a (pinO a o):=⟨e,⟨o,e⟩,λc b q k=>k o q⟩
theorem oX {P:Program}{w:World}{H:Hp}{h:Heap}{a:Addr}{o:Obj}(ok:hV P w H h)(e:H a=some (pinO a o)):h.get? a=some o:=(ok a _ e).1
noncomputable def del1 (H:Hp)(p:Addr):Hp:=λb=>if b=p then none else H b
theorem L4 {H:Hp}{p b:Addr}{o:HO}(h:del1 H p b=some o):H b=some o/\b≠p:=by
 unfold del1 at h;by_cases e:b=p
 ·rw[ai e]at h;cases h
 ·rw[ab e]at h;exact⟨h,e⟩
theorem i0 {H:Hp}{p b:Addr}(h:H b=none):del1 H p b=none:=by
 unfold del1;split
 ·rfl
 ·exact h
theorem eD {H:Hp}{p b:Addr}(h:b≠p):del1 H p b=H b:=by unfold del1;rw[ab h]
theorem nC {H:Hp}{p:Addr}:del1 H p p=none:=by unfold del1;rw[ai rfl]
theorem hV.del {P:Program}{w:World}{H:Hp}{h:Heap}{c:Addr}{φ:Heap->Prop}(ok:hV P w H h)(e:H c=some (.ext φ)):hV P w (del1 H c) h:=λa o q=>by obtain⟨d,f⟩:=L4 q;exact(ok a o d).stay (λ_ _ _ z=>z) (λb z=>by rw[eD (λw=>by rw[w,e]at z;cases z)];exact z) (λb xs z=>by rw[eD (λw=>by rw[w,e]at z;cases z)];exact z)
theorem hV.back {P:Program}{w:World}{H:Hp}{h:Heap}{c:Addr}{o:Obj}(ok:hV P w H h)(n:H c=none)(e:h.get? c=some o):hV P w (upd H c (pinO c o)) h:=λa u q=>by
 by_cases z:a=c
 ·subst z;rw[upd_same]at q;cases q;exact yY e
 ·rw[aC z]at q;exact(ok a u q).stay (λ_ _ _ z=>z) (λb z=>by rw[aC (aF z n)];exact z) (λb xs z=>by rw[aC (aF z n)];exact z)
end L2
namespace Lw
open PySem PySem.Spec PyProof.Rows L2
noncomputable def lamOf (s:Stmt):Expr:=match aN s with
 | [.Return (some (.Call _ [_,_,e] _ _)) _]=>e
 | _=>.Name "" ⟨0,0,0,0⟩
noncomputable def RH (e:Expr):Arguments:=match e with
 | .Lambda a _ _ _=>a
 | _=>default
noncomputable def RI (e:Expr):Expr:=match e with
 | .Lambda _ b _ _=>b
 | e=>e
noncomputable def lamSc (e:Expr):Scope:=match e with
 | .Lambda _ _ s _=>s
 | _=>default
noncomputable abbrev pL:Arguments:=RH (lamOf cZ)
noncomputable abbrev bL:Expr:=RI (lamOf cZ)
noncomputable abbrev scL:Scope:=lamSc (lamOf cZ)
noncomputable def qL:Str:="put_in.<locals>.<lambda>"
noncomputable abbrev oL (c0 c':Addr)(pm ctv:Value):Obj:=PySem.W.kla_obj "<lambda>" qL pL bL scL [("signs",c0)] pm c' ctv
noncomputable abbrev envL (L fl c0 c':Addr):Env:=newEnv scL L mainGlobals [("signs",c0)] (qL++".<locals>.") (some fl) (.ref c') none builtinsNs
noncomputable def cxL (P:Program)(w:World)(K:PySem.W.Frag)(mg:fR)(base:Heap)(A:Around)(outer:List Env)(s:Shared)(H:Hp)(a b c:Addr):Cx where
 prog:=P
 w:=w
 K:=K
 mg:=mg
 base:=base
 A:=A.deeper (envL s.heap.objs.size a b c)
 N:=["name","parts","signs"]
 s₀:=s
 H₀:=H
 env:=envL s.heap.objs.size a b c
 outer:=outer
 stack:=envL s.heap.objs.size a b c::outer
 ex:=[]
 fn:=λ_=>false
 calm:=true
 pn:=[]
 xe:=λ_ _=>False
theorem ED {x:Str}(h:scL.names.lookup x=some .cell∨scL.names.lookup x=some .free):x="signs":=by
 have all:∀y∈scL.names,(y.2 = .cell∨y.2 = .free)->y.1=("signs" : Str):=by decide +kernel
 rcases h with h|h
 ·exact all _ (PySem.mem_of_lookup h) (.inl rfl)
 ·exact all _ (PySem.mem_of_lookup h) (.inr rfl)
section
variable {P:Program}{w:World}{K:PySem.W.Frag}{mg:fR}{base:Heap}
theorem OL {A:Around}{outer:List Env}{s:Shared}{H:Hp}{g N d B a C:Addr}{pm Y S R:Value}{f G:Obj}{F:jK}{tq:Tok}{n:Str}{k:Nat}{Q:VK}(hr:eX (k+1) A)(j:vZ P w K mg base A outer s H)
  (hfl:H N=some (pinO N (oL d B pm Y))) (m:H d=some (pinO d f)) (X:f.data = .cell (some (.ref g))) (hc':H B=some (pinO B G)) (hcd:G.data = .fields F) (hq:F[1]?=some (.str qL tq))
  (O:cC P w K mg base bA k "flat_of_parts" (hX K C)) (r1:aX (.str n) S) (r2:aX (.ref a) R) (sp:hX K C [.ref g,.str n,.ref a] (del1 H d) (λv H'=>H' d=none->Q v (upd H' d (pinO d f))) E0) :
  codeAny (model P w) A (.call (.ref N) ⟨[S,R],[]⟩) (CR bA outer P w H s Q E0) s:=by
 have gfl:=oX j.hok hfl;have g0:=oX j.hok m;have g':=oX j.hok hc';have lim:s.heap.NoLimit:=j.mod.nolimit.keeps λb o e=>(j.bs b o e).1;refine PySem.W.kla_callFunE hr.depth gfl rfl rfl rfl rfl ⟨B,G,F,tq,rfl,g',hcd,hq⟩ ?_;rw[show bindArgs (PySem.W.kla_fn "<lambda>" qL pL bL scL [("signs",d)] pm (.ref B) Y) ⟨[S,R],[]⟩=pure [(("name" : Str),S),(("parts" : Str),R)]from rfl];have nc:∀x∈scL.names,x.2≠.cell:=by decide +kernel
 have nl:∀x∈[(("name" : Str),S),(("parts" : Str),R)],scL.names.lookup x.1=some .local:=by
  intro x l;obtain rfl|l:=cr.mp l
  ·rfl
  ·rw[cp.mp l];rfl
 refine al (wpAny_newFunctionEnv nc nl (λh' hns U=>⟨lim.fresh _ U,?_⟩) rfl);have Z:∀b o,s.heap.get? b=some o->h'.get? b=some o:=λb o e=>U.extBut b o (bn (ba e)) (af _ e);have T:=j.hok.del m;have nfr:d∉frs outer:=λz=>by have:=j.frf d z;rw[m]at this;cases this
 have I:aR (cxL P w K mg base A outer s (del1 H d) N d B) [] [some (.str n),some (.ref a),some (.ref g)] (del1 H d) {s with heap:=h',toks:=s.toks+2}:=by
  have L:∀b:Addr,b∉(cxL P w K mg base A outer s (del1 H d) N d B).ex:=λb z=>absurd (show b∈([]:List Addr)from z) (by simp);have one:∀x c,(cxL P w K mg base A outer s (del1 H d) N d B).env.cells.lookup x=some c->x=("signs" : Str)/\c=d:=λx c e=>by have e':[(("signs" : Str),d)].lookup x=some c:=e;have:=PySem.mem_of_lookup e';rw[cp]at this;cases this;exact⟨rfl,rfl⟩
  refine⟨⟨j.mod,rfl,rfl,rfl,ac _,λx y c r t=>?_,λx l=>?_,λx c h=>absurd h (by simp[cxL]),λ_=>hr.hd,Around.frames_deeper j.frames,.inr ⟨rfl,rfl⟩,λb z=>absurd z (L b),λb o e=>⟨(j.bs b o e).1,i0 (j.bs b o e).2⟩,j.bsz,λb _ _=>L b,λb z=>absurd z (L b),j.funs,λb z=>i0 (j.frf b z)⟩,
   rfl,j.bare,Un.kept Z,⟨_,hns,λi x v r t h3=>?_⟩,λx c h=>?_,T.fresh (ac _),λx c h=>?_,λp hp=>absurd (show p∈([]:cY)from hp) (by simp),T.kept Z,rfl⟩
  ·rw[(one x c r).1,(one y c t).1]
  ·rw[ED l];exact⟨d,rfl⟩
  ·match i,r,t with
   | 0,r,t=>cases r;cases t;exact⟨S,r1,.inl ⟨rfl,rfl⟩⟩
   | 1,r,t=>cases r;cases t;exact⟨R,r2,.inl ⟨rfl,rfl⟩⟩
   | 2,r,t=>cases r;cases t;exact⟨.ref g,rfl,.inr ⟨.inr rfl,d,rfl,f,Z _ _ g0,X⟩⟩
   | i+3,r,t=>cases r
  ·rw[(one x c h).2];exact⟨_,f,Z _ _ g0,X⟩
  ·rw[(one x c h).2];exact nC
 have pb:PE (cxL P w K mg base A outer s (del1 H d) N d B) bL (tCall (hX K C) [] E0 (tCons (tVar 2) (tCons (tVar 0) (tCons (tVar 1) tNil)))):=aL O (hr.deeper _) pass0 rfl (aA (pv 2) (aA (pv 0) (aA (pv 1) aB)));refine PySem.W.kla_codeExpr (wpAny_mono (pb [] _ _ _ (λv H'=>H' d=none->Q v (upd H' d (pinO d f))) I ⟨_,rfl,_,rfl,_,rfl,sp⟩) (λu s' ⟨v,H',J,rv,q⟩=>?_) λ_ _ z=>z.elim);have un:Un (frs outer) [] (del1 H d) H' s.heap s'.heap:=J.base;have gs:=un.keep d f g0 nC nfr (by simp);have nn:=un.free d f g0 nC (by simp);refine⟨v,upd H' d (pinO d f),J.os,J.bare,?_,J.hok.back nn gs,rv,q nn⟩;have ne:∀b u,H b=some u->(∀φ,u≠.ext φ)->b≠d:=λb u e z w=>by rw[w,m]at e;cases e;exact z _ rfl
 refine⟨λb o e z hb l=>un.keep b o e (i0 z) hb l,λb o e z hb l=>un.slot b o e (i0 z) hb l,λb o e z l=>?_,λb o e l=>un.there b o e l,λb xs e=>?_,λb o u' e=>?_,λb ps e=>?_⟩
 ·rw[aC (λw=>by rw[w,m]at z;cases z)];exact un.free b o e (i0 z) l
 ·have E:=ne b _ e (λφ=>by simp);rw[aC E];exact un.tups b xs (by rw[eD E];exact e)
 ·have E:=ne b _ e (λφ=>by simp);rw[aC E];exact un.frzs b o u' (by rw[eD E];exact e)
 ·have E:=ne b _ e (λφ=>by simp);rw[aC E];exact un.tbls b ps (by rw[eD E];exact e)
end
def CM (H:Hp)(c a g:Addr):Prop:=∃(b:Addr) (pm ctv:Value) (oc0 oc':Obj) (vsc:jK) (tq:Tok),H c=some (pinO c (oL a b pm ctv))/\H a=some (pinO a oc0)/\oc0.data = .cell (some (.ref g))/\H b=some (pinO b oc')/\oc'.data = .fields vsc/\vsc[1]?=some (.str qL tq)
theorem CM.same {H H':Hp}{e f g:Addr}(h:CM H e f g)(s:aH H H'):CM H' e f g:=by obtain⟨r,j,d,b,c,a,i,q,p,o,m,l⟩:=h;exact⟨r,j,d,b,c,a,i,s _ _ q,s _ _ p,o,s _ _ m,l⟩
mutual
theorem bD.del1 {H:Hp}{c:Addr}{φ:Heap->Prop}(e:H c=some (.ext φ)):∀{d:D} {v:V},bD H d v->bD (L2.del1 H c) d v
 | .non,v,h | .bl _,v,h | .int _,v,h | .str _,v,h=>h
 | .tup ds,v,⟨a,vs,g,b,f⟩=>⟨a,vs,g,by rw[eD (λz=>by rw[z,e]at b;cases b)];exact b,Reps.del1 e f⟩
 | .lst ds,v,⟨a,vs,g,b,f⟩=>⟨a,vs,g,by rw[eD (λz=>by rw[z,e]at b;cases b)];exact b,Reps.del1 e f⟩
theorem Reps.del1 {H:Hp}{c:Addr}{φ:Heap->Prop}(e:H c=some (.ext φ)):∀{ds:List D} {vs:List V},Reps H ds vs->Reps (L2.del1 H c) ds vs
 | [],vs,h=>h
 | d::ds,vs,⟨v,r,f,b,a⟩=>⟨v,r,f,bD.del1 e b,Reps.del1 e a⟩
end
theorem iV.del1 {K:PySem.W.Frag}{C:Addr}{j:cT}{sm:bU}{H:Hp}{g c:Addr}{φ:Heap->Prop}(e:H c=some (.ext φ))(h:iV K C j sm H g):iV K C j sm (L2.del1 H c) g:=by obtain⟨a,b,n,q,fs,s,r,i,p,o,m,l,f,d⟩:=h;exact⟨a,b,n,q,fs,s,r,by rw[eD (λz=>by rw[z,e]at i;cases i)];exact i,p,o,m,l,by rw[eD (λz=>by rw[z,e]at f;cases f)];exact f,by rw[eD (λz=>by rw[z,e]at d;cases d)];exact d⟩
noncomputable def tLam (K:PySem.W.Frag)(C:Addr)(i:Nat)(t:TA):TE:=λσ H Q=>∃d,σ[i]?=some (some (.ref d))/\t σ H λvs b=>∃(e g:Addr) (fx:cT) (sm:bU) (n:Str) (a:Addr) (ds:List D) (ws:List V),vs=[.str n,.ref a]/\CM b d e g /\
 iV K C fx sm b g/\b a=some (.lst ws)/\Reps b ds ws/\Fls ds/\szs ds<=60/\ndss ds<=1000/\depDs ds<=50/\∀(c:V) (H':Hp),aH b H'->bD H' (knot sm n ds) c->Q c H'
theorem DH {X:Cx}{C:Addr}{k i:Nat}{E m:Expr}{t:TA}{p d:Pos}(hN:X.N[i]?=some ("whole" : Str))(hv:ST X.env.scope "whole")(O:cC X.prog X.w X.K X.mg X.base bA k "flat_of_parts" (hX X.K C))(hr:eX (k+1) X.A)(ha:PA X [E,m] t)
  (he:starEach [E,m] X.env=(false,eval E X.env)::starEach [m] X.env:=by rfl) (J:(backTo d (starEach [m] X.env)).any (·.1)=false:=by rfl):PE X (.Call (.Name "whole" p) [E,m] [] d) (tLam X.K C i t):=by
 intro j s σ H Q I h;obtain⟨fl,L,h⟩:=h;have pw:PE X (.Name "whole" p) (tVar i):=J9 hN hv;refine wpAny_Call_Name_kw (thn (pw j s σ H (λx H'=>x = .ref fl/\H'=H) I ⟨_,L,rfl,rfl⟩) λf s0 ⟨x,H0,I0,rx,e3,e4⟩=>?_);subst e3 e4;cases rx;have c:=ha d j s0 σ H0 _ I0 h;rw[he]at c⊢;refine PySem.W.callWith_of (P:=λh=>∃o fd,h.get? fl=some o/\o.data = .func fd) (by show((false || (backTo d (starEach [m] X.env)).any (·.1)) || false)=false;rw[J];rfl) (λh ⟨o,fd,z1,z2⟩=>⟨.frame,.inl rfl,?_⟩) (Calls.evalArgs_plain (thn c λus s1 ⟨vs,H1,Y,rv,q⟩=>?_))
 ·intro A' Q' E' s' kp q;unfold keeperOf;refine aa (wpAny_load (kp _ _ z1) ?_);rw[z2];exact al q
 ·obtain⟨c0,g,fx,sm,n,a,ds,ws,rfl,la,sg,R,rd,S,G,l,U,q⟩:=q;obtain⟨c',pm,ctv,oc0,oc',vsc,tq,Z,v,l3,l4,l5,l6⟩:=la;obtain⟨u1,u2,rfl,r1,r2⟩:=aY.two rv;refine⟨⟨_,_,oX Y.hok Z,rfl⟩,?_⟩;refine wpAny_call (codeAny_mono (OL (Q:=Q) hr Y.env0 Z v l3 l4 l5 l6 O r1 r2 ⟨g,fx,sm,n,a,ds,ws,rfl,sg.del1 v,by rw[eD (λz=>by rw[z,v]at R;cases R)];exact R,Reps.del1 v rd,S,G,l,U,λv' H' F rp nn=>q v' _ (λb o e=>?_) (bD.same (aH.upd nn) rp)⟩) λr s' B=>?_)
  ·by_cases z:b=c0
   ·subst z;rw[v]at e;cases e;exact upd_same
   ·rw[aC z];exact F b o (by rw[eD z];exact e)
  ·cases r with
   | error e=>exact B.elim
   | ok T =>
    cases T with
    | ret u=>exact Y.after B
    | next=>exact B.elim
    | brk=>exact B.elim
    | cont=>exact B.elim
end Lw
namespace Lw
open PySem L2
section
variable {P:Program}{w:World}{K:PySem.W.Frag}{mg:fR}{base:Heap}
noncomputable def pts:D->List D
 | .tup (.str _::ds)=>ds
 | .lst (.str _::ds)=>ds
 | _=>[]
noncomputable def stk:List D->List D
 | []=>[]
 | x::S=>x::(stk S).drop (pts x).length
mutual
theorem E4:∀{d:D},Wk d->∀S:List D,stk (wlk d++S)=d::stk S
 | .str x,_,S=>by unfold wlk;show stk (.str x::S)=_;rw[stk];rfl
 | .tup (.str n::ds),h,S=>by
  unfold Wk at h;rw[wlk,List.cons_append,stk,oN h S];show _::(ds++stk S).drop ds.length=_;rw[List.drop_left]
 | .lst (.str n::ds),h,S=>by
  unfold Wk at h;rw[wlk,List.cons_append,stk,oN h S];show _::(ds++stk S).drop ds.length=_;rw[List.drop_left]
 | .non,h,_ | .bl _,h,_ | .int _,h,_ | .tup [],h,_ | .lst [],h,_ | .tup (.non::_),h,_ | .tup (.bl _::_),h,_ | .tup (.int _::_),h,_ | .tup (.tup _::_),h,_ | .tup (.lst _::_),h,_ | .lst (.non::_),h,_ | .lst (.bl _::_),h,_ | .lst (.int _::_),h,_ | .lst (.tup _::_),h,_ | .lst (.lst _::_),h,_=>by unfold Wk at h;exact absurd h id
theorem oN:∀{ds:List D},Wks ds->∀S:List D,stk (wlks ds++S)=ds++stk S
 | [],_,S=>rfl
 | d::ds,⟨a,b⟩,S=>by rw[wlks,cj,E4 a,oN b];rfl
end
mutual
theorem wC:∀{d:D},Wk d->∀{pre S:List D} {x:D},wlk d=pre++x::S->∃rest,S=wlks (pts x)++rest
 | .str y,_,pre,S,x,e=>by
  unfold wlk at e;cases pre with
  | nil=>cases e;exact⟨[],rfl⟩
  | cons p pre=>have:=congrArg List.length e;simp at this
 | .tup (.str n::ds),h,pre,S,x,e=>by
  unfold Wk at h;rw[wlk]at e;cases pre with
  | nil=>cases e;exact⟨[],by simp[pts]⟩
  | cons p pre=>injection e with _ e;exact kO h e
 | .lst (.str n::ds),h,pre,S,x,e=>by
  unfold Wk at h;rw[wlk]at e;cases pre with
  | nil=>cases e;exact⟨[],by simp[pts]⟩
  | cons p pre=>injection e with _ e;exact kO h e
 | .non,h,_,_,_,_ | .bl _,h,_,_,_,_ | .int _,h,_,_,_,_ | .tup [],h,_,_,_,_ | .lst [],h,_,_,_,_ | .tup (.non::_),h,_,_,_,_ | .tup (.bl _::_),h,_,_,_,_ | .tup (.int _::_),h,_,_,_,_ | .tup (.tup _::_),h,_,_,_,_ | .tup (.lst _::_),h,_,_,_,_ | .lst (.non::_),h,_,_,_,_ | .lst (.bl _::_),h,_,_,_,_ | .lst (.int _::_),h,_,_,_,_ | .lst (.tup _::_),h,_,_,_,_ | .lst (.lst _::_),h,_,_,_,_=>by unfold Wk at h;exact absurd h id
theorem kO:∀{ds:List D},Wks ds->∀{pre S:List D} {x:D},wlks ds=pre++x::S->∃rest,S=wlks (pts x)++rest
 | [],_,pre,S,x,e=>by have:=congrArg List.length e;simp[wlks]at this
 | d::ds,⟨a,b⟩,pre,S,x,e=>by
  rw[wlks]at e;rcases List.append_eq_append_iff.mp e with⟨m,f,c⟩|⟨m,f,c⟩
  ·exact kO b c
  ·cases m with
   | nil=>exact kO b (pre:=[]) (by simpa using c.symm)
   | cons y m =>
    injection c with i h;subst i;obtain⟨rest,g⟩:=wC a f;exact⟨rest++wlks ds,by rw[h,g];show(wlks (pts x)++rest)++wlks ds=_;rw[cj]⟩
end
theorem E5:∀{S:List D} {y:D},y∈stk S->y∈S
 | x::S,y,h=>by
  rw[stk]at h;obtain rfl|h:=cr.mp h
  ·exact aw
  ·exact az _ (E5 (List.mem_of_mem_drop h))
theorem E6:∀S:List D,(stk S).length<=S.length
 | []=>ac _
 | x::S=>by rw[stk,aq,aq,bu];have:=E6 S;omega
theorem AA {l:List D}(h:Fls l):Fls l.reverse:=jV λd hd=>hU h d (List.mem_reverse.mp hd)
theorem BZ {l:List D}(h:Fls l)(k:Nat):Fls (l.drop k):=jV λd hd=>hU h d (List.mem_of_mem_drop hd)
theorem LR {l:List D}(h:Fls l)(k:Nat):Fls (l.take k):=jV λd hd=>hU h d (List.mem_of_mem_take hd)
theorem IL (sm:bU)(l:List D)(k:Nat):flts sm (l.drop k)=(flts sm l).drop k:=by rw[cS,cS,List.map_drop]
structure Sub (d x:D):Prop where
 tm:Tm x
 sz:sz x<=sz d
 nd:nds x<=nds d
 dp:depD x<=depD d
mutual
theorem yE:∀{d:D},Tm d->∀x∈wlk d,Sub d x
 | .str y,h,x,f=>by unfold wlk at f;rw[cp.mp f];exact⟨h,ac _,ac _,ac _⟩
 | .tup (.str n::ds),h,x,f=>by
  rw[wlk]at f;obtain rfl|f:=cr.mp f
  ·exact⟨h,ac _,ac _,ac _⟩
  ·unfold Tm at h;obtain⟨a,b,c,e⟩:=tG h.2 x f;exact⟨a,by rw[sz];omega,by rw[nds];omega,by rw[depD,depDs];omega⟩
 | .lst (.str n::ds),h,x,f=>by
  rw[wlk]at f;obtain rfl|f:=cr.mp f
  ·exact⟨h,ac _,ac _,ac _⟩
  ·unfold Tm at h;obtain⟨a,b,c,e⟩:=tG h.2 x f;exact⟨a,by rw[sz];omega,by rw[nds];omega,by rw[depD,depDs];omega⟩
 | .non,h,_,_ | .bl _,h,_,_ | .int _,h,_,_ | .tup [],h,_,_ | .lst [],h,_,_ | .tup (.non::_),h,_,_ | .tup (.bl _::_),h,_,_ | .tup (.int _::_),h,_,_ | .tup (.tup _::_),h,_,_ | .tup (.lst _::_),h,_,_ | .lst (.non::_),h,_,_ | .lst (.bl _::_),h,_,_ | .lst (.int _::_),h,_,_ | .lst (.tup _::_),h,_,_ | .lst (.lst _::_),h,_,_=>by unfold Tm at h;exact absurd h id
theorem tG:∀{ds:List D},Tms ds->∀x∈wlks ds,Tm x/\sz x<=szs ds/\nds x<=ndss ds/\depD x<=depDs ds
 | d::ds,⟨a,b⟩,x,c=>by
  rw[wlks]at c;obtain c|c:=cs.mp c
  ·obtain⟨e,h,g,f⟩:=yE a x c;exact⟨e,by rw[szs];omega,by rw[ndss];omega,by rw[depDs];omega⟩
  ·obtain⟨e,h,g,f⟩:=tG b x c;exact⟨e,by rw[szs];omega,by rw[ndss];omega,by rw[depDs];omega⟩
end
mutual
theorem yA:∀{d:D},Tm d->Wk d
 | .str x,h=>trivial
 | .tup (.str n::ds),h=>by unfold Wk;unfold Tm at h;exact oK h.2
 | .lst (.str n::ds),h=>by unfold Wk;unfold Tm at h;exact oK h.2
 | .non,h | .bl _,h | .int _,h | .tup [],h | .lst [],h | .tup (.non::_),h | .tup (.bl _::_),h | .tup (.int _::_),h | .tup (.tup _::_),h | .tup (.lst _::_),h | .lst (.non::_),h | .lst (.bl _::_),h | .lst (.int _::_),h | .lst (.tup _::_),h | .lst (.lst _::_),h=>by unfold Tm at h;exact absurd h id
theorem oK:∀{ds:List D},Tms ds->Wks ds
 | [],_=>trivial
 | _::_,⟨a,b⟩=>⟨yA a,oK b⟩
end
theorem NR (n z:Str)(l:List D):nds (one n z l)<=1+ndss l:=by
 unfold one;split
 ·show nds (.str z)<=_;unfold nds;omega
 ·rw[ndss,ndss];omega
 ·rw[nds];omega
theorem HL {l m:List D}(p:l.Perm m):ndss l=ndss m:=by
 induction p with
 | nil=>rfl
 | cons x _ c=>rw[ndss,ndss,c]
 | swap x y l=>rw[ndss,ndss,ndss,ndss];omega
 | trans _ _ a b=>exact a.trans b
theorem BP (sm:bU)(n:Str)(ps:List D):nds (knot sm n ps)<=1+ndss ps:=by
 unfold knot;split
 ·rw[nds];omega
 ·rename_i z _;have a:=NR n z (cX (opn n z ps));rw[HL (cI _)]at a;have b:=zB n z ps;omega
mutual
theorem OW (sm:bU):∀d:D,nds (flt sm d)<=nds d
 | .tup (.str n::ds)=>by rw[flt,nds];have:=BP sm n (flts sm ds);have:=pI sm ds;omega
 | .lst (.str n::ds)=>by rw[flt,nds];have:=BP sm n (flts sm ds);have:=pI sm ds;omega
 | .non | .bl _ | .int _ | .str _ | .tup [] | .lst [] | .tup (.non::_) | .tup (.bl _::_) | .tup (.int _::_) | .tup (.tup _::_) | .tup (.lst _::_) | .lst (.non::_) | .lst (.bl _::_) | .lst (.int _::_) | .lst (.tup _::_) | .lst (.lst _::_)=>by unfold flt;exact ac _
theorem pI (sm:bU):∀ds:List D,ndss (flts sm ds)<=ndss ds
 | []=>ac _
 | d::ds=>by rw[flts,ndss,ndss];have:=OW sm d;have:=pI sm ds;omega
end
theorem OV (sm:bU){n:Str}{ds:List D}{x:D}(h:x = .tup (.str n::ds)∨x = .lst (.str n::ds)):flt sm x=knot sm n (flts sm ds)/\pts x=ds:=by rcases h with rfl|rfl <;> exact⟨by rw[flt],rfl⟩
def spFW (K:PySem.W.Frag)(C:Addr):Sp:=λvs H Q _=>∃(c b e g:Addr) (fx:cT) (sm:bU) (d:D) (v:V),vs=[v,.ref c,.ref b]/\H c=some (.dK [])/\CM H b e g/\iV K C fx sm H g/\bD H d v/\Tm d/\(∀r∈sm,r.2=("" : Str)∨Fl (.str r.2))/\sz d<=60/\nds d<=1000/\depD d<=50 /\
 ∀(a:V) (H':Hp),aH H H'->bD H' (flt sm d) a->Q a H'
def UM (v:V)(d c m l:Addr)(sm:bU)(W:List D)(b:List V)(H:Hp)(i:Nat)(σ:St)(a:Hp):Prop:=∃(us:List V) (o4 o5:Option V),σ=[some v,some (.ref d),some (.ref c),some (.ref m),o4,o5]/\a m=some (.lst us)/\aH H a/\a l=some (.lst b)/\Reps a (flts sm (stk (W.drop (W.length - i)))).reverse us
def UN (m l p:Addr)(c:List V)(o:HO)(fs:List D)(H:Hp)(j:Nat)(b:List V)(σ:St)(a:Hp):Prop:=∃(us:List V) (o0:Option V),σ=[o0,some (.ref m)]/\a m=some (.lst us)/\aH H a/\a l=some (.lst c)/\a p=some o/\Reps a (fs.drop j).reverse us/\Reps a (fs.take j) b
theorem SL {f C:Addr}{fd:FuncData}(F:fZ K "from_within" "from_within" dH f fd)(T:Txt mg)(I:cC P w K mg base bA 1 "walked" oO)(c:cC P w K mg base bA 6 "flat_of_parts" (hX K C)):bW P w K mg base bA 8 f fd j4 (spFW K C):=by
 refine F.ok gR (λvs H Q E h=>?_) (λcdv A outer s H vs Q E hr h=>?_)
 ·obtain⟨fi,fl,c0,g,fx,sm,d,v,rfl,_⟩:=h;rfl
 ·obtain⟨fi,fl,c0,g,fx,sm,d,v,rfl,W,la,sg,rep,tm,hz,s60,t,d50,q⟩:=h;have hu:=hr.units
  refine⟨_,(aE (aU (i:=3) gR.nd rfl (Or.inr rfl) (bR aB))
   (aE (eV df rfl (yZ K rfl rfl T.n_reversed (aA (aL I (hr.mono (by decide)) pass0 rfl (aA (pv 0) aB)) aB)) (bO (i:=4) gR.nd rfl (Or.inl rfl)) (aG (bN (a0 K rfl (aK aM rfl T.n_isinstance rfl (aA (pv 4) (aA (bV (v:=V.ty "str") rfl T.n_str rfl rfl) aB))) (λ_=>rfl)) (aG (cN (iT db de dc eF (pv 3) (aA (KC (aj (bx (by decide) _) hu) (pv 1) (pv 4) (pv 4) ⟨rfl,rfl,rfl,rfl⟩) aB)))) (aE (gE (i:=5) gR.nd rfl rfl rfl rfl (bF.by (N:=kA) (names:=(aD dH).names) (N':=["part","made"]) (src:=[none,some 3]) (by decide +kernel) rfl rfl) (dQ K rfl (fX kR (pv 4) (fE aJ) gF)) (λ_ _ _ _=>(bO (i:=0) (show List.Nodup (["part","made"]:aQ)by decide +kernel) rfl (Or.inl rfl))) (λ_ _ _ _=>eB) (λ_ _ _ _=>(NI K rfl db PySem.F.slot_list_pop PySem.F.type_list_pop DU (pv 1))))
   (aG (cN (iT db de dc eF (pv 3) (aA (DH (i:=2) rfl (Or.inl rfl) c (hr.mono (by decide)) (aA (bQ cU (pv 4) aJ (λ_ _=>rfl)) (aA (pv 5) aB))) aB))))))))
   (aG (aP (bQ cU (pv 3) aJ (λ_ _=>rfl)))))),?_⟩
  simp only[kA];clear hr F T hu I c;have keep:=aI q (aI W (aI la (aI sg (aI rep (aI tm (aI hz (aI s60 (aI t d50))))))));clear q W la sg rep tm hz s60 t d50
  walk_at "rd"
  obtain⟨q,W,la,sg,rep,tm,hz,s60,t,d50⟩:=keep;refine⟨av _,λm hm=>?_⟩;have s1:aH H (upd H m (.lst [])):=aH.upd hm;have hm1:upd H m (.lst []) m=some (.lst []):=upd_same;generalize upd H m (.lst [])=H1 at s1 hm1⊢;refine⟨_,rfl,d,v,H,rfl,s1,rep,yA tm,t,λl ws H2 s2 hl h2 rws=>⟨l,ws,rfl,h2,?_⟩⟩;have lw:=Reps.len rws;have lk:=sK d;have hml:m≠l:=λz=>by rw[z,hl]at hm1;cases hm1
  refine LN ws (UM v fi fl m l sm (wlk d) ws H) ⟨[],none,none,rfl,s2 _ _ hm1,s1.trans s2,h2,by rw[Nat.sub_zero,List.drop_length];rfl⟩ (λi σ H3 _ ⟨_,_,_,_,_,_,h,_⟩=>h) ?_ ?_
  ·rintro i x σ H3 hi hx ⟨us,o4,o5,rfl,h3,s3,Y,ru⟩;obtain⟨e,he,rx⟩:=Reps.get rws hx;rw[lw]at hi he;have hlt:(wlk d).length - 1 - i<(wlk d).length:=by omega
   have B:(wlk d).drop ((wlk d).length - (i+1))=e::(wlk d).drop ((wlk d).length - i):=by have e1:(wlk d)[(wlk d).length - 1 - i]=e:=(cm.mp he).2;rw[show(wlk d).length - (i+1)=(wlk d).length - 1 - i by omega,List.drop_eq_getElem_cons hlt,e1,show(wlk d).length - 1 - i+1=(wlk d).length - i by omega]
   have O:wlk d=(wlk d).take ((wlk d).length - (i+1))++e::(wlk d).drop ((wlk d).length - i):=by rw[←B,List.take_append_drop]
   obtain⟨rest,G⟩:=wC (yA tm) O;have R:=yE tm e (bh he);have inS:∀y∈(wlk d).drop ((wlk d).length - i),y∈wlk d:=λy hy=>List.mem_of_mem_drop hy;have lS:((wlk d).drop ((wlk d).length - i)).length<=1000:=by rw[bu];omega
   generalize (wlk d).drop ((wlk d).length - i)=S at B O G inS lS ru;have X:Fls (flts sm (stk S)):=jV λy hy=>by rw[cS]at hy;obtain⟨z,hz1,rfl⟩:=cu.mp hy;exact(zZ hz (yE tm z (inS z (E5 hz1))).tm).1
   have lu:=Reps.len ru;rw[List.length_reverse,cS,ae]at lu;have ls:(stk S).length<=1000:=ao (E6 S) lS;have keep:=aI q (aI W (aI la (aI sg (aI tm (aI hz (aI s60 (aI t (aI d50 (aI hm (aI Y (aI h3 (aI s3 (aI ru (aI rx (aI R (aI B (aI G (aI X (aI lu (aI ls (aI hml he)))))))))))))))))))));clear q W la sg rep tm hz s60 t d50 hm Y h3 s3 ru rx R B G X lu ls hml he s1 hm1 s2 hl h2 rws lw lk hx hi hlt O inS lS
   walk_at "rd"
   obtain⟨q,W,la,sg,tm,hz,s60,t,d50,hm,Y,h3,s3,ru,rx,R,B,G,X,lu,ls,hml,he⟩:=keep;rcases EZ R.tm with⟨y,rfl,_⟩|⟨n,ds,hd,dne,tms⟩
   ·cases (show x = .str y from rx);refine⟨true,rfl,?_⟩;rw[ai rfl];refine⟨tyL h3,_,rfl,fi,rfl,.inl ⟨_,.inl (s3 _ _ W)⟩,_,rfl,_,rfl,_,kN.k (k:=.inr y) (s3 _ _ W),us,h3,aj (m:=1000) (by omega) (by decide),us++[.str y],_,_,rfl,upd_same,λb o hb=>by rw[aC (aF hb hm)];exact s3 _ _ hb,by rw[aC hml.symm];exact Y,?_⟩;rw[B,stk];show Reps _ (flts sm (.str y::(stk S).drop 0)).reverse _;rw[List.drop_zero,flts,List.reverse_cons];exact Reps.snoc (by unfold flt;rfl) (Reps.tups (bG.lst h3) (AA X) ru)
   ·obtain⟨va,L,rfl,hbb,hseq,lv⟩:∃va L,x = .ref va/\isV H3 (.ref va) (.ty "str")=some false/\fY H va (.str n::L)/\L.length=ds.length:=by
     rcases hd with rfl|rfl
     ·obtain⟨a,vs,rfl,ha,_,L,rfl,e1,r⟩:=rx;cases e1;exact⟨a,L,rfl,nZ (s3 _ _ ha),.inr ha,Reps.len r⟩
     ·obtain⟨a,vs,rfl,ha,_,L,rfl,e1,r⟩:=rx;cases e1;exact⟨a,L,rfl,uL (s3 _ _ ha),.inl ha,Reps.len r⟩
    obtain⟨hfe,hpe⟩:=OV sm hd;rw[hpe]at G;have wds:Wks ds:=oK tms;have hst:stk S=ds++stk rest:=by rw[G,oN wds]
    have hfs:flts sm (stk S)=flts sm ds++flts sm (stk rest):=by rw[hst,cS,ay,←cS,←cS]
    have lds:(flts sm ds).length=ds.length:=by rw[cS,ae]
    have lfs:(flts sm (stk S)).length<=1000:=by rw[cS,ae];exact ls
    refine⟨false,hbb,?_⟩;rw[ab (by decide)];refine⟨va,rfl,_,hseq.same s3,λ_ h=>by have:=h.1;simp[HT.sIx]at this,λp o hp ho=>?_⟩;rw[AE]at ho;refine⟨L,by rcases ho with⟨rfl,_⟩|⟨rfl,_⟩;exact .inl upd_same;exact .inr upd_same,λJ hJ=>?_⟩;have sp:aH H3 (upd H3 p o):=aH.upd hp;have hpo:upd H3 p o p=some o:=upd_same;have hmp:m≠p:=aF h3 hp;have hlp:l≠p:=aF Y hp;generalize upd H3 p o=H4 at sp hpo hJ⊢;refine dA hJ (UN m l p ws o (flts sm (stk S)) H) ⟨us,none,rfl,sp _ _ h3,s3.trans sp,sp _ _ Y,hpo,by rw[List.drop_zero];exact Reps.same sp ru,rfl⟩ (λj Z σ H' _ ⟨_,_,_,_,_,_,h,_⟩=>by rw[h,hpo]) ?_ ?_
    ·rintro j y Z σ H5 hy ⟨us5,o0,rfl,h5,s5,hl5,hp5,r5,U⟩;have hj:j<ds.length:=by have:=(cm.mp hy).1;omega
     have hj2:j<(flts sm (stk S)).length:=by rw[hfs,ar];omega
     rw[List.drop_eq_getElem_cons hj2,List.reverse_cons]at r5;obtain⟨us6,u,rfl,r6,ru6⟩:=jQ r5;have la':=Reps.len U;rw[bq]at la';have fu:Fl (flts sm (stk S))[j]:=hU X _ (List.getElem_mem hj2);refine⟨_,rfl,tyL h5,m,_,u,rfl,rfl,h5,by simp,aj (m:=1000) (by omega) (by decide),?_⟩;rw[List.dropLast_concat];have tt:bG H5 (upd H5 m (.lst us6)):=bG.lst h5;refine⟨us6,_,rfl,upd_same,λb o hb=>by rw[aC (aF hb hm)];exact s5 _ _ hb,by rw[aC hml.symm];exact hl5,by rw[aC hmp.symm];exact hp5,Reps.tups tt (AA (BZ X (j+1))) r6,?_⟩;rw[aW (ax hj2)];exact Reps.snoc (bD.tups tt fu ru6) (Reps.tups tt (LR X j) U)
    ·rintro Z σ H5 ⟨us5,o0,rfl,h5,s5,hl5,hp5,r5,U⟩ p6 hp6;have e1:(flts sm (stk S)).take L.length=flts sm ds:=by rw[hfs,lv,←lds,List.take_left]
     rw[e1]at U;have s6:aH H5 (upd H5 p6 (.lst Z)):=aH.upd hp6;have h66:upd H5 p6 (.lst Z) p6=some (.lst Z):=upd_same;have hmp6:m≠p6:=aF h5 hp6;generalize upd H5 p6 (.lst Z)=H6 at s6 h66⊢;have sH6:=s5.trans s6;have ix0:ixV H6 (.ref va) (.int 0)=some (.str n):=by
      rcases hseq.same sH6 with e|e
      ·rw[ixV_l e,atI_zero]
      ·rw[ixV_t e,atI_zero]
     have hsz:sz e=max 1 (szs ds):=by rcases hd with rfl|rfl <;> rw[sz]
     have hnd:nds e=1+ndss ds:=by rcases hd with rfl|rfl <;> rw[nds]
     have hdp:depD e=depDs ds+1:=by
      rcases hd with rfl|rfl
      ·rw[depD,depDs,show depD (.str n)=0 from rfl];omega
      ·rw[depD,depDs,show depD (.str n)=0 from rfl];omega
     have b1:=pH sm ds;have b2:=pI sm ds;have b3:=mG sm ds;have c1:=R.sz;have c2:=R.nd;have c3:=R.dp;refine⟨tyL (s6 _ _ h5),fl,rfl,_,rfl,.str n,ix0,_,rfl,c0,g,fx,sm,n,p6,flts sm ds,Z,rfl,la.same sH6,sg.same sH6,h66,Reps.same s6 U,FY hz tms,by omega,by omega,by omega,λv' H7 s7 r7=>?_⟩;have h7:=s7 _ _ (s6 _ _ h5);have l5:=Reps.len r5;rw[List.length_reverse,bu]at l5;refine⟨us5,h7,aj (m:=1000) (by omega) (by decide),us5++[v'],_,_,rfl,upd_same,λb o hb=>by rw[aC (aF hb hm)];exact s7 _ _ (sH6 _ _ hb),by rw[aC hml.symm];exact s7 _ _ (s6 _ _ hl5),?_⟩;have tt:bG H7 (upd H7 m (.lst (us5++[v']))):=bG.lst h7;rw[B,stk,flts,List.reverse_cons,hpe,IL,hfe];rw[lv]at r5;have fe:=(zZ hz R.tm).1;rw[hfe]at fe;exact Reps.snoc (bD.tups tt fe r7) (Reps.tups tt (AA (BZ X ds.length)) (Reps.same (s6.trans s7) r5))
  ·rintro σ H3 ⟨us,o4,o5,rfl,h3,s3,Y,ru⟩;rw[lw,Nat.sub_self,List.drop_zero]at ru;have e:=E4 (yA tm) [];rw[bj]at e;rw[e]at ru;obtain⟨u,r,rfl,r1,r2⟩:=ru;cases (show r=[]from r2);exact⟨_,rfl,u,by rw[ixV_l h3,atI_zero],q u H3 s3 r1⟩
end
end Lw
namespace L2
open PySem PySem.Spec PyProof.Rows PySem.W
theorem aR.grow {X:Cx}{a:cY}{σ:L2.St}{H:Hp}{s:Shared}{P:Addr}{ps more:jK}{h':Heap}{t':Nat}(I:aR X a σ H s)(h:H P=some (.tbl ps))(f:Heap.ExtBut P s.heap h')(j:h'.get? P=some (tabObj (ps++more))):aR X a σ (upd H P (.tbl (ps++more))) {s with heap:=h',toks:=t'}:=by
 have g:∀b,H b=none->b≠P:=λb e z=>by rw[z,h]at e;cases e
 have d:∀b u,H b=some u->(∀i,u≠.tbl i)->b≠P:=λb u e z w=>by rw[w,h]at e;cases e;exact z _ rfl
 refine I.un ⟨λb o e n _ _=>f b o (g b n) e,λb o e n _ _=>⟨o.slots,f b o (g b n) e⟩,λb o e n _=>by rw[aC (g b n)];exact n,λb o e _=>?_,λb xs e=>?_,λb o u e=>?_,λb i e=>?_⟩ (λb u e=>?_)
 ·by_cases z:b=P
  ·subst z;exact⟨_,j⟩
  ·exact⟨o,f b o z e⟩
 ·rw[aC (d b _ e λ_=>by simp)];exact e
 ·rw[aC (d b _ e λ_=>by simp)];exact e
 ·by_cases z:b=P
  ·subst z;rw[h]at e;cases e;exact⟨more,upd_same⟩
  ·exact⟨#[],by rw[aC z,e];simp⟩
 ·by_cases z:b=P
  ·subst z;rw[upd_same]at e;cases e;exact j
  ·rw[aC z]at e;refine(I.hok b u e).stay (λc o hc q=>f c o ?_ q) (λc q=>by rw[aC (d c _ q λ_=>by simp)];exact q) (λc xs q=>by rw[aC (d c _ q λ_=>by simp)];exact q);rcases hc with rfl|hc
   ·exact z
   ·exact d c _ hc λ_=>by simp
end L2
namespace Lw
open PySem PySem.Spec PyProof.Rows PySem.W L2
noncomputable def RG (e:Expr):Pos:=match e with
 | .Lambda _ _ _ p=>p
 | _=>⟨0,0,0,0⟩
noncomputable abbrev xL:Pos:=RG (lamOf cZ)
def LT (P:Addr)(H:Hp):Prop:=H P=some (.tbl #[])∨∃(a:Addr) (oc':Obj) (vsc:jK) (tq:Tok),H P=some (.tbl #[rawInt xL.line,rawInt xL.col,.ref a])/\H a=some (pinO a oc')/\oc'.data = .fields vsc/\vsc[1]?=some (.str qL tq)
theorem LT.same {P:Addr}{H H':Hp}(h:LT P H)(s:aH H H'):LT P H':=by
 rcases h with h|⟨g,b,a,c,f,e,d⟩
 ·exact .inl (s _ _ h)
 ·exact .inr ⟨g,b,a,c,s _ _ f,s _ _ e,d⟩
def Bm (mg:fR)(base:Heap):Prop:=∃a o,mg "__builtins__" = some (.ref a)/\a≠builtinsNs/\a≠mainGlobals/\base.get? a=some o/\o.cls = .type "module"/\o.dict=some builtinsNs/\o.data = .plain
noncomputable def QG (P b:Addr):TE:=λσ H Q=>LT P H/\∀(a c:Addr) (pm ctv:Value) (oc':Obj) (vsc:jK) (tq:Tok) (H':Hp),bC P H H'->LT P H'->H' a=some (pinO a (oL b c pm ctv))->H' c=some (pinO c oc')->oc'.data = .fields vsc->vsc[1]?=some (.str qL tq)->H b=none->H' b=none->Q (.ref a) H'
theorem KA {X:Cx}{c P i:Addr}(x:closureFor scL X.env=pure [(("signs" : Str),i)])(g:X.env.cells.lookup ("signs" : Str)=some i)(l:X.env.code = .ref c)(hq:X.env.qual++"<lambda>" = qL)(hC:∀h,X.K.In h->CodeHd h c P)(hB:Bm X.mg X.base):PE X (.Lambda pL bL scL xL) (QG P i):=by
 intro p s σ H Q I h;obtain⟨lt,q⟩:=h;have hg:s.heap.Ns mainGlobals X.mg:=I.mod.glob.keeps I.bk;have N:∃ps,H P=some (.tbl ps):=by
  rcases lt with h|⟨_,_,_,_,h,_⟩
  ·exact⟨_,h⟩
  ·exact⟨_,h⟩
 obtain⟨ps,t⟩:=N;have C:s.heap.get? P=some (tabObj ps):=I.hok P _ t;have B:∀b o,X.base.get? b=some o->b≠P:=λb o e z=>by have:=(I.bs b o e).2;rw[z,t]at this;cases this
 have L:mainGlobals≠P:=by obtain⟨o,es,ep,e,_⟩:=I.mod.glob;exact B _ _ e
 have hb:s.heap.BuiltinsAt X.mg P:=by obtain⟨bm,o,b1,b2,b3,b4,b5,b6,b7⟩:=hB;exact⟨bm,o,b1,b2,b3,B _ _ b4,I.bk _ _ b4,b5,b6,b7⟩
 have n0:=I.freeC _ _ g;refine kla_eval rfl ?_;rw[hq];rcases lt with lt|⟨a,f,j,u,lt,l2,l3,l4⟩
 ·rw[t]at lt;cases lt;refine kla_makeFunction x I.ok.glob hg l (hC _ I.kIn) C trivial rfl L hb λa d h' tk hx m w v G=>?_;obtain⟨c2,f,j,u,e2,J,hd,hv⟩:=v;cases e2;have I1:aR X p σ (upd H P (.tbl (#[] ++ #[rawInt xL.line,rawInt xL.col,.ref a]))) {s with heap:=h',toks:=tk}:=I.grow t hx G;have Z:P≠a:=λz=>by have:=ba C;rw[z]at this;exact bI _ (bd this m)
  have nc':H a=none:=I.hok.fresh m;have fc:=I.fpOk (H':=upd H P (.tbl (#[] ++ #[rawInt xL.line,rawInt xL.col,.ref a]))) m (by rw[aC Z.symm];exact nc');have U:=I1.adopt (o:=pinO a f) fc (yY J);have W:s.heap.objs.size<=h'.objs.size:=ao m (Nat.le_of_lt w);have T:=U.kept (t':=tk) λb o e=>af (oL i a ((X.mg "__name__").getD .none) d) e;have S:=U.fpOk (ac h'.objs.size) (U.hok.fresh (ac _));have R:(h'.push (oL i a ((X.mg "__name__").getD .none) d)).get? h'.objs.size=some (oL i a ((X.mg "__name__").getD .none) d):=au _ rfl;have A:=T.adopt (o:=pinO h'.objs.size (oL i a ((X.mg "__name__").getD .none) d)) S (yY R);have E:a≠h'.objs.size:=bn w;have F:P≠h'.objs.size:=λz=>by have:=ba C;rw[z]at this;exact bI _ (bd this W)
  have r:upd (upd (upd H P (.tbl (#[] ++ #[rawInt xL.line,rawInt xL.col,.ref a]))) a (pinO a f)) h'.objs.size (pinO h'.objs.size (oL i a ((X.mg "__name__").getD .none) d)) a=some (pinO a f):=by rw[aC E];exact upd_same
  have O:upd (upd (upd H P (.tbl (#[] ++ #[rawInt xL.line,rawInt xL.col,.ref a]))) a (pinO a f)) h'.objs.size (pinO h'.objs.size (oL i a ((X.mg "__name__").getD .none) d)) P=some (.tbl #[rawInt xL.line,rawInt xL.col,.ref a]):=by rw[aC F,aC Z,upd_same];rfl
  refine⟨.ref h'.objs.size,_,A,rfl,q _ a _ d f j u _ (λb o B e=>?_) (.inr ⟨a,f,j,u,O,r,hd,hv⟩) upd_same r hd hv n0 (A.freeC _ _ g)⟩;have lb:=I.hok.lt e;rw[aC (λz=>by rw[z]at lb;exact bI _ (bd lb W)),aC (aF e nc'),aC B];exact e
 ·rw[t]at lt;cases lt;have am:codeAmong xL [rawInt xL.line,rawInt xL.col,.ref a]=some (.ref a):=by simp[codeAmong,rawInt]
  refine kla_makeFunctionHit (cv:=.ref a) x I.ok.glob hg l (hC _ I.kIn) C trivial am hb λd h' tk hk hsz=>?_;have T:aR X p σ H {s with heap:=h'.push (oL i a ((X.mg "__name__").getD .none) d),toks:=tk}:=I.kept λb o e=>af _ (hk b o e);have Y:=I.hok.fresh hsz;have S:=I.fpOk hsz Y;have R:(h'.push (oL i a ((X.mg "__name__").getD .none) d)).get? h'.objs.size=some (oL i a ((X.mg "__name__").getD .none) d):=au _ rfl;have A:=T.adopt (o:=pinO h'.objs.size (oL i a ((X.mg "__name__").getD .none) d)) S (yY R);have sm:aH H (upd H h'.objs.size (pinO h'.objs.size (oL i a ((X.mg "__name__").getD .none) d))):=aH.upd Y;exact⟨.ref h'.objs.size,_,A,rfl,q _ a _ d f j u _ (λb o _ e=>sm b o e) (.inr ⟨a,f,j,u,sm _ _ t,sm _ _ l2,l3,l4⟩) upd_same (sm _ _ l2) l3 l4 n0 (A.freeC _ _ g)⟩
noncomputable def tFWc (K:PySem.W.Frag)(C b:Addr)(t:TA):TE:=λσ H Q=>t σ H λvs c=>∃g,σ[0]?=some (some (.ref g))/\∀a:Obj,a.data = .cell (some (.ref g))->c b=none->spFW K C vs (upd c b (pinO b a)) (λv H'=>H' b=some (pinO b a)/\Q v (del1 H' b)) E0
theorem SJ {X:Cx}{C i:Addr}{k:Nat}{e:Expr}{Y:lR}{t:TA}{p G:Pos}(O:cC X.prog X.w X.K X.mg X.base bA k "from_within" (spFW X.K C))(hr:eX k X.A)(hg:Gl X "from_within")(hN:X.N[0]?=some ("signs" : Str))(l:X.env.scope.names.lookup ("signs" : Str)=some .cell)(d:X.env.cells.lookup ("signs" : Str)=some i)(hfn:X.fn "signs" = true)(ha:PA X (e::Y) t)
  (he:starEach (e::Y) X.env=(false,eval e X.env)::starEach Y X.env:=by rfl) (hpl:(backTo G (starEach Y X.env)).any (·.1)=false:=by rfl):PE X (.Call (.Name "from_within" p) (e::Y) [] G) (tFWc X.K C i t):=by
 obtain⟨f,fd,ps,F,hm,hk,hb⟩:=O;intro R s σ H Q I h;refine wpAny_Call_Name_kw (pE I hg hm ?_ (by decide));refine PySem.W.callWith_K (h₀:=X.base) I.ok.mod.kin hk (thn (ha G R s σ H _ I h) λus P ⟨vs,H1,B,r,q⟩=>⟨B.kIn,?_⟩) he hpl;obtain⟨g,hσ,q⟩:=q;have n0:=B.freeC _ _ d;have j:=B.ok.cab _ _ hfn d;obtain⟨a,ho,hd⟩:∃a,P.heap.get? i=some a/\a.data = .cell (some (.ref g)):=by
  obtain⟨m,hns,hl⟩:=B.loc;obtain⟨u,ru,look⟩:=hl 0 _ _ hN hσ (.inr (.inl l));cases ru;rcases look with⟨z,_⟩|⟨_,c,hc,a,ho,hd⟩
  ·have z':X.env.scope.names.lookup ("signs" : Str)=some .local:=z;rw[l]at z';cases z'
  ·rw[d]at hc;cases hc;exact⟨a,ho,hd⟩
 have sp:=q a hd n0;have E:=B.env0;have nl:i≠X.env.locals:=λz=>by obtain⟨m,⟨o,es',ep,e1,e2,_⟩,_⟩:=B.loc;rw[←z,ho]at e1;cases e1;rw[hd]at e2;cases e2
 have S:∀b∈frs X.stack,b≠i:=λb hb z=>by
  rcases cr.mp (B.stkSub b hb)with w|w
  ·exact nl (z ▸ w)
  ·obtain⟨_,o,e1,_⟩:=B.ok.funs.mem w;exact bI _ (bd (ba e1) (z ▸ j))
 have hl:(us++[]).length=ps.length:=by have:=F.len _ _ _ _ sp;rw[bj,←r.length];exact this
 have ne:∀b o,X.base.get? b=some o->b≠i:=λb o e z=>bI _ (bd (ba (B.ok.bs b o e).1) (z ▸ j));have env:vZ X.prog X.w X.K X.mg X.base X.A X.stack P (upd H1 i (pinO i a)):=⟨E.frames,E.mod,λb o e=>⟨(E.bs b o e).1,by rw[aC (ne b o e)];exact(E.bs b o e).2⟩,E.bsz,E.funs,λb z=>by rw[aC (S b z)];exact E.frf b z,E.hok.back n0 ho,E.bare⟩
 refine wpAny_call (codeAny_mono (F.run X.A X.stack P _ ⟨us,[]⟩ us vs _ E0 hr env (by have:=hb P us B.kIn hl;rw[bj]at this;exact this) r sp) λres s' T=>?_);cases res with
 | error x=>exact T.elim
 | ok fl' =>
  cases fl' with
  | ret u =>
   obtain⟨v,H',os,bare,un,hok,rv,U,qq⟩:=T;have g0:=oX hok U;have L:∀b u,H1 b=some u->b≠i:=λb u e=>aF e n0;have un2:Un (frs X.stack) [] H1 (del1 H' i) P.heap s'.heap:=by
    refine⟨λb o e n Z J=>?_,λb o e n Z J=>?_,λb o e n J=>?_,λb o e J=>un.there b o e J,λb xs e=>?_,λb o u' e=>?_,λb qs e=>?_⟩
    ·by_cases z:b=i
     ·subst z;rw[ho]at e;cases e;exact g0
     ·exact un.keep b o e (by rw[aC z];exact n) Z J
    ·exact un.slot b o e (by rw[aC (S b Z)];exact n) Z J
    ·by_cases z:b=i
     ·subst z;exact nC
     ·exact i0 (un.free b o e (by rw[aC z];exact n) J)
    ·rw[eD (L b _ e)];exact un.tups b xs (by rw[aC (L b _ e)];exact e)
    ·rw[eD (L b _ e)];exact un.frzs b o u' (by rw[aC (L b _ e)];exact e)
    ·rw[eD (L b _ e)];exact un.tbls b qs (by rw[aC (L b _ e)];exact e)
   exact⟨v,_,B.call' (ch:=[]) os un2 (hok.del U) bare (λb z=>absurd z (by simp)),rv,qq⟩
  | next=>exact T.elim
  | brk=>exact T.elim
  | cont=>exact T.elim
end Lw
namespace Lw
open PySem L2
section
variable {P:Program}{w:World}{K:PySem.W.Frag}{mg:fR}{base:Heap}
theorem OR {x a:Str}{st:Stmt}{f:Addr}{l:Value}{od j:Option Addr}{osl:Array (Option Value)}{kV d i b ct:Value}{N ps:aQ}{k:Nat}{sp:Sp}(m:K.lookup f=some ⟨l,od,.func (PySem.W.fnOf x a (aO st) (aN st) (aD st) .none kV d i j b ct),osl⟩)(g:PySem.W.codeIn K b a=true)(S:aT N ps (aD st))(len:∀vs H Q E,sp vs H Q E->vs.length=ps.length)
  (c:∀(A:Around) (outer:List Env) (s:Shared) (H:Hp) (vs:List V) (Q:VK) (E:XK),eX k (A.deeper (PyProof.Rows.envOfC a (aD st) s.heap.objs.size f b))->sp vs H Q E ->
   ∃t,CO (cxOf bA P w K mg base N a (aD st) f b A outer s H E).nox (aN st) t/\t {nx:=λ_ H'=>Q .non H',rt:=Q} (start N vs) H):bW P w K mg base bA (k+1) f (PySem.W.fnOf x a (aO st) (aN st) (aD st) .none kV d i j b ct) ps sp:=by
 refine PV m g S len λA outer s H vs Q E o e=>?_;obtain⟨t,h,q⟩:=c A outer s H vs Q E o e;exact⟨t,h.nox,q⟩
mutual
theorem bD.but {H H':Hp}{p:Addr}(b:bC p H H')(n1:∀xs,H p≠some (.tup xs))(n2:∀xs,H p≠some (.lst xs)):∀{d:D} {v:V},bD H d v->bD H' d v
 | .non,v,h | .bl _,v,h | .int _,v,h | .str _,v,h=>h
 | .tup ds,v,⟨a,vs,f,c,e⟩=>⟨a,vs,f,b a _ (λz=>n1 vs (z ▸ c)) c,Reps.but b n1 n2 e⟩
 | .lst ds,v,⟨a,vs,f,c,e⟩=>⟨a,vs,f,b a _ (λz=>n2 vs (z ▸ c)) c,Reps.but b n1 n2 e⟩
theorem Reps.but {H H':Hp}{p:Addr}(b:bC p H H')(n1:∀xs,H p≠some (.tup xs))(n2:∀xs,H p≠some (.lst xs)):∀{ds:List D} {vs:List V},Reps H ds vs->Reps H' ds vs
 | [],vs,h=>h
 | d::ds,vs,⟨v,r,e,c,a⟩=>⟨v,r,e,bD.but b n1 n2 c,Reps.but b n1 n2 a⟩
end
theorem LT.tbl {Pt:Addr}{H:Hp}(h:LT Pt H):∃ps,H Pt=some (.tbl ps):=by
 rcases h with h|⟨_,_,_,_,h,_⟩
 ·exact⟨_,h⟩
 ·exact⟨_,h⟩
theorem LT.rep {Pt:Addr}{H H':Hp}(h:LT Pt H)(b:bC Pt H H'){d:D}{v:V}(r:bD H d v):bD H' d v:=by obtain⟨ps,e⟩:=h.tbl;exact bD.but b (λxs z=>by rw[e]at z;cases z) (λxs z=>by rw[e]at z;cases z) r
theorem LT.ne {Pt:Addr}{H:Hp}(h:LT Pt H){a:Addr}{o:HO}(e:H a=some o)(n:∀ps,o≠.tbl ps):a≠Pt:=λz=>by obtain⟨ps,b⟩:=h.tbl;rw[z,b]at e;cases e;exact n _ rfl
theorem LT.sg {Pt C g:Addr}{e:cT}{sm:bU}{H H':Hp}(h:LT Pt H)(b:bC Pt H H')(s:iV K C e sm H g):iV K C e sm H' g:=by obtain⟨t,r,q,m,fs,p,o,d,l,j,i,f,c,a⟩:=s;exact⟨t,r,q,m,fs,p,o,b _ _ (h.ne d λ_=>by simp) d,l,j,i,f,b _ _ (h.ne c λ_=>by simp) c,b _ _ (h.ne a λ_=>by simp) a⟩
def yJ (K:PySem.W.Frag)(C Pt:Addr):Sp:=λvs H Q _=>∃(b g:Addr) (fx:cT) (sm:bU) (d:D) (v:V),vs=[.ref g,.ref b,v]/\H b=some (.dK [])/\iV K C fx sm H g/\bD H d v/\Tm d/\(∀r∈sm,r.2=("" : Str)∨Fl (.str r.2))/\sz d<=60/\nds d<=1000/\depD d<=50/\LT Pt H /\
 ∀(a:V) (H':Hp),bC Pt H H'->LT Pt H'->bD H' (flt sm d) a->Q a H'
theorem KN {f C c Pt:Addr}{Z:Value}{od T:Option Addr}{osl:Array (Option Value)}{kV t u ct:Value}(lk:K.lookup f=some ⟨Z,od,.func (PySem.W.fnOf "put_in" "put_in" (aO cZ) (aN cZ) (aD cZ) .none kV t u T (.ref c) ct),osl⟩)(j:PySem.W.codeIn K (.ref c) "put_in" = true)
  (hC:∀h,K.In h->PySem.W.CodeHd h c Pt) (hB:Bm mg base) (a:cC P w K mg base bA 8 "from_within" (spFW K C)):bW P w K mg base bA 9 f (PySem.W.fnOf "put_in" "put_in" (aO cZ) (aN cZ) (aD cZ) .none kV t u T (.ref c) ct) vE (yJ K C Pt):=by
 refine OR lk j GY (λvs H Q E h=>?_) (λA outer s H vs Q E hr h=>?_)
 ·obtain⟨S,g,R,sm,d,v,rfl,_⟩:=h;rfl
 ·obtain⟨S,g,R,sm,d,v,rfl,r,sg,rep,tm,hz,z,i,L,lt,q⟩:=h;refine⟨_,(aG (aP (SJ a (hr.mono (by decide)) rfl rfl rfl rfl rfl (aA (pv 2) (aA (pv 1) (aA (KA rfl rfl rfl rfl hC hB) aB)))))),?_⟩;refine⟨_,rfl,_,rfl,lt,λfl c' u N B x X H' bt F G J j hv n0 p=>⟨g,rfl,λm I _=>?_⟩⟩;have l:aH H' (upd H' (s.heap.objs.size+1) (pinO (s.heap.objs.size+1) m)):=aH.upd p;refine⟨S,fl,s.heap.objs.size+1,g,R,sm,d,v,rfl,l _ _ (bt _ _ (lt.ne r λ_=>by simp) r),⟨c',u,N,m,B,x,X,l _ _ G,upd_same,I,l _ _ J,j,hv⟩,(lt.sg bt sg).same l,bD.same l (lt.rep bt rep),tm,hz,z,i,L,λU H2 s2 Y=>⟨s2 _ _ upd_same,?_⟩⟩;have O:aH H' (del1 H2 (s.heap.objs.size+1)):=λb o e=>by rw[eD (aF e p)];exact s2 _ _ (l _ _ e)
  exact q U _ (λb o nb e=>O _ _ (bt b o nb e)) (F.same O) (bD.del1 (s2 _ _ upd_same) Y)
end
section
variable {P:Program}{w:World}{K:PySem.W.Frag}{mg:fR}{base:Heap}
structure S5 (fx:cT)(sm:bU)(os:aQ)(d:D):Prop where
 so:cD fx sm
 ho:∀x∈os,cK x
 tm:bT fx sm os d
 lv:lvs d<=50
 nd:nds d<=1000
 dp:depD d<=50
end
end Lw
namespace L2
open PySem PySem.Spec PyProof.Rows
def AM (vs:bX)(ks:List bE):Prop:=ks.length=vs.length/\∀(i:Nat) (k:bE) (v:Value),ks[i]?=some k->vs[i]?=some v->keyIs k v=true/\v.scannable=true
def MH (P:Program)(w:World)(h:Heap)(S:Addr)(ks:List bE)(i:Nat):Prop:=h.SetOf (bK P w) S (λk=>(ks.take i).any λx=>decide (x=k)) i
theorem MH.at {P:Program}{w:World}{h h':Heap}{S:Addr}{ks:List bE}{i:Nat}(x:MH P w h S ks i)(k:∀o,h.get? S=some o->h'.get? S=some o):MH P w h' S ks i:=by obtain⟨o,a,b,t,e,r⟩:=x;exact⟨o,a,b,t,k _ e,r⟩
local macro_rules | `(tactic| walk_at "sd_on")=>`(tactic| (repeat (any_goals (first | assumption | wp_step))))
section
variable {P:Program}{w:World}{A:Around}
theorem FN {I S:Addr}{R:Result->Shared->Prop}{s:Shared}(h:wpAny (model P w) A.in1 (Builtin.«set.update.loop» ⟨[.ref S,.ref I],[]⟩) (λy a=>match y with | .done f=>R (.ok f) a | .again c=>c.quiet=true/\codeAny (model P w) A c R a) (λe a=>R (.error e) a) s):codeAny (model P w) A (.builtin "set.update.loop" ⟨[.ref S,.ref I],[]⟩) R s :=
 codeAny_builtin F.entry_set_update_loop (by rw[Around.under_plainId F.plain_set_update_loop _];exact h)
theorem JY {l I S:Addr}{items:bX}{ks:List bE}(X:A.handled=none)(G:AM items ks)(nd:ks.Nodup)(hb:items.length+1<scanBound)(n1:S≠I)(n2:l≠I)(n3:l≠S){R:Result->Shared->Prop} :
  ∀(j i:Nat) (s:Shared),i+j=items.length->s.heap.IsListIter I l i->s.heap.IsList l items.toArray->MH P w s.heap S ks i ->
   (∀h' tk,MH P w h' S ks items.length->(∀b o,b≠S->b≠I->s.heap.get? b=some o->h'.get? b=some o)->R (.ok (.ret .none)) {s with heap:=h',toks:=tk}) ->
   codeAny (model P w) A (.builtin "set.update.loop" ⟨[.ref S,.ref I],[]⟩) R s:=by
 intro j
 induction j with
 | zero =>
  intro i s e it f v B;rw[Nat.add_zero]at e;subst e;refine FN ?_;refine aa (wpAny_pyNext_list_end (A:=A.in1) X it f (by simp) λh' L=>?_);exact al (B h' s.toks (v.at λo z=>L _ _ n1 z) λb o _ Y z=>L b o Y z)
 | succ j T =>
  intro i s e it f v B;have q:i<items.length:=by omega
  have J:i<ks.length:=by rw[G.1];exact q
  obtain⟨is,Q⟩:=G.2 i ks[i] items[i] (ax J) (ax q);refine FN ?_;refine aa (wpAny_pyNext_list_item (A:=A.in1) (x:=items[i]) it f (by simp[q]) λC p c=>?_);have t:MH P w C S ks i:=v.at λo z=>(c.2 S n1).trans z;show wpAny _ A.in1 (holding [items[i]] (setAdd S items[i]) >>= _) _ _ {s with heap:=C};refine aa (cf (show wpAny _ _ (setAdd S items[i]) _ _ _ from ?_));unfold setAdd;refine cf (aa ((bK P w).pyHash (k:=ks[i]) is ?_));refine wpAny_setAddHashed_of (knd:=bK P w) (s:={s with heap:=C,toks:=s.toks+1}) is Q t (by omega) λK a d=>?_;have new:((ks.take i).any λx=>decide (x=ks[i]))=false:=by rw[List.any_eq_false];intro x U z;have z:=bp z;obtain⟨m,W,E⟩:=List.mem_iff_getElem.mp U;rw[z]at E;rw[bq]at W;rw[List.getElem_take]at E;have:=(List.getElem_inj nd).mp E;omega
  rw[new]at d;have Z:(λH=>((ks.take i).any λx=>decide (x=H)) || decide (H=ks[i]))=λk=>(ks.take (i+1)).any λx=>decide (x=k):=by funext k;rw[List.take_succ_eq_append_getElem J,List.any_append,List.any_cons,List.any_nil,Bool.or_false];congr 1;exact decide_eq_decide.mpr eq_comm
  rw[Z]at d;have r:MH P w K S ks (i+1):=d;refine al ⟨plainId_quiet F.plain_set_update_loop _,T (i+1) {s with heap:=K,toks:=s.toks+1} (by omega) ?_ ?_ r λh' tk u kp=>?_⟩
  ·obtain⟨o,h,g⟩:=p;exact⟨o,(a.2 I n1.symm).trans h,g⟩
  ·obtain⟨o,h,g⟩:=f;exact⟨o,(a.2 l n3).trans ((c.2 l n2).trans h),g⟩
  ·exact B h' tk u λb o N O z=>kp b o N O ((a.2 b N).trans ((c.2 b O).trans z))
theorem IS {E:cE}{s:Shared}{l:Addr}{items:bX}{ks:List bE}{Q:cE}(H:A.handled=none)(G:s.heap.IsList l items.toArray)(C:AM items ks)(nd:ks.Nodup)(J:items.length+1<scanBound)
  (h:∀(h':Heap) (tk:Nat),MH P w h' s.heap.objs.size ks items.length->(∀b o,s.heap.get? b=some o->h'.get? b=some o)->Q (.ref s.heap.objs.size) {s with heap:=h',toks:=tk}) :
  wpAny (model P w) A (call (.type "set") [.ref l]) Q E s:=by
 obtain⟨c,tl,W⟩:=F.called_set.mro;have U:=F.called_set.made;have T:=F.called_set.sub;refine wpAny_call (codeAny_of_tree (al ⟨Code.quiet_builtin _ (by decide +kernel),codeAny_builtin F.entry_type_call ?_⟩));have v:=weight_type_call_type "set" [.ref l] [];rw[Around.under_plain v rfl];have S:=F.called_set.notType;have O:=F.called_set.canCreate;have N:=F.typeCall_set_1 (.ref l)
 walk_at "sd_on"
 refine codeAny_mono (code_set_new_1 (.ref l) (E:=E) (Q₁:=λobj t=>∃a:Bool,obj = .ref s.heap.objs.size/\t={s with heap:=s.heap.push {cls:=.type "set",dict:=none,data:=.set #[] 0 (.fresh 0 0 a)} }) λa=>⟨a,rfl,rfl⟩) λr t g=>?_;cases r with
 | error e=>exact g
 | ok L =>
  cases L with
  | next=>exact g.elim
  | brk=>exact g.elim
  | cont=>exact g.elim
  | ret obj =>
   obtain⟨a,rfl,rfl⟩:=g;have u:(s.heap.push {cls:=.type "set",dict:=none,data:=.set #[] 0 (.fresh 0 0 a)}).get? s.heap.objs.size=some {cls:=.type "set",dict:=none,data:=.set #[] 0 (.fresh 0 0 a)}:=au _ rfl;have x:Shared.TypeIs {s with heap:=s.heap.push {cls:=.type "set",dict:=none,data:=.set #[] 0 (.fresh 0 0 a)} } (.ref s.heap.objs.size) "set":=⟨_,u,rfl⟩
   have i1:=F.called_set.init.lookup;have i2:=F.called_set.init.bind (.ref s.heap.objs.size)
   walk_at "sd_on"
   refine codeAny_mono (codeAny_call_builtin (R:=wants (λr s2=>r = .none/\∃h' tk,s2={s with heap:=h',toks:=tk}/\MH P w h' s.heap.objs.size ks items.length/\∀b o,s.heap.get? b=some o->h'.get? b=some o) E) F.called_set.init.plain F.entry_set_init (check_set_init_1 x ?_)) λB s2 d=>?_
   ·obtain⟨⟨c1,d1,t1,z⟩,ho,j,n1,i⟩:=id G;simp only at j i;subst j i;have ho':=af {cls:=.type "set",dict:=none,data:=.set #[] 0 (.fresh 0 0 a)} ho;have Z:=F.sub_list_set;have Y:=F.sub_list_frozenset;have X:(Value.type "list" == Value.type "dict")=false:=by decide
    have hl':(s.heap.push {cls:=.type "set",dict:=none,data:=.set #[] 0 (.fresh 0 0 a)}).IsList l items.toArray:=⟨_,ho',rfl,n1,rfl⟩
    unfold Builtin.«set.__init__» Builtin.Frozenset.updateFrom noKeywords;generalize q:pyIter=PI
    wp_walk
    subst q;refine wpAny_pyIter_list hl' (aa (wpAny_runValue ?_));have lt:=ba ho;have m:(s.heap.push {cls:=.type "set",dict:=none,data:=.set #[] 0 (.fresh 0 0 a)}).objs.size=s.heap.objs.size+1:=Heap.size_push _ _;refine JY (P:=P) (w:=w) (items:=items) (ks:=ks) (l:=l) (by simp[H]) C nd J (by rw[m];exact bn (Nat.lt_succ_self _)) (by rw[m];exact bn (Nat.lt_succ_of_lt lt)) (bn lt) items.length 0 _ (Nat.zero_add _) ⟨_,au _ rfl,rfl,rfl⟩ (hl'.push _) ?_ λh' tk f kp=>?_
    ·have K:=af {cls:=.type "list_iterator",data:=.fields #[.ref l,.int 0 0]} u;refine⟨_,#[],0,.fresh 0 0 a,K,⟨rfl,rfl,rfl⟩,rfl,(λe I=>absurd I (by simp)),λk=>?_,(by show 0<scanBound;omega),(by cases a <;> decide),rfl⟩;simp
    ·refine al (al ⟨rfl,h',tk,rfl,f,λb o e=>kp b o (bn (ba e)) (by rw[m];exact bn (Nat.lt_succ_of_lt (ba e))) (af _ (af _ e))⟩)
   ·cases B with
    | error e=>exact d
    | ok f2 =>
     cases f2 with
     | next=>exact d.elim
     | brk=>exact d.elim
     | cont=>exact d.elim
     | ret r =>
      obtain⟨rfl,h',tk,rfl,f,p⟩:=d
      walk_at "sd_on"
      exact h _ _ f p
end
noncomputable abbrev CF (P:Program)(w:World)(a:Addr)(n:Nat):HO:=.ext λh=>∃ks,MH P w h a ks n
theorem MX {P:Program}{w:World}{H:Hp}{h:Heap}{a:Addr}{n:Nat}{ks:List bE}(x:MH P w h a ks n):bZ P w H h a (CF P w a n):=by refine⟨⟨ks,x⟩,?_,λd c ⟨b,y⟩ k=>⟨b,y.at λo e=>k o e⟩⟩;obtain⟨o,_,_,_,e,_⟩:=x;exact⟨o,e⟩
theorem D3:∀{ss:aQ} {us:bX},aY (ss.map V.str) us->AM us (ss.map Sum.inr):=by
 intro ss us h;refine⟨by rw[ae,←h.length,ae],λi k v a d=>?_⟩;rw[bw]at a;cases hs:ss[i]? with
 | none=>rw[hs]at a;cases a
 | some x =>
  rw[hs]at a;cases a;obtain⟨u,b,c⟩:=h.get (i:=i) (x:=.str x) (by rw[bw,hs];rfl);rw[d]at b;cases b;obtain⟨t,rfl⟩:=c;exact⟨xA x t,rfl⟩
section
variable {X:Cx}
noncomputable def rSetT (P:Program)(w:World):List V->Hp->VK->Prop:=λxs H Q=>∃(l:Addr) (ss:aQ),xs=[.ref l]/\H l=some (.lst (ss.map V.str))/\ss.Nodup/\ss.length<=100/\∀p,H p=none->Q (.ref p) (upd H p (CF P w p ss.length))
theorem xS (hc:X.calm=true):cL X (.type "set") (rSetT X.prog X.w):=by
 intro a s σ H xs us Q I c h;obtain⟨l,ss,rfl,g,nd,le,q⟩:=h;obtain⟨u,rfl,d⟩:=aY.one c;cases d;obtain⟨its,r,pl,hz⟩:=I.list (fQ.of g);have len:its.length=ss.length:=by rw[←r.length,ae]
 refine IS (P:=X.prog) (w:=X.w) (I.ok.hd hc) pl.isList (D3 r) ((List.pairwise_map.mpr (nd.imp λh e=>h (Sum.inr.inj e)))) (by rw[len];exact aj (Nat.succ_le_succ le) (by decide)) λh' tk b kp=>?_;have f:H s.heap.objs.size=none:=I.hok.fresh (ac _);rw[len]at b;exact⟨.ref s.heap.objs.size,_,I.laid (t':=tk) (o:=CF X.prog X.w s.heap.objs.size ss.length) kp (ac _) (MX b),rfl,q _ f⟩
noncomputable def rLenS (P:Program)(w:World):List V->Hp->VK->Prop:=λxs H Q=>∃(a:Addr) (n:Nat),xs=[.ref a]/\H a=some (CF P w a n)/\Q (.int n) H
theorem xU:cL X (.builtin "len") (rLenS X.prog X.w):=by intro c s σ H xs us Q I d h;obtain⟨a,n,rfl,j,q⟩:=h;obtain⟨u,rfl,e⟩:=aY.one d;cases e;obtain⟨⟨ks,o,l,m,t,ho,b,hd,_,_,i,g,f⟩,_⟩:=I.hok a _ j;have p:l.size<4096:=i;refine call_len_set ho b hd g (by omega) ?_;rw[f];exact⟨.int n,H,I.tok _,⟨_,rfl⟩,q⟩
end
end L2
namespace Lw
open PySem L2
section
variable {P:Program}{w:World}{K:PySem.W.Frag}{mg:fR}{base:Heap}
theorem HU {c:Nat}(h:97<=c/\c<=122):inTx "abcdefghijklmnopqrstuvwxyz" c=true:=by
 have a:∀j:Fin 26,inTx "abcdefghijklmnopqrstuvwxyz" (97+j.1)=true:=by decide +kernel
 have:=a ⟨c - 97,by omega⟩;rw[show 97+(c - 97)=c by omega]at this;exact this
def C3:Sp:=λvs H Q _=>∃x:Str,vs=[.str x]/\jJ x/\∀H',aH H H'->Q (.bl true) H'
theorem N2 {f:Addr}{l:FuncData}(F:fZ K "is_name" "is_name" gM f l)(T:Txt mg):bW P w K mg base bA 1 f l rD C3:=by
 refine F.ok DE (λvs H Q E h=>?_) (λB A outer s H vs Q E g h=>?_)
 ·obtain⟨x,rfl,_⟩:=h;rfl
 ·obtain⟨x,rfl,d,q⟩:=h;have r:=g.units
  refine⟨_,(aE (bN (PW.pt (i9 (cR (a0 K rfl (aK aM rfl T.n_isinstance rfl (aA (pv 0) (aA (bV (v:=V.ty "str") rfl T.n_str rfl rfl) aB))) (λ_=>rfl))) (iK (cR (mC pB pB aJ (aK bM rfl T.n_len rfl (aA (pv 0) aB)) (g8 T.c_LONGEST_NAME rfl)))))) (aG (aP lP)) aV)
   (aG (aP (aK (q9 rfl) rfl T.n_all rfl (aA (g9 rfl (bF.by (N:=rF) (names:=(aD gM).names) (N':=["sign"]) (src:=[none]) (by decide +kernel) rfl rfl) (J6 (pv 0)) (λ_ _ _ _=>(bO (i:=0) (show List.Nodup (["sign"]:aQ)by decide +kernel) rfl (Or.inl rfl))) (λ_ _ _ _=>eB) (λ_ _ _ _=>(dX qH (pv 0) (g8 T.c_LETTERS rfl) (by with_unfolding_all rfl)))) aB))))),?_⟩
  simp only[rF];clear g F T r;have keep:=aI q d;clear q d
  walk_at "rd"
  obtain⟨q,C,b,j⟩:=keep;have hz:x.length<=sizeLine:=ao (m:=6) (by rw[bo]at b;exact b) (by decide);have G:x.cps.toList.length=x.length:=by rw[bo];rfl
  refine⟨true,rfl,?_⟩;rw[ab (by decide)];refine⟨.int x.length,by rw[BM hz];rfl,_,rfl,?_⟩;rw[ai (by omega)];refine⟨_,rfl,?_⟩;rw[ab (by omega)];refine⟨_,rfl,x,rfl,?_,?_⟩
  ·rw[Array.all_eq_true_iff_forall_mem];intro c hc;have:=j c (by simpa using hc);simp only[decide_eq_true_eq];omega
  ·refine xP (λi a σ H'=>H'=H/\a=(List.replicate i true).map V.bl/\i<=6/\∃o:Option V,σ=[o]) ⟨rfl,rfl,by decide,none,rfl⟩ ?_ ?_
   ·rintro i c a σ H' hc ⟨rfl,rfl,z,o,rfl⟩;have u:c∈x.cps.toList:=by
     have:x.cps.toList[i]?=some c:=by rw[Array.getElem?_toList];exact hc
     exact bh this
    have hi':i<x.cps.size:=(Array.getElem?_eq_some_iff.mp hc).1;refine⟨_,rfl,_,rfl,_,rfl,?_⟩;have e:=HU (j c u);unfold inTx at e;dsimp only;refine⟨aj (m:=100) (by simp;omega) (by decide),rfl,?_,by rw[bo]at b;omega,_,rfl⟩;rw[e,List.replicate_succ',ay];rfl
   ·rintro a σ H' ⟨rfl,rfl,z,o,rfl⟩ p t;refine⟨p,rfl,List.replicate _ true,upd_same,?_⟩;have:(List.replicate x.cps.size true).all id=true:=by simp
    rw[this];exact q _ (aH.upd t)
def yG:Sp:=λvs H Q _=>∃i:Int,vs=[.int i]/\Q (.bl true) H
theorem KK {f:Addr}{a:FuncData}(F:fZ K "is_whole" "is_whole" gG f a)(T:Txt mg):bW P w K mg base bA 1 f a oB yG:=by
 refine F.ok AX (λvs H Q E h=>?_) (λc A outer s H vs Q E b h=>?_)
 ·obtain⟨x,rfl,_⟩:=h;rfl
 ·obtain⟨i,rfl,q⟩:=h;refine⟨_,(aG (aP (DK (aK aM rfl T.n_isinstance rfl (aA (pv 0) (aA (bV (v:=V.ty "int") rfl T.n_int rfl rfl) aB))) (y0 (QX (aK aM rfl T.n_isinstance rfl (aA (pv 0) (aA (bV (v:=V.ty "bool") rfl T.n_bool rfl rfl) aB)))))))),?_⟩;simp only[vG];clear b F T
  walk_at "rd"
def nF (H:Hp)(a:List V):Prop:=∀v∈a,∃t x y,v = .ref t/\H t=some (.tup [x,y])
theorem nF.same {H H':Hp}{a:List V}(h:nF H a)(s:aH H H'):nF H' a:=λv b=>by obtain⟨t,x,y,e,h⟩:=h v b;exact⟨t,x,y,e,s _ _ h⟩
def yL:Sp:=λvs H Q _=>∃(a:Addr) (lo hi:Int) (ws:List V),vs=[.ref a,.int lo,.int hi]/\H a=some (.lst ws)/\nF H ws/\lo<=ws.length/\(ws.length:Int)<=hi/\ws.length<=100/\∀l H',aH H H'->H l=none->H' l=some (.lst ws)->Q (.ref l) H'
def UP (a:Addr)(b c:Int)(H:Hp)(i:Nat)(σ:St)(d:Hp):Prop:=∃o:Option V,σ=[some (.ref a),some (.int b),some (.int c),o]/\aH H d
def UQ (b:List V)(H:Hp)(i:Nat)(a:List V)(σ:St)(c:Hp):Prop:=∃o:Option V,σ=[o]/\aH H c/\a=b.take i
theorem KP {f:Addr}{fd:FuncData}(F:fZ K "checked_pairs" "checked_pairs" cG f fd)(T:Txt mg):bW P w K mg base bA 1 f fd iN yL:=by
 refine F.ok kG (λvs H Q E h=>?_) (λcdv A outer s H vs Q E hr h=>?_)
 ·obtain⟨a,lo,hi,L,rfl,_⟩:=h;rfl
 ·obtain⟨a,lo,hi,L,rfl,C,j,O,X,W,q⟩:=h;have hu:=hr.units
  refine⟨_,(aE (bN (PW.pt (i9 (cR (a0 K rfl (aK aM rfl T.n_isinstance rfl (aA (pv 0) (aA (fL (aA (bV (v:=V.ty "list") rfl T.n_list rfl rfl) (aA (bV (v:=V.ty "tuple") rfl T.n_tuple rfl rfl) aB))) aB))) (λ_=>rfl))) (iK (cR (mC pB pB (pv 1) (aK bM rfl T.n_len rfl (aA (pv 0) aB)) (pv 2)))))) (aG eZ) aV)
   (aE (eV df rfl (dQ K rfl (pv 0)) (bO (i:=3) kG.nd rfl (Or.inl rfl)) (aG (bN (PW.pt (i9 (cR (a0 K rfl (aK aM rfl T.n_isinstance rfl (aA (pv 3) (aA (fL (aA (bV (v:=V.ty "list") rfl T.n_list rfl rfl) (aA (bV (v:=V.ty "tuple") rfl T.n_tuple rfl rfl) aB))) aB))) (λ_=>rfl))) (iK (aS (fC hu) (aK bM rfl T.n_len rfl (aA (pv 3) aB)) aJ (nomark _))))) (aG eZ) aV)))
   (aG (aP (g9 rfl (bF.by (N:=iR) (names:=(aD cG).names) (N':=["pair"]) (src:=[none]) (by decide +kernel) rfl rfl) (dQ K rfl (pv 0)) (λ_ _ _ _=>(bO (i:=0) (show List.Nodup (["pair"]:aQ)by decide +kernel) rfl (Or.inl rfl))) (λ_ _ _ _=>eB) (λ_ _ _ _=>(bH dY rfl T.n_tuple rfl (aA (pv 0) aB)))))))),?_⟩
  simp only[iR];clear hr F T hu;have keep:=aI q (aI C (aI j (aI O (aI X W))));clear q C j O X W
  walk_at "rd"
  obtain⟨q,C,j,O,X,W⟩:=keep;refine⟨by decide,λp hp=>?_⟩;have g:aH H (upd H p (.tup [.ty "list",.ty "tuple"])):=aH.upd hp;have u:upd H p (.tup [.ty "list",.ty "tuple"]) p=some (.tup [.ty "list",.ty "tuple"]):=upd_same;generalize upd H p (.tup [.ty "list",.ty "tuple"])=H1 at g u⊢;have b:=g _ _ C;refine⟨true,LH b u,?_⟩;rw[ab (by decide)];refine⟨.int L.length,by rw[lenV_l b];rfl,_,rfl,?_⟩;rw[ai O];refine⟨_,rfl,?_⟩;rw[ab (by omega)];refine⟨L,.inl b,λJ hJ=>?_⟩;refine lA hJ (UP a lo hi H1) ⟨none,rfl,aH.refl _⟩ (by rintro i σ H' _ ⟨_,_,s2⟩;rw[b,s2 _ _ b]) ?_ ?_
  ·rintro i x σ I G ⟨o,rfl,s2⟩;obtain⟨t,y,z,rfl,U⟩:=j x (bh G);have e:=s2 _ _ (g _ _ U);have keep:=aI q (aI C (aI j (aI s2 (aI e g))));clear q C j s2 e U b u O X W hJ G g hp
   walk_at "rd"
   obtain⟨q,C,j,s2,e,g⟩:=keep;refine⟨by decide,λS Y=>?_⟩;have d:aH I (upd I S (.tup [.ty "list",.ty "tuple"])):=aH.upd Y;have r:upd I S (.tup [.ty "list",.ty "tuple"]) S=some (.tup [.ty "list",.ty "tuple"]):=upd_same;generalize upd I S (.tup [.ty "list",.ty "tuple"])=H3 at d r⊢;have c:=d _ _ e;refine⟨true,LG c r,?_⟩;rw[ab (by decide)];refine⟨.int 2,by rw[lenV_t c];rfl,?_⟩;rw[rNeD_ii];refine⟨_,rfl,?_⟩;rw[ab (by decide)];exact⟨_,rfl,s2.trans d⟩
  ·rintro σ I ⟨o,rfl,s2⟩;have B:=s2 _ _ b;refine⟨_,rfl,a,L,rfl,.inl B,λJ2 Z=>?_⟩;refine dA Z (UQ L I) ⟨none,rfl,aH.refl _,rfl⟩ (by rintro i R σ H' _ ⟨_,_,d,_⟩;rw[B,d _ _ B]) ?_ ?_
   ·rintro i x R σ H3 G ⟨o',rfl,d,rfl⟩;obtain⟨t,y,z,rfl,U⟩:=j x (bh G);have c:=d _ _ (s2 _ _ (g _ _ U));have hi':=(cm.mp G).1;refine⟨_,rfl,t,[y,z],rfl,.inr c,λl H4 hc=>?_⟩;rcases hc with⟨hc,rfl,rfl⟩|⟨hc,_⟩
    ·exact⟨aj (m:=100) (by rw[bq];omega) (by decide),_,rfl,d,by rw[aW G]⟩
    ·rw[c]at hc;cases hc
   ·rintro R σ H3 ⟨o',rfl,d,rfl⟩ l hl;rw[br];have s4:=(g.trans s2).trans d;exact q l _ (s4.trans (aH.upd hl)) (s4.free hl) upd_same
noncomputable def jN (H:Hp):aQ->List V->Prop
 | [],vs=>vs=[]
 | n::ns,vs=>∃t y us,vs = .ref t::us/\H t=some (.tup [.str n,y])/\jN H ns us
theorem jN.same {H H':Hp}(s:aH H H'):∀{ns:aQ} {vs:List V},jN H ns vs->jN H' ns vs
 | [],_,h=>h
 | _::_,_,⟨t,y,us,e,h,q⟩=>⟨t,y,us,e,s _ _ h,jN.same s q⟩
theorem jN.len {H:Hp}:∀{ns:aQ} {vs:List V},jN H ns vs->vs.length=ns.length
 | [],_,h=>by cases h;rfl
 | _::_,_,⟨t,y,us,e,h,q⟩=>by subst e;simp[jN.len q]
theorem jN.get {H:Hp}:∀{ns:aQ} {vs:List V} {i:Nat} {v:V},jN H ns vs->vs[i]?=some v->∃n t y,ns[i]?=some n/\v = .ref t/\H t=some (.tup [.str n,y])
 | [],_,_,_,h,k=>by cases h;simp at k
 | _::_,_,0,_,⟨t,y,us,e,h,q⟩,k=>by subst e;simp at k;exact⟨_,t,y,rfl,k.symm,h⟩
 | _::_,_,i+1,_,⟨t,y,us,e,h,q⟩,k=>by subst e;simp at k;obtain⟨r,t,y,c,b,a⟩:=jN.get q k;exact⟨r,t,y,by simpa using c,b,a⟩
theorem jN.app {H:Hp}:∀{ns a:aQ} {vs us:List V},jN H ns vs->jN H a us->jN H (ns++a) (vs++us)
 | [],_,_,_,h,k=>by cases h;exact k
 | _::_,_,_,_,⟨t,y,us,e,h,q⟩,k=>by subst e;exact⟨t,y,_,rfl,h,jN.app q k⟩
theorem eA.n {H:Hp}:∀{l:cT} {vs:List V},eA H l vs->jN H (l.map (·.1)) vs
 | [],_,h=>h
 | _::_,_,⟨t,us,e,h,q⟩=>⟨t,_,us,e,h,eA.n q⟩
theorem eG.n {H:Hp}:∀{l:bU} {vs:List V},eG H l vs->jN H (l.map (·.1)) vs
 | [],_,h=>h
 | _::_,_,⟨t,us,e,h,q⟩=>⟨t,_,us,e,h,eG.n q⟩
def tJ:Sp:=λvs H Q _=>∃(a:Addr) (ns:aQ) (ws:List V),vs=[.ref a]/\H a=some (.lst ws)/\jN H ns ws/\(∀x∈ns,jJ x)/\ns.Nodup/\ns.length<=50/\∀H',aH H H'->Q .non H'
def US (ns:aQ)(H:Hp)(i:Nat)(a:List V)(σ:St)(c:Hp):Prop:=∃o b:Option V,σ=[o,b]/\aH H c/\a=(ns.take i).map V.str
def UR (H:Hp)(i:Nat)(a:List V)(σ:St)(b:Hp):Prop:=∃o:Option V,σ=[o]/\aH H b/\a=(List.replicate i true).map V.bl
theorem HC {f:Addr}{X:FuncData}(F:fZ K "check_names" "check_names" cM f X)(T:Txt mg)(b:cC P w K mg base bA 1 "is_name" C3):bW P w K mg base bA 2 f X j6 tJ:=by
 refine F.ok lY (λvs H Q E h=>?_) (λcdv A outer s H vs Q E C h=>?_)
 ·obtain⟨a,ns,O,rfl,_⟩:=h;rfl
 ·obtain⟨a,ns,O,rfl,r,v,ok,nd,e,q⟩:=h;have U:=C.units
  refine⟨_,(aE (gE (i:=1) lY.nd rfl rfl rfl rfl (bF.by (N:=iF) (names:=(aD cM).names) (N':=["name","told"]) (src:=[none,none]) (by decide +kernel) rfl rfl) (dQ K rfl (pv 0)) (λ_ _ _ _=>(cJ K rfl (i:=0) (j:=1) rfl (show List.Nodup (["name","told"]:aQ)by decide +kernel) rfl rfl rfl rfl)) (λ_ _ _ _=>eB) (λ_ _ _ _=>(pv 0)))
   (aE (bN (cR (a0 K rfl (aK (q9 rfl) rfl T.n_all rfl (aA (g9 rfl (bF.by (N:=iF) (names:=(aD cM).names) (N':=["name"]) (src:=[none]) (by decide +kernel) rfl rfl) (dQ K rfl (pv 1)) (λ_ _ _ _=>(bO (i:=0) (show List.Nodup (["name"]:aQ)by decide +kernel) rfl (Or.inl rfl))) (λ_ _ _ _=>eB) (λ_ _ _ _=>(aL b (C.mono (by decide)) pass0 rfl (aA (pv 0) aB)))) aB)) (λ_=>rfl))) (aG eZ) aV)
   (aG (bN (aS (jA U) (aK xU rfl T.n_len rfl (aA (bH (xS rfl) rfl T.n_set rfl (aA (pv 1) aB)) aB)) (aK bM rfl T.n_len rfl (aA (pv 1) aB)) (nomark _)) (aG eZ) aV)))),?_⟩
  simp only[iF];clear C F T U b;have keep:=aI q (aI r (aI v (aI ok (aI nd e))));clear q r v ok nd e
  walk_at "rd"
  obtain⟨q,r,v,ok,nd,e⟩:=keep;have lw:=v.len;refine⟨O,.inl r,λJ hJ=>?_⟩;refine dA hJ (US ns H) ⟨none,none,rfl,aH.refl _,rfl⟩ (by rintro i d σ H' _ ⟨_,_,_,s2,_⟩;rw[r,s2 _ _ r]) ?_ ?_
  ·rintro i x d σ L B ⟨o,o',rfl,s2,rfl⟩;obtain⟨n,t,y,z,rfl,ht⟩:=v.get B;have hi:=(cm.mp z).1;refine⟨t,_,rfl,iE.of (s2 _ _ ht),rfl,_,_,rfl,_,_,rfl,rfl,_,rfl,aj (m:=100) (by simp;omega) (by decide),_,_,rfl,s2,?_⟩;rw[aW z,ay];rfl
  ·rintro d σ L ⟨o,o',rfl,s2,rfl⟩ l hl;rw[lw,br];have c:upd L l (.lst (ns.map V.str)) l=some (.lst (ns.map V.str)):=upd_same;have R:=s2.trans (aH.upd (o:=.lst (ns.map V.str)) hl);generalize upd L l (.lst (ns.map V.str))=H3 at c R⊢;refine⟨l,rfl,_,.inl c,λJ2 I=>?_⟩;refine dA I (UR H3) ⟨none,rfl,aH.refl _,rfl⟩ (by rintro i d σ H' _ ⟨_,_,u,_⟩;rw[c,u _ _ c]) ?_ ?_
   ·rintro i x d σ Z B ⟨o,rfl,u,rfl⟩;rw[bw]at B;obtain⟨n,z,rfl⟩:=Option.map_eq_some_iff.mp B;have hi:=(cm.mp z).1;refine⟨_,rfl,n,rfl,ok n (bh z),λY g=>⟨aj (m:=100) (by simp;omega) (by decide),_,rfl,u.trans g,?_⟩⟩;rw[List.replicate_succ',ay];rfl
   ·rintro d σ Z ⟨o,rfl,u,rfl⟩ S G;refine⟨S,rfl,_,upd_same,?_⟩;rw[ab (by simp)];have g:=u.trans (aH.upd (o:=.lst ((List.replicate (ns.map V.str).length true).map V.bl)) G);generalize upd Z S (.lst ((List.replicate (ns.map V.str).length true).map V.bl))=Y at g⊢;refine⟨l,ns,rfl,g _ _ c,nd,by omega,λp W=>⟨p,ns.length,rfl,upd_same,.int ns.length,?_,.inl (.inl ⟨_,rfl,_,rfl,?_⟩)⟩⟩
    ·have:=(aH.upd (o:=CF P w p ns.length) W) _ _ (g _ _ c);show Option.map _ ((lenV (upd Y p (CF P w p ns.length)) (.ref l)).bind _)=_;rw[lenV_l this,ae];rfl
    ·rw[ab (by omega)];exact q _ ((R.trans g).trans (aH.upd W))
def yK:Sp:=λvs H Q _=>∃(a:Addr) (fx:cT) (fv:List V),vs=[.ref a]/\H a=some (.lst fv)/\eA H fx fv/\(∀r∈fx,0<=r.2/\r.2<=3)/\(∃r∈fx,r.2=0)/\fx.length<=50/\∀H',aH H H'->Q .non H'
def T3 (a:Addr)(H:Hp)(i:Nat)(σ:St)(c:Hp):Prop:=∃o b:Option V,σ=[some (.ref a),o,b]/\c=H
def T4 (c:cT)(H:Hp)(i:Nat)(a:List V)(σ:St)(d:Hp):Prop:=∃o b:Option V,σ=[o,b]/\d=H/\a=((c.take i).map λr=>decide (r.2=0)).map V.bl
theorem KO {f:Addr}{Y:FuncData}(F:fZ K "check_parts" "check_parts" dI f Y)(T:Txt mg)(b:cC P w K mg base bA 1 "is_whole" yG):bW P w K mg base bA 2 f Y j5 yK:=by
 refine F.ok lX (λvs H Q E h=>?_) (λcdv A outer s H vs Q E p h=>?_)
 ·obtain⟨a,R,S,rfl,_⟩:=h;rfl
 ·obtain⟨a,R,S,rfl,g,d,ok,bare,c,q⟩:=h;have X:=p.units
  refine⟨_,(aE (eV df rfl (dQ K rfl (pv 0)) (cJ K rfl (i:=1) (j:=2) rfl lX.nd rfl rfl rfl rfl) (aG (bN (PW.pt (i9 (cR (a0 K rfl (aL b (p.mono (by decide)) pass0 rfl (aA (pv 2) aB)) (λ_=>rfl))) (iK (cR (mC pB pB aJ (pv 2) (g8 T.c_MOST_PARTS rfl)))))) (aG eZ) aV)))
   (aG (bN (cR (a0 K rfl (aK (IY rfl) rfl T.n_any rfl (aA (g9 rfl (bF.by (N:=kB) (names:=(aD dI).names) (N':=["name","many"]) (src:=[none,none]) (by decide +kernel) rfl rfl) (dQ K rfl (pv 0)) (λ_ _ _ _=>(cJ K rfl (i:=0) (j:=1) rfl (show List.Nodup (["name","many"]:aQ)by decide +kernel) rfl rfl rfl rfl)) (λ_ _ _ _=>eB) (λ_ _ _ _=>(dX (d9 X) (pv 1) aJ (nomark _)))) aB)) (λ_=>rfl))) (aG eZ) aV))),?_⟩
  simp only[kB];clear p F T X b;have keep:=aI q (aI g (aI d (aI ok (aI bare c))));clear q g d ok bare c
  walk_at "rd"
  obtain⟨q,g,d,ok,bare,c⟩:=keep;have l:=d.len;refine⟨S,.inl g,λJ O=>?_⟩;refine lA O (T3 a H) ⟨none,none,rfl,rfl⟩ (by rintro i σ H' _ ⟨_,_,_,rfl⟩;rfl) ?_ ?_
  ·rintro i x σ Z B ⟨o,G,rfl,rfl⟩;obtain⟨r,t,u,rfl,C⟩:=d.get B;obtain⟨W,U⟩:=ok r (bh u);refine⟨t,_,rfl,iE.of C,rfl,_,_,rfl,_,_,rfl,rfl,?_⟩;have keep:=aI q (aI W U);clear q g d ok bare c l O B u C
   walk_at "rd"
   obtain⟨q,W,U⟩:=keep;refine⟨r.2,rfl,true,rfl,?_⟩;rw[ab (by decide)];exact⟨_,_,rfl,rfl⟩
  ·rintro σ Z ⟨o,G,rfl,rfl⟩;have keep:=aI q (aI g (aI d (aI ok (aI bare (aI c l)))));clear q g d ok bare c l O
   walk_at "rd"
   obtain⟨q,g,d,ok,bare,c,l⟩:=keep;refine⟨S,.inl g,λJ2 L=>?_⟩;refine dA L (T4 R Z) ⟨none,none,rfl,rfl,rfl⟩ (by rintro i z σ H' _ ⟨_,_,_,rfl,_⟩;rfl) ?_ ?_
   ·rintro i x z σ H3 B ⟨o,G,rfl,rfl,rfl⟩;obtain⟨r,t,u,rfl,C⟩:=d.get B;have hi:=(cm.mp u).1;refine⟨t,_,rfl,iE.of C,rfl,_,_,rfl,_,_,rfl,rfl,_,rfl,?_⟩;dsimp only[tC];rw[rEqD_ii];refine⟨aj (m:=100) (by simp;omega) (by decide),_,_,rfl,rfl,?_⟩;rw[aW u,ay,ay];rfl
   ·rintro z σ H3 ⟨o,G,rfl,rfl,rfl⟩ l2 I;rw[l,br];refine⟨l2,rfl,_,upd_same,?_⟩;have v:((R.map λr=>decide (r.2=0)).any id)=true:=by obtain⟨r,p,e⟩:=bare;rw[List.any_eq_true];exact⟨true,cu.mpr ⟨r,p,bg e⟩,rfl⟩
    rw[v,ab (by decide)];exact q _ (aH.upd I)
noncomputable def nots (sm:bU):aQ:=(sm.map (·.2)).filter λ(x:Str)=>decide (x≠("" : Str))
def nV:Sp:=λvs H Q _=>∃(a b:Addr) (sm:bU) (sv:List V) (zs:aQ),vs=[.ref a,.ref b]/\H a=some (.lst sv)/\eG H sm sv/\H b=some (.lst (zs.map V.str))/\(∀r∈sm,r.2≠("" : Str)->r.2∈zs)/\(nots sm).Nodup/\sm.length<=50/\∀H',aH H H'->Q .non H'
def T6 (a b:Addr)(H:Hp)(i:Nat)(σ:St)(e:Hp):Prop:=∃o d c:Option V,σ=[some (.ref a),some (.ref b),o,d,c]/\e=H
def T7 (sm:bU)(H:Hp)(i:Nat)(a:List V)(σ:St)(c:Hp):Prop:=∃o b:Option V,σ=[o,b]/\c=H/\a=(nots (sm.take i)).map V.str
theorem HK (sm:bU)(r:Str×Str):nots (sm++[r])=nots sm++(if r.2=("" : Str)then []else [r.2]):=by unfold nots;rw[ay,List.filter_append];congr 1;by_cases z:r.2=("" : Str) <;> simp[z]
theorem BB (sm:bU):(nots sm).length<=sm.length:=by unfold nots;exact ao (List.length_filter_le _ _) (by rw[ae];exact ac _)
theorem BA {f:Addr}{fd:FuncData}(F:fZ K "check_noughts" "check_noughts" cH f fd)(T:Txt mg):bW P w K mg base bA 1 f fd iO nV:=by
 refine F.ok hZ (λvs H Q E h=>?_) (λcdv A outer s H vs Q E hr h=>?_)
 ·obtain⟨a,b,sm,X,W,rfl,_⟩:=h;rfl
 ·obtain⟨a,b,sm,X,W,rfl,g,d,u,ok,nd,c,q⟩:=h;have G:=hr.units
  refine⟨_,(aE (eV df rfl (dQ K rfl (pv 0)) (cJ K rfl (i:=2) (j:=3) rfl hZ.nd rfl rfl rfl rfl) (aG (bN (PW.pt (i9 (cR (a0 K rfl (aK aM rfl T.n_isinstance rfl (aA (pv 3) (aA (bV (v:=V.ty "str") rfl T.n_str rfl rfl) aB))) (λ_=>rfl))) (iK (PW.pt (tU (aS (fC G) (pv 3) dR (nomark _)) (oW (aS (qI G) (pv 3) (pv 1) (by with_unfolding_all rfl)))))))) (aG eZ) aV)))
   (aE (gE (i:=4) hZ.nd rfl rfl rfl rfl (bF.by (N:=iS) (names:=(aD cH).names) (N':=["name","nought"]) (src:=[none,none]) (by decide +kernel) rfl rfl) (dQ K rfl (pv 0)) (λ_ _ _ _=>(cJ K rfl (i:=0) (j:=1) rfl (show List.Nodup (["name","nought"]:aQ)by decide +kernel) rfl rfl rfl rfl)) (λ_ _ _ _=>(iD (aS (fC G) (pv 1) dR (nomark _)))) (λ_ _ _ _=>(pv 1)))
   (aG (bN (aS (jA G) (aK xU rfl T.n_len rfl (aA (bH (xS rfl) rfl T.n_set rfl (aA (pv 4) aB)) aB)) (aK bM rfl T.n_len rfl (aA (pv 4) aB)) (nomark _)) (aG eZ) aV)))),?_⟩
  simp only[iS];clear hr F T G;have keep:=aI q (aI g (aI d (aI u (aI ok (aI nd c)))));clear q g d u ok nd c
  walk_at "rd"
  obtain⟨q,g,d,u,ok,nd,c⟩:=keep;have C:=d.len;refine⟨X,.inl g,λJ hJ=>?_⟩;refine lA hJ (T6 a b H) ⟨none,none,none,rfl,rfl⟩ (by rintro i σ H' _ ⟨_,_,_,_,rfl⟩;rfl) ?_ ?_
  ·rintro i x σ H2 S ⟨o,Z,Y,rfl,rfl⟩;obtain⟨r,t,I,rfl,U⟩:=d.get S;have e:=ok r (bh I);refine⟨t,_,rfl,iE.of U,rfl,_,_,rfl,_,_,rfl,rfl,?_⟩;have keep:=aI q (aI e u);clear q g d u ok nd c C hJ S I U e
   walk_at "rd"
   obtain⟨q,e,u⟩:=keep;refine⟨true,rfl,?_⟩;rw[ab (by decide)];refine⟨!decide (r.2=("" : Str)),by simp,?_⟩;by_cases z:r.2=("" : Str)
   ·rw[ab (by simp[z])];exact⟨_,_,_,rfl,rfl⟩
   ·rw[ai (by simp[z])];refine⟨.str r.2,W.map D.str,rfl,.inl ⟨b,_,rfl,u,qD W⟩,by rw[dep_strs];decide,_,rfl,?_⟩;rw[ab]
    ·exact⟨_,_,_,rfl,rfl⟩
    ·rw[uP,bg (e z)];decide
  ·rintro σ H2 ⟨o,Z,Y,rfl,rfl⟩;have keep:=aI q (aI g (aI d (aI nd (aI c C))));clear q g d ok u nd c C hJ
   walk_at "rd"
   obtain⟨q,g,d,nd,c,C⟩:=keep;refine⟨X,.inl g,λJ2 hJ2=>?_⟩;refine dA hJ2 (T7 sm H2) ⟨none,none,rfl,rfl,rfl⟩ (by rintro i O σ H' _ ⟨_,_,_,rfl,_⟩;rfl) ?_ ?_
   ·rintro i x O σ R S ⟨o,Z,rfl,rfl,rfl⟩;obtain⟨r,t,I,rfl,U⟩:=d.get S;have hi:=(cm.mp I).1;have hk:=BB (sm.take i);rw[bq]at hk;have L:=HK (sm.take i) r;rw[←aW I]at L;refine⟨t,_,rfl,iE.of U,rfl,_,_,rfl,_,_,rfl,rfl,_,rfl,?_⟩;dsimp only[tC];rw[rNeD_ss];refine⟨_,rfl,?_⟩;by_cases z:r.2=("" : Str)
    ·rw[ab (by simp[z])];rw[ai z,bj]at L;exact⟨_,_,rfl,rfl,by rw[L]⟩
    ·rw[ai (by simp[z])];rw[ab z]at L;exact⟨_,rfl,aj (m:=100) (by rw[ae];omega) (by decide),_,_,rfl,rfl,by rw[L,ay];rfl⟩
   ·rintro O σ R ⟨o,Z,rfl,rfl,rfl⟩ l hl;rw[C,br];have B:upd R l (.lst ((nots sm).map V.str)) l=some (.lst ((nots sm).map V.str)):=upd_same;have s3:aH R (upd R l (.lst ((nots sm).map V.str))):=aH.upd hl;generalize upd R l (.lst ((nots sm).map V.str))=H4 at B s3⊢;have hk:=BB sm;refine⟨l,nots sm,rfl,B,nd,by omega,λp hp=>⟨p,(nots sm).length,rfl,upd_same,.int (nots sm).length,?_,.inl (.inl ⟨_,rfl,_,rfl,?_⟩)⟩⟩
    ·have:=(aH.upd (o:=CF P w p (nots sm).length) hp) _ _ B;show Option.map _ ((lenV (upd H4 p (CF P w p (nots sm).length)) (.ref l)).bind _)=_;rw[lenV_l this,ae];rfl
    ·rw[ab (by omega)];exact q _ (s3.trans (aH.upd hp))
end
section
variable {P:Program}{w:World}{K:PySem.W.Frag}{mg:fR}{base:Heap}
structure P4 (K:PySem.W.Frag)(C:Addr):Prop where
 cls:JD K C
 n1:iQ K C "fixed_rows"
 n2:iQ K C "sum_rows"
 n3:iQ K C "many_by_name"
 n4:iQ K C "nought_by_name"
theorem eA.pairs {H:Hp}{f:cT}{a:List V}(h:eA H f a):nF H a:=λv b=>by obtain⟨i,d⟩:=List.getElem?_of_mem b;obtain⟨r,t,_,e,c⟩:=h.get d;exact⟨t,_,_,e,c⟩
theorem eG.pairs {H:Hp}{sm:bU}{a:List V}(h:eG H sm a):nF H a:=λv b=>by obtain⟨i,d⟩:=List.getElem?_of_mem b;obtain⟨r,t,_,e,c⟩:=h.get d;exact⟨t,_,_,e,c⟩
theorem eA.prs {H:Hp}:∀{b:cT} {fv:List V},eA H b fv->fv.map (prV H)=(b.map λr=>((.inr r.1,V.int r.2):bE×V)).map (λa=>some (kV a.1,a.2))
 | [],_,e=>by cases e;rfl
 | r::l,_,⟨t,us,e,h,q⟩=>by subst e;rw[bc,eA.prs q];unfold prV;simp only[h];rfl
theorem K6 {a:cT}(nd:(a.map (·.1)).Nodup):iL [] (a.map λr=>((.inr r.1,V.int r.2):bE×V))=a.map λr=>(.inr r.1,V.int r.2):=by
 rw[nW]
 ·rfl
 ·rw[List.nil_append,ci];exact List.pairwise_map.mpr ((List.pairwise_map.mp nd).imp λh e=>h (Sum.inr.inj e))
def C7 (K:PySem.W.Frag)(C:Addr):Sp:=λvs H Q _=>∃(x c a b:Addr) (fx:cT) (sm:bU) (fv sv:List V),vs=[.ref x,.ref a,.ref b]/\H x=some (.ins C c [])/\H a=some (.lst fv)/\H b=some (.lst sv)/\eA H fx fv/\eG H sm sv/\cD fx sm /\
 ∀H',bC x H H'->iV K C fx sm H' x->Q .non H'
def TZ (c:cT)(H:Hp)(i:Nat)(a:List V)(σ:St)(d:Hp):Prop:=∃o b:Option V,σ=[o,b]/\d=H/\a=(zeros (c.take i)).map V.str
theorem CP (a:cT):(zeros a).length<=a.length:=by unfold zeros;rw[ae];exact List.length_filter_le _ _
theorem N8 {f C:Addr}{fd:FuncData}(F:fZ K "__init__" "Signs.__init__" cA f fd)(T:Txt mg)(co:P4 K C)(d:cC P w K mg base bA 1 "checked_pairs" yL)(p:cC P w K mg base bA 2 "check_names" tJ)(l:cC P w K mg base bA 2 "check_parts" yK)(g:cC P w K mg base bA 1 "check_noughts" nV):bW P w K mg base bA 3 f fd iA (C7 K C):=by
 refine F.ok gZ (λvs H Q E h=>?_) (λcdv A outer s H vs Q E hr h=>?_)
 ·obtain⟨x,u,a,b,v,sm,G,I,rfl,_⟩:=h;rfl
 ·obtain⟨x,u,a,b,v,sm,G,I,rfl,hx,ha,hb,U,rs,so,q⟩:=h;have hu:=hr.units
  refine⟨_,(aE (aU (i:=3) gZ.nd rfl (Or.inl rfl) (aL d (hr.mono (by decide)) pass0 rfl (aA (pv 1) (aA aJ (aA (g8 T.c_MOST_FIXED rfl) aB)))))
   (aE (aU (i:=4) gZ.nd rfl (Or.inl rfl) (aL d (hr.mono (by decide)) pass0 rfl (aA (pv 2) (aA aJ (aA (g8 T.c_MOST_SUMS rfl) aB)))))
   (aE (cN (aL p (hr.mono (by decide)) pass0 rfl (aA (bP bJ (pv 3) (pv 4)) aB)))
   (aE (cN (aL l (hr.mono (by decide)) pass0 rfl (aA (pv 3) aB)))
   (aE (cN (aL g (hr.mono (by decide)) pass0 rfl (aA (pv 4) (aA (g9 rfl (bF.by (N:=iB) (names:=(aD cA).names) (N':=["name","many"]) (src:=[none,none]) (by decide +kernel) rfl rfl) (dQ K rfl (pv 3)) (λ_ _ _ _=>(cJ K rfl (i:=0) (j:=1) rfl (show List.Nodup (["name","many"]:aQ)by decide +kernel) rfl rfl rfl rfl)) (λ_ _ _ _=>(iD (aS (d9 hu) (pv 1) aJ (nomark _)))) (λ_ _ _ _=>(pv 0))) aB))))
   (aE (yW (pv 0) (pv 3) rfl)
   (aE (yW (pv 0) (pv 4) rfl)
   (aE (yW (pv 0) (bH (lE rfl) rfl T.n_dict rfl (aA (pv 3) aB)) rfl)
   (aG (yW (pv 0) (bH (lE rfl) rfl T.n_dict rfl (aA (pv 4) aB)) rfl)))))))))),?_⟩
  simp only[iB];clear hr F T hu d p l g;have keep:=aI q (aI hx (aI ha (aI hb (aI U (aI rs (aI so co))))));clear q hx ha hb U rs so co
  walk_at "rd"
  obtain⟨q,hx,ha,hb,U,rs,so,co⟩:=keep;have lf:=U.len;have ls:=rs.len;have f1:=so.f1;have f2:=so.f2;have s2':=so.s2;have ndf:=(List.nodup_append.mp so.nd).1;have nds':=(List.nodup_append.mp so.nd).2.1;refine⟨a,1,12,G,rfl,ha,U.pairs,by omega,by omega,by omega,λL H1 s1 hl1 h1=>?_⟩;refine⟨b,0,3,I,rfl,s1 _ _ hb,rs.pairs.same s1,by omega,by omega,by omega,λW H2 s2 hl2 h2=>?_⟩;have nxl1:x≠L:=aF hx hl1;have nxl2:x≠W:=aF (s1 _ _ hx) hl2;refine .inr ⟨.lst (G++I),sV (s2 _ _ h1) h2 (ao (m:=100) (by omega) (by decide)),λl3 hl3=>?_⟩;have s3:=(s1.trans s2).trans (aH.upd (o:=.lst (G++I)) hl3);have h13:=(aH.upd (o:=.lst (G++I)) hl3) _ _ (s2 _ _ h1);have h23:=(aH.upd (o:=.lst (G++I)) hl3) _ _ h2;have h33:upd H2 l3 (.lst (G++I)) l3=some (.lst (G++I)):=upd_same;generalize upd H2 l3 (.lst (G++I))=H3 at s3 h13 h23 h33⊢;refine⟨l3,v.map (·.1)++sm.map (·.1),G++I,rfl,h33,jN.app (jN.same s3 U.n) (jN.same s3 rs.n),so.nm,so.nd,by simp;omega,λH4 s4=>?_⟩;refine⟨L,v,G,rfl,s4 _ _ h13,U.same (bG.of (s3.trans s4)),so.parts,so.bare,by omega,λH5 s5=>?_⟩;have h15:=s5 _ _ (s4 _ _ h13);have h25:=s5 _ _ (s4 _ _ h23);have sH5:=(s3.trans s4).trans s5;have rf5:=U.same (bG.of sH5);have rs5:=rs.same (bG.of sH5);refine⟨L,rfl,G,.inl h15,λJ hJ=>?_⟩;refine dA hJ (TZ v H5) ⟨none,none,rfl,rfl,rfl⟩ (by rintro i acc σ H' _ ⟨_,_,_,rfl,_⟩;rfl) ?_ ?_
  ·rintro i y acc σ H6 hy ⟨o,o',rfl,rfl,rfl⟩;obtain⟨r,t,hn,rfl,ht⟩:=rf5.get hy;have hi:=(cm.mp hn).1;have hk:=CP (v.take i);rw[bq]at hk;have e1:=i4 (v.take i) r;rw[←aW hn]at e1;refine⟨t,_,rfl,iE.of ht,rfl,_,_,rfl,_,_,rfl,rfl,_,rfl,?_⟩;dsimp only[tC];rw[rEqD_ii];refine⟨_,rfl,?_⟩;by_cases z:r.2=0
   ·rw[ai (bg z)];rw[ai z]at e1;exact⟨_,rfl,aj (m:=100) (by rw[ae];omega) (by decide),_,_,rfl,rfl,by rw[e1,ay];rfl⟩
   ·rw[ab (by simpa using z)];rw[ab z,bj]at e1;exact⟨_,_,rfl,rfl,by rw[e1]⟩
  ·rintro acc σ H6 ⟨o,o',rfl,rfl,rfl⟩ l6 hl6;rw[lf,br];have s6:aH H6 (upd H6 l6 (.lst ((zeros v).map V.str))):=aH.upd hl6;have h66:upd H6 l6 (.lst ((zeros v).map V.str)) l6=some (.lst ((zeros v).map V.str)):=upd_same;generalize upd H6 l6 (.lst ((zeros v).map V.str))=H7 at s6 h66⊢;refine⟨W,l6,sm,I,zeros v,rfl,s6 _ _ h25,rs5.same (bG.of s6),h66,so.nought,so.once,by omega,λZ s8=>?_⟩;have S:=(sH5.trans s6).trans s8;have h18:=s8 _ _ (s6 _ _ h15);have h28:=s8 _ _ (s6 _ _ h25);have hx8:=S _ _ hx;have rf8:=U.same (bG.of S);have rs8:=rs.same (bG.of S);refine⟨_,rfl,_,rfl,x,C,u,[],rfl,hx8,co.cls,co.n1,by decide,?_⟩;refine⟨_,rfl,_,rfl,x,C,u,_,rfl,upd_same,co.cls,co.n2,?_,?_⟩
   ·have:=gN ("fixed_rows" : Str) (.ref L) [];simp only[List.length_nil]at this;omega
   rw[upd_upd];have e9:∀(fs:List (Str×V)),aH (del Z x) (upd Z x (.ins C u fs)):=λfs b o e=>by obtain⟨z1,z2⟩:=eC e;rw[aC z2];exact z1
   have l2f:(putF ("sum_rows" : Str) (.ref W) (putF ("fixed_rows" : Str) (.ref L) [])).length<=2:=by have:=gN ("sum_rows" : Str) (.ref W) (putF ("fixed_rows" : Str) (.ref L) []);have:=gN ("fixed_rows" : Str) (.ref L) [];simp only[List.length_nil]at this;omega
   have k1:(putF ("sum_rows" : Str) (.ref W) (putF ("fixed_rows" : Str) (.ref L) [])).lookup ("many" : Str)=none:=by rw[cB,ab (by decide),cB,ab (by decide)];rfl
   have k2:(putF ("sum_rows" : Str) (.ref W) (putF ("fixed_rows" : Str) (.ref L) [])).lookup ("nought" : Str)=none:=by rw[cB,ab (by decide),cB,ab (by decide)];rfl
   generalize putF ("sum_rows" : Str) (.ref W) (putF ("fixed_rows" : Str) (.ref L) [])=fs2 at l2f k1 k2⊢;have t9:bG Z (upd Z x (.ins C u fs2)):=λc xs e=>by rw[aC (λz=>by rw[z,hx8]at e;cases e)];exact e
   have X:upd Z x (.ins C u fs2) x=some (.ins C u fs2):=upd_same;have b9:bC x H (upd Z x (.ins C u fs2)):=λc o nc e=>by rw[aC nc];exact S _ _ e
   have h19:upd Z x (.ins C u fs2) L=some (.lst G):=by rw[aC nxl1.symm];exact h18
   have h29:upd Z x (.ins C u fs2) W=some (.lst I):=by rw[aC nxl2.symm];exact h28
   have rf9:=rf8.same t9;have rs9:=rs8.same t9;generalize upd Z x (.ins C u fs2)=H9 at t9 X b9 h19 h29 rf9 rs9⊢;refine⟨_,rfl,L,G,_,rfl,h19,rf9.prs,λB hd3=>?_⟩;rw[K6 ndf];have nx3:x≠B:=aF X hd3;refine⟨_,rfl,x,C,u,fs2,rfl,by rw[aC nx3];exact X,co.cls,co.n3,by omega,?_⟩;have l3f:=gN ("many_by_name" : Str) (.ref B) fs2;have k3:(putF ("many_by_name" : Str) (.ref B) fs2).lookup ("many" : Str)=none:=by rw[cB,ab (by decide)];exact k1
   have k4:(putF ("many_by_name" : Str) (.ref B) fs2).lookup ("nought" : Str)=none:=by rw[cB,ab (by decide)];exact k2
   have k5:(putF ("many_by_name" : Str) (.ref B) fs2).lookup ("many_by_name" : Str)=some (.ref B):=by rw[cB,ai rfl]
   generalize putF ("many_by_name" : Str) (.ref B) fs2=fs3 at l3f k3 k4 k5⊢;have s10:aH H9 (upd H9 B (.dK (v.map λr=>(.inr r.1,.int r.2)))):=aH.upd hd3;have O:upd (upd H9 B (.dK (v.map λr=>(.inr r.1,.int r.2)))) x (.ins C u fs3) x=some (.ins C u fs3):=upd_same;have R:upd (upd H9 B (.dK (v.map λr=>(.inr r.1,.int r.2)))) x (.ins C u fs3) B=some (.dK (v.map λr=>(.inr r.1,.int r.2))):=by rw[aC nx3.symm];exact upd_same
   have Y:bC x H9 (upd (upd H9 B (.dK (v.map λr=>(.inr r.1,.int r.2)))) x (.ins C u fs3)):=λc o nc e=>by rw[aC nc];exact s10 _ _ e
   generalize upd (upd H9 B (.dK (v.map λr=>(.inr r.1,.int r.2)))) x (.ins C u fs3)=H11 at O R Y⊢;have t11:bG H9 H11:=λc xs e=>Y c _ (λz=>by rw[z,X]at e;cases e) e;refine⟨_,rfl,W,I,_,rfl,Y _ _ nxl2.symm h29,(rs9.same t11).prs,λd4 hd4=>?_⟩;rw[BH nds'];have nx4:x≠d4:=aF O hd4;have n34:B≠d4:=aF R hd4;refine⟨_,rfl,x,C,u,fs3,rfl,by rw[aC nx4];exact O,co.cls,co.n4,by omega,?_⟩;refine q _ (λc o nc e=>?_) ⟨co.cls,co.n3,co.n4,u,_,B,d4,upd_same,by rw[cB,ab (by decide)];exact k3,by rw[cB,ab (by decide)];exact k4,by rw[cB,ab (by decide)];exact k5,by rw[cB,ai rfl],by rw[aC nx3.symm,aC n34];exact R,by rw[aC nx4.symm];exact upd_same⟩;rw[aC nc];exact(aH.upd hd4) _ _ (Y c o nc (b9 c o nc e))
end
theorem qS {c:cT}{sm:bU}{os:aQ}:∀{ds:List D},IsTms c sm os ds->∀d∈ds,bT c sm os d
 | _::_,⟨a,b⟩,d,h=>by
  obtain rfl|h:=cr.mp h
  ·exact a
  ·exact qS b d h
theorem BU {a:cT}{sm:bU}{os:aQ}:∀{ds:List D},(∀d∈ds,bT a sm os d)->IsTms a sm os ds
 | [],_=>trivial
 | d::ds,h=>⟨h d aw,BU λe k=>h e (az _ k)⟩
theorem NK {b:cT}{sm:bU}{os:aQ}{n z:Str}{d:D}(h:bT b sm os d):∀e∈opn1 n z d,bT b sm os e:=by
 intro e a;unfold opn1 at a;split at a
 ·rename_i m c;split at a
  ·unfold bT at h;exact qS h.2 e a
  ·cases cp.mp a;exact h
 ·split at a
  ·cases a
  ·cases cp.mp a;exact h
theorem SC {sm:bU}{n z:Str}(h:zr sm n=some z):∃r∈sm,r.1=n/\r.2=z:=by unfold zr at h;obtain⟨r,a,c⟩:=Option.map_eq_some_iff.mp h;have b:=List.find?_some a;exact⟨r,List.mem_of_find?_eq_some a,bp b,c⟩
theorem FO {a:cT}{sm:bU}{os:aQ}{n:Str}{ps:List D}(so:cD a sm)(f:Fls ps)(b:Nbs ps)(h:IsTms a sm os ps)(hd:ER a sm n ps.length):bT a sm os (knot sm n ps):=by
 unfold knot;cases hz:zr sm n with
 | none=>dsimp only;unfold bT;exact⟨hd,h⟩
 | some z =>
  dsimp only;obtain⟨r,m,o,j⟩:=SC hz;have g:=cI (opn n z ps);have c:∀e∈cX (opn n z ps),bT a sm os e:=λe p=>by obtain⟨d,i,s⟩:=List.mem_flatMap.mp (g.mem_iff.mp p);exact NK (qS h d i) e s
  have ne:z=("" : Str)->cX (opn n z ps)≠[]:=λe q=>by subst e;have i:=KH (n:=n) f b (λe=>by rw[e]at hd;have:=qU hd;simp at this);rw[q]at g;exact i (List.Perm.eq_nil g.symm)
  generalize cX (opn n z ps)=l at c ne
  match l,c,ne with
  | [],_,ne =>
   show bT a sm os (.str z);unfold bT;refine .inr ?_;rw[←j];exact so.nought r m λe=>ne (by rw[←j];exact e) rfl
  | [d],c,_=>exact c d (cp.mpr rfl)
  | d::e::l,c,_ =>
   show bT a sm os (.tup (.str n::d::e::l));unfold bT;exact⟨.inr ⟨by simp,by rw[←o];exact cu.mpr ⟨r,m,rfl⟩⟩,BU c⟩
mutual
theorem LP {a:cT}{sm:bU}{os:aQ}(so:cD a sm)(ho:∀x∈os,cK x):∀{d:D},bT a sm os d->bT a sm os (flt sm d)
 | .str x,h=>by
  have:flt sm (.str x) = .str x:=by unfold flt;rfl
  rw[this];exact h
 | .tup (.str n::ds),h=>by
  unfold bT at h;have t:=(tF so ho h.2).1;have g:=lB (jB so) t;rw[flt];exact FO so g.1 g.2 (zY so ho h.2) (by rw[cS,ae];exact h.1)
 | .lst (.str n::ds),h=>by
  unfold bT at h;have t:=(tF so ho h.2).1;have g:=lB (jB so) t;rw[flt];exact FO so g.1 g.2 (zY so ho h.2) (by rw[cS,ae];exact h.1)
 | .non,h | .bl _,h | .int _,h | .tup [],h | .lst [],h | .tup (.non::_),h | .tup (.bl _::_),h | .tup (.int _::_),h | .tup (.tup _::_),h | .tup (.lst _::_),h | .lst (.non::_),h | .lst (.bl _::_),h | .lst (.int _::_),h | .lst (.tup _::_),h | .lst (.lst _::_),h=>by unfold bT at h;exact absurd h id
theorem zY {c:cT}{sm:bU}{os:aQ}(so:cD c sm)(ho:∀x∈os,cK x):∀{ds:List D},IsTms c sm os ds->IsTms c sm os (flts sm ds)
 | [],_=>trivial
 | d::ds,⟨a,b⟩=>by rw[flts];exact⟨LP so ho a,zY so ho b⟩
end
end Lw
namespace L2
open PySem PySem.Spec PyProof.Rows
mutual
noncomputable def pdOf:D->PyData
 | .non=>.none
 | .bl b=>.bool b
 | .int i=>.int i
 | .str x=>.str x
 | .tup ds=>.tuple (pdsOf ds)
 | .lst ds=>.list (pdsOf ds)
noncomputable def pdsOf:List D->List PyData
 | []=>[]
 | d::ds=>pdOf d::pdsOf ds
end
mutual
noncomputable def Tx:D->Prop
 | .str _=>True
 | .tup ds=>Txs ds
 | .lst ds=>Txs ds
 | _=>False
noncomputable def Txs:List D->Prop
 | []=>True
 | d::ds=>Tx d/\Txs ds
end
mutual
theorem sM:∀{d:D},Tx d->(pdOf d).showable=true/\(pdOf d).hasDict=false/\(pdOf d).depth=depD d
 | .str _,_=>by unfold pdOf PyData.showable PyData.hasDict PyData.depth depD;exact⟨rfl,rfl,rfl⟩
 | .tup ds,h=>by
  unfold Tx at h;obtain⟨a,b,c⟩:=tB h;unfold pdOf PyData.showable PyData.hasDict PyData.depth depD;exact⟨a,b,by rw[c]⟩
 | .lst ds,h=>by
  unfold Tx at h;obtain⟨a,b,c⟩:=tB h;unfold pdOf PyData.showable PyData.hasDict PyData.depth depD;exact⟨a,b,by rw[c]⟩
 | .non,h | .bl _,h | .int _,h=>by unfold Tx at h;exact absurd h id
theorem tB:∀{ds:List D},Txs ds->PyData.showableAll (pdsOf ds)=true/\PyData.hasDictAll (pdsOf ds)=false/\PyData.depthAll (pdsOf ds)=depDs ds
 | [],_=>by unfold pdsOf PyData.showableAll PyData.hasDictAll PyData.depthAll depDs;exact⟨rfl,rfl,rfl⟩
 | d::ds,⟨x,y⟩=>by obtain⟨a,b,c⟩:=sM x;obtain⟨g,f,e⟩:=tB y;unfold pdsOf PyData.showableAll PyData.hasDictAll PyData.depthAll depDs;rw[a,g,b,f,c,e];exact⟨rfl,rfl,rfl⟩
end
section
variable {X:Cx}{pins:cY}{σ:St}{H:Hp}{s:Shared}
mutual
theorem tT (I:aR X pins σ H s):∀{d:D} {v:V} {u:Value},Tx d->bD H d v->aX v u->∃as,Reads s.heap u (pdOf d) as
 | .str x,v,u,_,h,r=>by
  cases (show v = .str x from h);obtain⟨t,rfl⟩:=r;unfold pdOf;exact⟨_,.str x t⟩
 | .tup ds,v,u,t,h,r=>by
  unfold Tx at t;obtain⟨a,vs,rfl,e,c⟩:=h;cases r;obtain⟨its,b,⟨o,i,g,n,f⟩,_⟩:=I.tuple (iE.of e);obtain⟨as,ra⟩:=mB I t c b;unfold pdOf;exact⟨_,.tuple i g f (by simpa using ra)⟩
 | .lst ds,v,u,t,h,r=>by
  unfold Tx at t;obtain⟨a,vs,rfl,e,c⟩:=h;cases r;obtain⟨its,b,pl,_⟩:=I.list (fQ.of e);obtain⟨as,ra⟩:=mB I t c b;obtain⟨o,i,g,n,f⟩:=pl.isList;unfold pdOf;exact⟨_,.list i g f (by simpa using ra)⟩
 | .non,_,_,t,_,_ | .bl _,_,_,t,_,_ | .int _,_,_,t,_,_=>by unfold Tx at t;exact absurd t id
theorem mB (I:aR X pins σ H s):∀{ds:List D} {vs:List V} {us:bX},Txs ds->Reps H ds vs->aY vs us->∃as,ReadsAll s.heap us (pdsOf ds) as
 | [],_,_,_,h,r=>by
  cases (show _=[]from h);cases r;unfold pdsOf;exact⟨_,.nil⟩
 | d::ds,_,_,⟨t1,a⟩,⟨x,vs,e,g,f⟩,r=>by
  subst e;cases r with
  | cons r1 c =>
   obtain⟨as,ra⟩:=tT I t1 g r1;obtain⟨bs,b⟩:=mB I a f c;unfold pdsOf;exact⟨_,.cons ra b⟩
end
noncomputable def rRepr:List V->Hp->VK->Prop:=λxs H Q=>∃d v,xs=[v]/\bD H d v/\Tx d/\depD d<=50/\(pdOf d).shown.length<=sizeLine/\Q (.str (pdOf d).shown) H
theorem lC (m:X.A.guards=some [])(F:X.A.units+64<cLine):cL X (.builtin "repr") rRepr:=by
 rintro f s σ H xs us Q I r ⟨d,v,rfl,rep,g,C,hz,q⟩;obtain⟨u,rfl,ru⟩:∃u,us=[u]/\aX v u:=by
  cases r with
  | cons r1 j=>cases j;exact⟨_,rfl,r1⟩
 obtain⟨as,i⟩:=tT I g rep ru;obtain⟨B,p,G⟩:=sM g;have c:∀a,u = .ref a->wpAny (model X.prog X.w) X.A (call (.builtin "repr") [u]) (EP X f σ Q) X.xe s:=λa e=>by subst e;refine repr_of_reads' i B (λz=>by rw[p]at z;cases z) m (by omega) (λb o e=>e) (λh' E tk l=>?_) hz;exact⟨.str (pdOf d).shown,H,I.kept (t':=tk) l,⟨_,rfl⟩,q⟩
 cases d with
 | str x =>
  cases (show v = .str x from rep);obtain⟨t,rfl⟩:=ru;have e:(pdOf (.str x)).shown=reprText x:=by unfold pdOf;exact PyData.shown_str x
  rw[e]at hz q;exact P.repr_of_str (h:=⟨.str (reprText x),H,I.tok _,⟨_,rfl⟩,q⟩) hz
 | tup ds =>
  obtain⟨a,vs,rfl,_⟩:=rep;cases ru;exact c a rfl
 | lst ds =>
  obtain⟨a,vs,rfl,_⟩:=rep;cases ru;exact c a rfl
 | _=>unfold Tx at g;exact absurd g id
end
structure sC (P:Program)(w:World)(K:PySem.W.Frag)(mg:fR)(base:Heap)(CX:AO)(k:Nat)(f:Addr)(fd:FuncData)(ps:aQ)(sp:Sp):Prop where
 len:∀vs H Q E,sp vs H Q E->vs.length=ps.length
 run:∀(A:Around) (outer:List Env) (s:Shared) (H:Hp) (args:Args) (us:bX) (vs:List V) (Q:VK) (E:XK),A.guards=some []->eX k A->vZ P w K mg base A outer s H->BindsTo s fd args (ps.zip us)->aY vs us->sp vs H Q E ->
  codeAny (model P w) A (.call (.ref f) args) (CR CX outer P w H s Q E) s
theorem fZ.okG {P:Program}{w:World}{K:PySem.W.Frag}{mg:fR}{base:Heap}{x a:Str}{st:Stmt}{f:Addr}{O:FuncData}{N ps:aQ}{k:Nat}{sp:Sp}(F:fZ K x a st f O)(S:aT N ps (aD st))(len:∀vs H Q E,sp vs H Q E->vs.length=ps.length)
  (g:∀(c:Value) (A:Around) (outer:List Env) (s:Shared) (H:Hp) (vs:List V) (Q:VK) (E:XK),A.guards=some []->eX k (A.deeper (envOfC a (aD st) s.heap.objs.size f c))->sp vs H Q E ->
   ∃t,CO (cxOf bA P w K mg base N a (aD st) f c A outer s H E).nox (aN st) t/\t {nx:=λ_ H'=>Q .non H',rt:=Q} (start N vs) H):sC P w K mg base bA (k+1) f O ps sp:=by
 obtain⟨oc,od,kV,doc,pm,an,c,ct,osl,rfl,R,G⟩:=F.ex;refine⟨len,λA outer s H args us vs Q E hG C j hb r i=>?_⟩;have Y:=len _ _ _ _ i;have KX:K.In s.heap:=j.mod.kin.keeps λb o e=>(j.bs b o e).1;have z:s.heap.NoLimit:=j.mod.nolimit.keeps λb o e=>(j.bs b o e).1;have d:∀y∈ps.zip us,(aD st).names.lookup y.1=some .local∨((aD st).names.lookup y.1=some .cell/\((cellsFrom (s.heap.objs.size+1) (aD st).names []).lookup y.1).isSome=true):=λ⟨n,v⟩ T=>by
  rcases S.par n (List.of_mem_zip T).1 with q|q
  ·exact .inl q
  ·exact .inr ⟨q,PySem.W.cellsFrom_some _ _ _ (.inl q)⟩
 refine codeAny_call_function C.depth (KX _ _ R) rfl S.co S.gen rfl (PySem.W.codeRec_of KX G) (hb _ _ _ _ ?_);refine wpAny_newFunctionEnv_cells S.kind d λenv Z L x=>?_;subst Z;refine⟨z.keeps x.toInCall.keep,codeAny_func ?_⟩;obtain⟨t,B,X⟩:=g c A outer s H vs Q E hG (C.deeper _) i;have U:=B.nox;have I:aR (cxOf bA P w K mg base N a (aD st) f c A outer s H E) [] (start N vs) H L:=xC S C.hd j Y r x;refine wpAny_mono (U [] L (start N vs) H _ I X) (λfl m h=>?_) λe m h=>h;have fin:∀{l:St} {H':Hp} {v:V} {u:Value},aR (cxOf bA P w K mg base N a (aD st) f c A outer s H E) [] l H' m->aX v u->Q v H'->CE outer P w H s Q u m :=
  λ{l H' v u} J p q=>⟨v,H',J.os,J.bare,J.base,J.hok,p,q⟩
 cases fl with
 | ret u =>
  obtain⟨v,l,H',J,p,q⟩:=h;exact fin J p q
 | next =>
  obtain⟨l,H',J,q⟩:=h;exact fin (v:=V.non) (u:=Value.none) J rfl q
 | brk =>
  obtain⟨_,_,_,q⟩:=h;exact False.elim q
 | cont =>
  obtain⟨_,_,_,q⟩:=h;exact False.elim q
end L2
namespace Lw
open PySem L2
def O8 (x:Str):Prop:=x.cps.size<=20/\(x.cps.toList.all λc=>decide (c<16 ^ 8))=true
theorem uD {x:Str}(h:jJ x):O8 x:=by refine⟨by have:=h.2.1;rw[bo]at this;omega,List.all_eq_true.mpr λc hc=>bg ?_⟩;have:=(h.2.2 c hc).2;omega
theorem nS {x:Str}(h:cK x):O8 x:=by
 obtain⟨l,rfl,d,b,a⟩:=h;refine⟨by simp;omega,List.all_eq_true.mpr λc hc=>bg ?_⟩;simp only[cr]at hc;rcases hc with rfl|hc
 ·decide
 ·have:=a c hc;unfold isWd at this;omega
section
variable {fx:cT}{sm:bU}{os:aQ}
theorem BX (so:cD fx sm){n:Str}{k:Nat}(h:ER fx sm n k):O8 n:=by
 refine uD (so.nm n ?_);rcases h with⟨_,h⟩|⟨_,h⟩
 ·exact cb _ (cu.mpr ⟨_,h,rfl⟩)
 ·exact bv _ h
mutual
theorem x8 (so:cD fx sm)(ho:∀x∈os,cK x):∀{d:D},bT fx sm os d->Tx d/\(pdOf d).leavesShort 13=true/\(pdOf d).weight+1<=30 * nds d
 | .str x,h=>by
  have e:O8 x:=by
   unfold bT at h;rcases h with h|h
   ·exact nS (ho x h)
   ·exact uD (so.nm x (cb _ ((iZ fx).subset h)))
  unfold Tx pdOf PyData.leavesShort PyData.weight;refine⟨trivial,e.2,?_⟩;have:=e.1;have:nds (.str x)=1:=by unfold nds;rfl
  omega
 | .tup (.str n::ds),h=>by
  unfold bT at h;obtain⟨a,b,c⟩:=tE so ho h.2;have e:=BX so h.1;have f:=e.1;refine⟨by unfold Tx Txs;exact⟨by unfold Tx;trivial,a⟩,?_,?_⟩
  ·unfold pdOf pdsOf PyData.leavesShort PyData.leavesShortAll;rw[b,Bool.and_true];unfold pdOf PyData.leavesShort;exact e.2
  ·unfold pdOf pdsOf PyData.weight PyData.weightAll;rw[nds,show(pdOf (.str n)).weight=n.cps.size by unfold pdOf PyData.weight;rfl];omega
 | .lst (.str n::ds),h=>by
  unfold bT at h;obtain⟨a,b,c⟩:=tE so ho h.2;have e:=BX so h.1;have f:=e.1;refine⟨by unfold Tx Txs;exact⟨by unfold Tx;trivial,a⟩,?_,?_⟩
  ·unfold pdOf pdsOf PyData.leavesShort PyData.leavesShortAll;rw[b,Bool.and_true];unfold pdOf PyData.leavesShort;exact e.2
  ·unfold pdOf pdsOf PyData.weight PyData.weightAll;rw[nds,show(pdOf (.str n)).weight=n.cps.size by unfold pdOf PyData.weight;rfl];omega
 | .non,h | .bl _,h | .int _,h | .tup [],h | .lst [],h | .tup (.non::_),h | .tup (.bl _::_),h | .tup (.int _::_),h | .tup (.tup _::_),h | .tup (.lst _::_),h | .lst (.non::_),h | .lst (.bl _::_),h | .lst (.int _::_),h | .lst (.tup _::_),h | .lst (.lst _::_),h=>by unfold bT at h;exact absurd h id
theorem tE (so:cD fx sm)(ho:∀x∈os,cK x):∀{ds:List D},IsTms fx sm os ds->Txs ds/\PyData.leavesShortAll 13 (pdsOf ds)=true/\PyData.weightAll (pdsOf ds)<=30 * ndss ds
 | [],_=>by unfold Txs pdsOf PyData.leavesShortAll PyData.weightAll ndss;exact⟨trivial,rfl,ac _⟩
 | d::ds,⟨x,y⟩=>by obtain⟨a,b,c⟩:=x8 so ho x;obtain⟨f,e,g⟩:=tE so ho y;unfold Txs pdsOf PyData.leavesShortAll PyData.weightAll;refine⟨⟨a,f⟩,by rw[b,e];rfl,?_⟩;rw[ndss];omega
end
end
end Lw
namespace L2
open PySem PySem.Spec PyProof.Rows
theorem kX {α β:Type}{F:α->β->Prop}:∀{l:List α} {m:List β} {i:Nat} {x:α},Paired F l m->l[i]?=some x->∃y,m[i]?=some y/\F x y
 | _,_,_,_,.nil,h=>by simp at h
 | _,_,0,_,.cons r _,h=>by simp at h;subst h;exact⟨_,rfl,r⟩
 | _,_,i+1,_,.cons _ t,h=>by obtain⟨y,b,a⟩:=kX t (by simpa using h);exact⟨y,by simpa using b,a⟩
section
variable {P:Program}{w:World}{A:Around}{E:cE}{s:Shared}{it v d:Addr}{o:Obj}{es:Array DictEntry}{i ep:Nat}{ok ov:Value}
theorem D7 {Q:cE}(t:s.TypeIs (.ref d) "dict")(ns:(d == sysModules)=false)
  (q:∀h',h'.objs.size=s.heap.objs.size+1->(∀b a,s.heap.get? b=some a->h'.get? b=some a)->h'.IsItemsView s.heap.objs.size d->Q (.ref s.heap.objs.size) {s with heap:=h'}):wpAny (model P w) A (call (.builtin "dict.items") [.ref d]) Q E s:=by
 refine wpAny_call_entry F.slot_dict_items t F.entry_dict_items ?_ (F.args_dict_items_1 _);unfold Builtin.«dict.items» Builtin.Dict.noArgs;refine aa (aa (wpAny_notOrdered_dict t (show wpAny _ _ (pure d) _ _ _ from al ?_)));have no:Builtin.Dict.showsAll d=pure ():=ab (by rw[ns];decide);rw[no];exact aa (al (aa (ca (al ⟨_,rfl,q _ (Heap.size_push _ _) (λb a e=>af _ e) ⟨_,au _ rfl,rfl,rfl⟩⟩))))
theorem EA {Q:cE}(c:s.heap.IsItemsView v d)(ho:s.heap.get? d=some o)(hd:o.data = .dict es ep)
  (q:∀h',h'.objs.size=s.heap.objs.size+1->(∀b a,s.heap.get? b=some a->h'.get? b=some a)->IsItemIter h' s.heap.objs.size d 0 es.size ep .none .none->Q (.ref s.heap.objs.size) {s with heap:=h'}):wpAny (model P w) A (pyIter (.ref v)) Q E s:=by
 obtain⟨h,g,i,f⟩:=id c;refine wpAny_pyIter_slot c.typeIs F.slot_dict_items_iter (wpAny_call_entry F.slot_dict_items_iter c.typeIs F.entry_dict_items_iter (show wpAny _ _ (Builtin.«dict_items.__iter__» _) _ _ _ from ?_) (F.args_dict_items_iter_1 _));unfold Builtin.«dict_items.__iter__» Builtin.Dict_items.dictOf Builtin.Dict_items.newIterator;refine aa (al (aa (aa (wpAny_field g f (x:=.ref d) rfl (al (aa (aa (wpAny_dictEntries ho hd (aa (wpAny_dictEpoch ho hd ?_))))))))));have tp:Builtin.Dict_items.ownsTuple "dict_itemiterator" = true:=by decide
 simp only[tp,if_true,Bool.false_eq_true,if_false];refine ca (al ⟨_,rfl,"dict_itemiterator",_,⟨_,au _ rfl,rfl⟩,F.slot_dict_itemiterator_next.lookup,q _ (Heap.size_push _ _) (λb a e=>af _ e) ?_⟩) ?_
 ·exact(au _ (by rfl))
 ·simp only[sizeOk,Builtin.Dict_items.ownedTupleFields,ag,ar,aq,List.length_nil,sizeLine_eq];decide
theorem D9 {e:DictEntry}{Q:Option Value->Shared->Prop}(g:IsItemIter s.heap it d i es.size ep ok ov)(ho:s.heap.get? d=some o)(hd:o.data = .dict es ep)(J:es[i]?=some e)
  (q:∀h',IsItemIterOut h' it d (i+1) es.size ep e.key e.val s.heap.objs.size->h'.get? s.heap.objs.size=some {cls:=.type "tuple",data:=.seq #[e.key,e.val]}->h'.objs.size=s.heap.objs.size+1 ->
   (∀b a,b≠it->s.heap.get? b=some a->h'.get? b=some a)->Q (some (.ref s.heap.objs.size)) {s with heap:=h'}):wpAny (model P w) A (pyNext (.ref it)) Q E s:=by
 have t:s.TypeIs (.ref it) "dict_itemiterator":=⟨_,g,rfl⟩
 have l:it<s.heap.objs.size:=ba g;have tp:Builtin.Dict_items.ownsTuple "dict_itemiterator" = true:=by decide
 unfold pyNext;refine aa (wpAny_attempt (wpAny_callSpecial?_slot (name:=Str.ofString "__next__") t F.slot_dict_itemiterator_next (wpAny_call_entry F.slot_dict_itemiterator_next t F.entry_dict_itemiterator_next ?_ (F.args_dict_itemiterator_next_1 _))));refine aa (al (aa (aa (aa (wpAny_typeNameOfWhole_itemiter t (al (aa (wpAny_fieldsOf g rfl ?_))))))));simp only[tp,if_true];dsimp only[List.take,List.drop];rw[ab (show ¬(Value.ref d == Value.none)=true from λz=>nomatch z)];refine aa (al (aa (wpAny_dictEntries ho hd ?_)));rw[ab (show ¬((es.size:Int) != (es.size:Int))=true by simp)];refine aa (al (aa (wpAny_dictEpoch ho hd ?_)));rw[ab (show ¬((ep:Int) != (ep:Int))=true by simp)];refine al ?_;dsimp only;rw[ab (show ¬(i:Int)<0 by omega),ck,J];dsimp only;refine aa (aa (wpAny_typeNameOfWhole_itemiter t (al (aa (wpAny_isOneOf_itemiter t (aa (wpAny_setField_rec g (show _<8 by rw[tp];decide) λc R I=>?_)))))));have s1':Heap.SameBut it s.heap c:=I;have e1':IsItemIter c it d (i+1) es.size ep ok ov:=by unfold IsItemIter;rw[show((i+1:Nat):Int)=(i:Int)+1 from rfl];exact R
 have t1:Shared.TypeIs {s with heap:=c} (.ref it) "dict_itemiterator":=⟨_,e1',rfl⟩
 refine aa (cf (aa (wpAny_isOneOf_itemiter t1 (aa (wpAny_isOneOf_itemiter t1 ?_)))));rw[ab (by decide)];unfold Builtin.Dict_items.pairFromOwner Builtin.Dict_items.ownedTupleIsFree;refine aa (wpAny_newTuple (show wpAny _ _ _ _ _ {s with heap:=c.push {cls:=.type "tuple",data:=.seq #[e.key,e.val]} }from ?_));have j:c.objs.size=s.heap.objs.size:=s1'.1;rw[j];have h:IsItemIter (c.push {cls:=.type "tuple",data:=.seq #[e.key,e.val]}) it d (i+1) es.size ep ok ov:=af _ e1';have G:(c.push {cls:=.type "tuple",data:=.seq #[e.key,e.val]}).get? s.heap.objs.size=some {cls:=.type "tuple",data:=.seq #[e.key,e.val]}:=j ▸ au _ rfl;have p:(c.push {cls:=.type "tuple",data:=.seq #[e.key,e.val]}).objs.size=s.heap.objs.size+1:=by rw[Heap.size_push,j]
 have C:∀b a,b≠it->s.heap.get? b=some a->(c.push {cls:=.type "tuple",data:=.seq #[e.key,e.val]}).get? b=some a:=λb a f z=>af _ (s1'.extBut b a f z);generalize c.push {cls:=.type "tuple",data:=.seq #[e.key,e.val]}=h2 at h G p C⊢;refine aa (aa (wpAny_field h rfl (x:=.none) rfl (al ?_)));dsimp only;rw[ai rfl];refine aa (wpAny_field h rfl (x:=ok) rfl (aa (wpAny_field h rfl (x:=ov) rfl (aa (wpAny_setField_rec h (by simp) λU O B=>?_)))));refine aa (wpAny_setField_rec O (by simp) λT N v=>aa (wpAny_setField_rec N (by simp) λS L u=>aa (wpAny_setField_rec L (by simp) λm K r=>?_)));have far:∀b a,b≠it->h2.get? b=some a->m.get? b=some a:=λb a f z=>r.extBut b a f (u.extBut b a f (v.extBut b a f (B.extBut b a f z)));have H:m.objs.size=s.heap.objs.size+1:=r.1.trans (u.1.trans (v.1.trans (B.1.trans p)));exact aa (wpAny_letGo (al (al ⟨_,rfl,al (q m K (far _ _ (Nat.ne_of_gt l) G) H λb a f z=>far b a f (C b a f z))⟩)))
theorem D8 {Q:Option Value->Shared->Prop}(f:A.handled=none)(a:IsItemIter s.heap it d i es.size ep ok ov)(ho:s.heap.get? d=some o)(hd:o.data = .dict es ep)(e:es.size<=i)
  (q:∀h',Heap.ExtBut it s.heap h'->Q none {s with heap:=h'}):wpAny (model P w) A (pyNext (.ref it)) Q E s:=by
 have t:s.TypeIs (.ref it) "dict_itemiterator":=⟨_,a,rfl⟩
 have tp:Builtin.Dict_items.ownsTuple "dict_itemiterator" = true:=by decide
 unfold pyNext;refine aa (wpAny_attempt (wpAny_callSpecial?_slot (name:=Str.ofString "__next__") t F.slot_dict_itemiterator_next (wpAny_call_entry F.slot_dict_itemiterator_next t F.entry_dict_itemiterator_next ?_ (F.args_dict_itemiterator_next_1 _))));refine aa (al (aa (aa (aa (wpAny_typeNameOfWhole_itemiter t (al (aa (wpAny_fieldsOf a rfl ?_))))))));simp only[tp,if_true];dsimp only[List.take,List.drop];rw[ab (show ¬(Value.ref d == Value.none)=true from λz=>nomatch z)];refine aa (al (aa (wpAny_dictEntries ho hd ?_)));rw[ab (show ¬((es.size:Int) != (es.size:Int))=true by simp)];refine aa (al (aa (wpAny_dictEpoch ho hd ?_)));rw[ab (show ¬((ep:Int) != (ep:Int))=true by simp)];refine al ?_;dsimp only;rw[ab (show ¬(i:Int)<0 by omega),ck,Array.getElem?_eq_none e];dsimp only;refine aa (aa (wpAny_typeNameOfWhole_itemiter t (al (aa (wpAny_setField_rec a (show _<8 by rw[tp];decide) λg h c=>?_)))))
 wp_walk
 refine wpAny_raiseNew_none f (aa (wpAny_isInstance (b:=true) ⟨_,au _ rfl,rfl⟩ isSubtype_stop (al (q _ ?_))));exact(c.extBut.push _).push _
end
noncomputable def layKV (f c:Expr)(e:Value)(env:Env):Sem Unit:=eval f env >>= λa=>holding [a] (eval c env) >>= λb=>match e with
 | .ref d=>standAt {f.pos with endLine:=c.pos.endLine,endCol:=c.pos.endCol} >>= λ_=>holding [a,b] (dictSet d a b)
 | _=>unsupported "internal:dictcomp"
theorem GO (f d e iter:Expr)(a:lR)(scope:Scope)(c:Pos)(it b:Value)(env:Env) :
  compTurn (.DictComp f d [⟨e,iter,a,0⟩] scope c) 0 it b env=nT iter.pos it e env (layOn a (layKV f d b env) env (.compLoop (.DictComp f d [⟨e,iter,a,0⟩] scope c) 0 it b env)):=rfl
section
variable {β:Type}{F:Heap->Addr->β->Prop}{e0:β}{mk:Sem Value}{ce:Expr}{cls:List Comprehension}
variable {X:Cx}{scope:Scope}{N':aQ}{src:List (Option Nat)}{pins:cY}{σ:St}{H₂:Hp}{s₂:Shared}{fp:List Addr}{it:Addr}{tn:MD}{J:It}{tg iter:Expr}{ifs:lR}{g:TG}{tt:TT}{tl:β->St->Hp->(β->Hp->Prop)->Prop}
theorem B9 {W:MM β}{Fin:β->Hp->Prop}{RR:Value->Addr->Result->Shared->Prop}{E:cE}{lay:Value->Env->Sem Unit}{obj:Addr->β->HO}{ps:Pos}(Z:MF F)(j:CL F e0 X.prog X.w X.A mk)(u:MN ce)(l:clausesOf ce=⟨tg,iter,ifs,0⟩::cls)(U:∀it a env,compTurn ce 0 it a env=nT ps it tg env (layOn ifs (lay a env) env (.compLoop ce 0 it a env)))
  (hok:∀H h D a,(D == sysModules)=false->H D=none->F h D a->Fin a H->bZ X.prog X.w (upd H D (obj D a)) h D (obj D a))
  (S:bF X scope N' src) (r:aR X pins σ H₂ s₂) (T:∀C,x0 (blk X scope N' C s₂ H₂ fp) tg J fp it tn) (d:tn 0 s₂.heap) (v:∀b∈fp,fV X pins H₂ b)
  (R:∀C,PG (blk X scope N' C s₂ H₂ fp) tg g) (O:∀C,P1 (blk X scope N' C s₂ H₂ fp) ifs tt) (Q:∀C D a,MG F (blk X scope N' C s₂ H₂ fp) D (lay (.ref D) (blk X scope N' C s₂ H₂ fp).env) (tl a) a)
  (w0:∃m,W 0 m e0 (stC src σ) H₂) (turn:vO J g tt tl Fin W)
  (p:∀D C e H' a,s₂.heap.objs.size<=C->H' C=none->D≠C->(∃m,e.heap.Ns C m)->aR X pins σ (upd H' D (obj D a)) e->H' D=none->Fin a H'->RR (.ref D) C (.ok .next) e) :
  wpAny (model X.prog X.w) X.A mk (λa G=>wpAny (model X.prog X.w) X.A (newFunctionEnv scope X.env.globals (closL X.env.cells scope.names []) [] X.env.qual none .none (some X.env)) (λc x =>
   codeAny (model X.prog X.w) X.A (.compStart ce 0 (.ref it) a {c with scope:=relabel scope X.env}) (RR a c.locals) x) E G) E s₂:=by
 refine rS j u l S r T d v λD C t B=>?_;obtain⟨m,b⟩:=B.betw W w0;have N:(D == sysModules)=false:=by have:=r.big;rw[B.at_]at this;exact cw.mpr (Nat.ne_of_gt this)
 refine uF u (U ..) (EU F (blk X scope N' C s₂ H₂ fp) [] D fp tn W) (λn s b=>?_) m b;refine(xK (Y:=blk X scope N' C s₂ H₂ fp) Z (λ_ _ z=>z) (T C) B.place (R C) turn (λs σc H a I q P fin=>?_) n s b).mono (λ_ z=>z) ?_
 ·obtain⟨o1,o2,L⟩:=B.out r v I q (hok _ _ _ _ N q P fin);exact p D C s H a B.le o1 B.ne o2 L q fin
 ·rintro t ⟨i,a,o,more,σ3,H3,f,I3,K⟩;exact CN.go (BO (W:=W) (λ_ _ z=>z) B.place (T C) (O C) (Q C D a) f I3 K)
end
section
variable {β:Type}{J:It}{g:TG}{tt:TT}{te:TE}{tb:TS}{D:iJ}{tl:β->St->Hp->(β->Hp->Prop)->Prop}{Fin:β->Hp->Prop}{σ:St}{H:Hp}{e0:β}
theorem FX {n:Nat}(Pv:Nat->St->Hp->Prop)(c:Pv 0 σ H)(b:∀i σ H,i<n->Pv i σ H->J.go i H/\∀x H',J.yld i H x H'->g x σ H' λa d=>tb {D with nx:=Pv (i+1),ct:=Pv (i+1),bk:=D.nx} a d)
  (hd:∀σ H,Pv n σ H->J.stop n H/\D.nx σ H):rH J g tb D σ H:=by
 refine⟨λi m σ H=>m=n - i/\i<=n/\Pv i σ H,⟨n,by simp,av _,c⟩,?_⟩;rintro i m σ H ⟨rfl,f,p⟩;by_cases lt:i<n
 ·obtain⟨go,step⟩:=b i σ H lt p;exact .inr ⟨go,Pv (i+1),λe H' q=>⟨n - (i+1),by omega,rfl,lt,q⟩,step⟩
 ·obtain rfl:i=n:=by omega
  exact .inl (hd σ H p)
theorem JP {n:Nat}(Pv:Nat->β->St->Hp->Prop)(l:Pv 0 e0 σ H)
  (j:∀i c σ H,i<n->Pv i c σ H->J.go i H/\∀x H',J.yld i H x H'->g x σ H' λd r=>tt d r λb h=>if b=true then tl c d h λa o=>Pv (i+1) a d o else Pv (i+1) c d h)
  (hd:∀c σ H,Pv n c σ H->J.stop n H/\Fin c H):∃W:MM β,(∃m,W 0 m e0 σ H)/\vO J g tt tl Fin W:=by
 refine⟨λi m c σ H=>m=n - i/\i<=n/\Pv i c σ H,⟨n,by simp,av _,l⟩,?_⟩;rintro i m c σ H ⟨rfl,s,p⟩;by_cases lt:i<n
 ·obtain⟨go,step⟩:=j i c σ H lt p;refine .inr ⟨go,λx H' y=>?_⟩;have e:∀c σ H,(∃f,f<n - i/\f=n - (i+1)/\i+1<=n/\Pv (i+1) c σ H)=Pv (i+1) c σ H:=λc σ H=>propext ⟨λz=>z.choose_spec.2.2.2,λq=>⟨n - (i+1),by omega,rfl,lt,q⟩⟩;simp only[e];exact step x H' y
 ·obtain rfl:i=n:=by omega
  exact .inl (hd c σ H p)
end
section
variable {β:Type}{F:Heap->Addr->β->Prop}{e0:β}{mk:Sem Value}{ce:Expr}{cls:List Comprehension}{ob:HO}
variable {X:Cx}{scope:Scope}{N':aQ}{src:List (Option Nat)}{pins:cY}{σ:St}{H₂:Hp}{s₂:Shared}{fp:List Addr}{it:Addr}{tn:MD}{J:It}{tg iter:Expr}{ifs:lR}
variable {g:TG}{tt:TT}{tl:β->St->Hp->(β->Hp->Prop)->Prop}
end
noncomputable def wD (P:Program)(w:World)(a:Addr)(o:Obj)(b:List (bE×V)):HO:=.ext λh=>h.get? a=some o/\bZ P w (λ_=>none) h a (.dK b)
section
variable {P:Program}{w:World}{H:Hp}{h:Heap}{a:Addr}{o:Obj}{kvs:List (bE×V)}{es:Array DictEntry}{ep:Nat}
theorem SE (e:h.get? a=some o)(k:bZ P w H h a (.dK kvs)){H':Hp}:bZ P w H' h a (wD P w a o kvs) :=
 ⟨⟨e,k⟩,⟨o,e⟩,λj i ⟨b,z,y,vs,r,c,d,f,g,rest⟩ k=>⟨k _ b,z,y,vs,r,c,d,f,k _ g,rest⟩⟩
theorem EW (ok:hV P w H h)(e:H a=some (wD P w a o kvs)):h.get? a=some o/\bZ P w H h a (.dK kvs):=(ok a _ e).1
theorem zQ {k:bE}{u:Value}(h:(bK P w).is k u=true):aX (kV k) u:=by
 rcases dL ((DV P w k u).symm.trans h)with⟨i,t,rfl,rfl⟩|⟨x,t,rfl,rfl⟩
 ·exact⟨t,rfl⟩
 ·exact⟨t,rfl⟩
theorem LZ {vs:List (bE×Value)}(r:KV kvs vs)(p:Pairs (bK P w) es.toList vs):es.size=kvs.length/\∀(i:Nat) (k:bE) (v:V),kvs[i]?=some (k,v)->∃y:DictEntry,es[i]?=some y/\aX (kV k) y.key/\aX v y.val:=by
 have l:es.size=vs.length:=by rw[←p.length,bo]
 refine⟨l.trans (Paired.length r).symm,λi k v f=>?_⟩;obtain⟨⟨j,u⟩,a,d,c⟩:=kX r f;cases d;have b:i<es.size:=by rw[l];exact(cm.mp a).1
 obtain⟨h,g⟩:=p.get? (i:=i) (e:=es[i]) (by rw[Array.getElem?_toList];exact Array.getElem?_eq_getElem b) a;exact⟨es[i],Array.getElem?_eq_getElem b,zQ h,by rw[g];exact c⟩
theorem PL (ok:hV P w H h)(e:H a=some (wD P w a o kvs))(hd:o.data = .dict es ep):h.get? a=some o/\es.size=kvs.length/\∀(i:Nat) (k:bE) (v:V),kvs[i]?=some (k,v)->∃y:DictEntry,es[i]?=some y/\aX (kV k) y.key/\aX v y.val:=by obtain⟨d,_,_,vs,r,l,g,j,c,_,b,_,f,_⟩:=EW ok e;rw[d]at c;cases c;rw[hd]at b;cases b;exact⟨d,LZ r f⟩
end
section
variable {X:Cx}{pins:cY}{σ:St}{H:Hp}{s:Shared}{a:Addr}{kvs:List (bE×V)}
theorem aR.walkD (I:aR X pins σ H s)(e:H a=some (.dK kvs)):∃o c d,s.heap.get? a=some o/\o.data = .dict c d/\aR X pins σ (upd H a (wD X.prog X.w a o kvs)) s:=by
 obtain⟨z,y,vs,r,o,c,d,b,g,f,rest⟩:=(show bZ X.prog X.w H s.heap a (.dK kvs)from I.hok a _ e)
 exact⟨o,c,d,b,f,pK (t':=s.toks) I (by rw[e];trivial) ⟨rfl,λ_ _=>rfl⟩ ⟨o,b⟩ (SE (H:=H) b ⟨z,y,vs,r,o,c,d,b,g,f,rest⟩)⟩
theorem aR.melt {o:Obj}(I:aR X pins σ H s)(e:H a=some (wD X.prog X.w a o kvs)):aR X pins σ (upd H a (.dK kvs)) s:=by obtain⟨g,k⟩:=EW I.hok e;exact pK (t':=s.toks) I (by rw[e];trivial) ⟨rfl,λ_ _=>rfl⟩ ⟨o,g⟩ k
end
def ME (P:Program)(w:World)(H H':Hp):Prop:=H'=H∨∃a o b,H a=some (wD P w a o b)/\H'=upd H a (.dK b)
theorem aR.melts {X:Cx}{b:cY}{σ:St}{H H':Hp}{s:Shared}(I:aR X b σ H s)(m:ME X.prog X.w H H'):aR X b σ H' s:=by
 rcases m with rfl|⟨a,o,c,e,rfl⟩
 ·exact I
 ·exact I.melt e
noncomputable def tMelt (P:Program)(w:World)(t:TE):TE:=λσ H Q=>t σ H λv b=>∃a,ME P w b a/\Q v a
theorem sO {X:Cx}{e:Expr}{t:TE}(h:PE X e t):PE X e (tMelt X.prog X.w t):=λa s σ H Q I q =>
 thn (h a s σ H _ I q) λ_ _ ⟨v,H',c,r,d,m,b⟩=>⟨v,d,c.melts m,r,b⟩
noncomputable def sMelt (P:Program)(w:World)(t:TS):TS:=λD σ H=>t {D with nx:=λσ b=>∃a,ME P w b a/\D.nx σ a} σ H
theorem FA {X:Cx}{st:Stmt}{t:TS}(h:PS X st t):PS X st (sMelt X.prog X.w t):=λa s σ H D I q =>
 thn (h a s σ H _ I q) λd g z=>by
  cases d with
  | next =>
   obtain⟨b,H',e,f,m,c⟩:=z;exact⟨b,f,e.melts m,c⟩
  | ret u=>exact z
  | brk=>exact z
  | cont=>exact z
noncomputable def S9 (P:Program)(w:World)(a:Addr)(o:Obj)(b:List (bE×V)):It :=
 ⟨λi H=>H a=some (wD P w a o b)/\i<b.length,λi H x H'=>∃T k v,b[i]?=some (k,v)/\x = .ref T/\H T=none/\H'=upd H T (.tup [kV k,v]),λi H=>H a=some (wD P w a o b)/\b.length<=i⟩
theorem AU {P:Program}{w:World}{K:PySem.W.Frag}{j:lR}{tk0}{g:Pos}(a it:Addr)(o:Obj)(B:Array DictEntry)(C:Nat)(d:List (bE×V))(hd:o.data = .dict B C) :
  n9 P w K (.Tuple j tk0 g) (S9 P w a o d) [it] it (λi h=>∃ok f,IsItemIter h it a i B.size C ok f) where
 mem:=cp.mpr rfl
 obj:=λi h ⟨ok,f,st⟩ b S=>by rw[cp.mp S];exact⟨_,st,λv z=>nomatch z⟩
 keep:=λi h h' ⟨ok,f,st⟩ k=>⟨ok,f,k it (cp.mpr rfl) _ st⟩
 item:=by
  rintro X t m u hc i e s σ H E I l st ⟨r,p⟩;subst t m u;obtain⟨ok,f,st⟩:=st;obtain⟨x,U,F⟩:=PL I.hok r hd;obtain⟨y,O,L,J⟩:=F i d[i].1 d[i].2 (ax p);obtain⟨f0,f1,f2,f3,f4,f5⟩:=l it (cp.mpr rfl);refine D9 st x hd O λh' a1 a2 a3 Z=>⟨_,rfl,wpAny_letOwnedTupleGo_items (s:={s with heap:=h'}) a1 λT Y G=>?_⟩
  have lt:s.heap.objs.size≠it:=Nat.ne_of_gt (ba st);have I1:aR X e σ (upd H s.heap.objs.size (.tup [kV d[i].1,d[i].2])) {s with heap:=T}:=I.turnedLaid (t':=s.toks) (ch:=[it]) (λc N hc z=>G.extBut _ _ (λq=>hc (cp.mpr q)) (Z c N (λq=>hc (cp.mpr q)) z)) l (ac _)
   ⟨show 2<=sizeLine by decide,[_,_],.cons L (.cons J .nil),⟨_,G.extBut _ _ lt a2,rfl,_,rfl⟩⟩
  refine⟨.ref s.heap.objs.size,_,I1,rfl,⟨s.heap.objs.size,d[i].1,d[i].2,ax p,rfl,I.hok.fresh (ac _),rfl⟩,⟨_,_,Y⟩,λc hc=>?_⟩;rw[cp.mp hc,aC lt.symm];exact f0
 done:=by rintro X t m u hc i e s σ H E I l st ⟨r,p⟩;subst t m u;obtain⟨ok,f,st⟩:=st;obtain⟨x,U,F⟩:=PL I.hok r hd;exact D8 (I.ok.hd hc) st x hd (by omega) λh' R=>⟨rfl,I.turnedL (t':=s.toks) (ch:=[it]) (λc o hc z=>R c o (λq=>hc (cp.mpr q)) z) l⟩
 self:=λA i s Q E ⟨ok,f,st⟩ h=>PySem.W.kcp_self st h
noncomputable def OP (P:Program)(w:World)(d:TE):TI:=λσ H R=>d σ H λx c=>∃a b,x = .ref a/\c a=some (.dK b)/\∀o,R (S9 P w a o b) (upd c a (wD P w a o b))
section
variable {X:Cx}{elts:lR}{tk0:_}{tpos apos cpos:Pos}{o:Expr}{to:TE}
theorem m8 (ho:PE X o to)(f:attributeBase o "items" X.env (eval o X.env)=eval o X.env:=by rfl)(d:(apos.endLine == cpos.line)=true:=by rfl) :
  PI X (.Tuple elts tk0 tpos) (.Call (.Attribute o "items" apos) [] [] cpos) (OP X.prog X.w to):=by
 intro g s σ H R I h;refine wpAny_Call_method (T:="dict") (id:="dict.items") f rfl d F.plainAttrs_dict F.slot_dict_items F.type_dict_items (thn (ho g s σ H _ I h) λu j ⟨x,N,v,B,a,i,ex,e,q⟩=>?_);subst ex;cases B;obtain⟨t1,A,t3⟩:=zU v (.inl ⟨i,.inl e⟩);obtain⟨m,G,J,K,t,l⟩:=v.walkD e;refine⟨t1,A,?_⟩;show wpAny _ _ (callWith cpos (.builtin "dict.items") [.ref a] [] []) _ _ j;refine Calls.callWith_builtin rfl (PySem.evalArgs_none (D7 t1 t3 λr z p E=>?_));refine EA (s:={j with heap:=r}) E (p _ _ K) t λh' L C st=>?_;have le:j.heap.objs.size<=r.objs.size:=by rw[z];exact Nat.le_succ _
 refine⟨_,[_],_,_,_,rfl,l.kept (t':=j.toks) λb u e=>C b u (p b u e),AU a _ m G J i t,⟨_,_,st⟩,λc hc=>?_,q m⟩;rw[cp.mp hc];exact l.fpOk le (l.hok.fresh le)
end
section
variable {β:Type}{g:TG}{tt:TT}{te:TE}{tb:TS}{D:iJ}{tl:β->St->Hp->(β->Hp->Prop)->Prop}{Fin:β->Hp->Prop}{σ:St}{H:Hp}{e0:β}{P:Program}{w:World}{a:Addr}{o:Obj}{kvs:List (bE×V)}
theorem BY (Pv:Nat->St->Hp->Prop)(h:Pv 0 σ H)(b:∀i σ H,Pv i σ H->H a=some (wD P w a o kvs))
  (d:∀i k v T σ H,kvs[i]?=some (k,v)->Pv i σ H->H T=none->g (.ref T) σ (upd H T (.tup [kV k,v])) λc j=>tb {D with nx:=Pv (i+1),ct:=Pv (i+1),bk:=D.nx} c j)
  (hd:∀σ H,Pv kvs.length σ H->D.nx σ H):rH (S9 P w a o kvs) g tb D σ H :=
 FX (n:=kvs.length) Pv h (λi σ H lt p=>⟨⟨b i σ H p,lt⟩,λx H' y=>by
  obtain⟨T,k,v,e,rfl,f,rfl⟩:=y
  exact d i k v T σ H e p f⟩) λσ H p=>⟨⟨b _ σ H p,ac _⟩,hd σ H p⟩
theorem kP (Pv:Nat->β->St->Hp->Prop)(q:Pv 0 e0 σ H)(f:∀i c σ H,Pv i c σ H->H a=some (wD P w a o kvs))
  (j:∀i k v T c σ H,kvs[i]?=some (k,v)->Pv i c σ H->H T=none->g (.ref T) σ (upd H T (.tup [kV k,v])) λd s=>tt d s λb h=>if b=true then tl c d h λa r=>Pv (i+1) a d r else Pv (i+1) c d h)
  (hd:∀c σ H,Pv kvs.length c σ H->Fin c H):∃W:MM β,(∃m,W 0 m e0 σ H)/\vO (S9 P w a o kvs) g tt tl Fin W :=
 JP (n:=kvs.length) Pv q (λi c σ H lt p=>⟨⟨f i c σ H p,lt⟩,λx H' y=>by
  obtain⟨T,k,v,e,rfl,l,rfl⟩:=y
  exact j i k v T c σ H e p l⟩) λc σ H p=>⟨⟨f _ c σ H p,ac _⟩,hd c σ H p⟩
end
def R9 (P:Program)(w:World)(h:Heap)(a:Addr)(b:List (bE×V)):Prop:=b.length<=sizeLine/\∃vs,KV b vs/\h.DictOf (bK P w) a vs
theorem IN {P:Program}{w:World}:MF (R9 P w):=by rintro h a g ⟨z,vs,r,o,b,c,e,x,d,q⟩;exact⟨o,e,λv k=>(by rw[d]at k;cases k),λh' f=>⟨z,vs,r,o,b,c,f,x,d,q⟩⟩
theorem DY {P:Program}{w:World}{A:Around}:CL (R9 P w) [] P w A newDict:=λ_ _ _ q=>ca (q _ rfl λ_ e=>⟨av _,[],.nil,_,_,_,e,⟨rfl,rfl,rfl⟩,rfl,λ_ z=>absurd z (by simp),.nil,List.nodup_nil⟩)
noncomputable def tlDK (tk b:TE)(a:List (bE×V)):St->Hp->(List (bE×V)->Hp->Prop)->Prop:=λσ H N=>tk σ H λy d=>b σ d λv c=>∃k,y=kV k/\a.length<sizeLine/\N (putK a k v) c
theorem HW {Y:Cx}{D:Addr}{f c:Expr}{tk d:TE}{a:List (bE×V)}(g:∀e s,¬Y.xe e s)(F:PE Y f tk)(B:PE Y c d):MG (R9 Y.prog Y.w) Y D (layKV f c (.ref D) Y.env) (tlDK tk d a) a:=by intro E pl o σ H t N I C G q;refine aa (wpAny_mono (F _ t σ H _ I q) (λy t1 ⟨Q,P,L,r1,p⟩=>?_) λe t z=>(g e t z).elim);refine aa (cf (wpAny_mono (B _ t1 σ P _ L p) (λv j ⟨i,O,h,m,k,x,sm,w⟩=>?_) λe t z=>(g e t z).elim));subst x;obtain⟨_,vs,r,K⟩:=G _ (h.pin (D,o) (bv _ C)).1;have u:vs.length=a.length:=(Paired.length r).symm;refine aa (wpAny_standAt (cf (wpAny_dictSet_pairs (A:=Y.A) (hsz:=by rw[u];exact Nat.le_of_lt sm) (nL r1) K λJ b l=>?_)));exact⟨j,J,_,O,_,rfl,h,l,⟨by have:=jR a k i;omega,_,r.put k m,b⟩,w⟩
noncomputable def QJ (src:List (Option Nat))(b:TI)(g:TG)(d:TT)(tk c:TE):TE:=λσ H Q=>b σ H λJ e=>∃W:MM (List (bE×V)),(∃m,W 0 m [] (stC src σ) e)/\vO J g d (tlDK tk c) (λa H=>∀p,H p=none->Q (.ref p) (upd H p (.dK a))) W
theorem kW {X:Cx}{scope:Scope}{N':aQ}{src:List (Option Nat)}{e j d iter:Expr}{a:lR}{b:Pos}{g:TG}{o:TT}{tk l:TE}{m:TI}(hc:X.calm=true)(S:bF X scope N' src)(A:PI X e iter m)(B:∀C s H fp,PG (blk X scope N' C s H fp) e g)(u:∀C s H fp,P1 (blk X scope N' C s H fp) a o)(w:∀C s H fp,PE (blk X scope N' C s H fp) j tk)(t:∀C s H fp,PE (blk X scope N' C s H fp) d l)
  (v:∀x,foldedSetIterable iter X.env x=pure x:=by intro _;rfl):PE X (.DictComp j d [⟨e,iter,a,0⟩] scope b) (QJ src m g o tk l):=by
 intro p s σ H Q I h;change wpAny _ _ (comprehension (.DictComp j d [⟨e,iter,a,0⟩] scope b) scope X.env iter.pos newDict false (eval iter X.env)) _ _ s;refine qY rfl S A v I h λi H₂ it fp O J q T st f ⟨W,w0,turn⟩=>?_;exact B9 (lay:=layKV j d) (tl:=tlDK tk l) (obj:=λ_ c=>.dK c) IN DY (.dct ..) rfl (GO j d e iter a scope b) (λ_ _ _ _ r _ f _=>⟨f.1,r,f.2⟩) S q (λC=>n9.y (Y:=blk X scope N' C i H₂ fp) T hc) st f (λC=>B C i H₂ fp) (λC=>u C i H₂ fp) (λC D c=>HW (λ_ _ z=>z) (w C i H₂ fp) (t C i H₂ fp)) w0 turn λD C P H' c N L K G F E fin=>B2 q N L K G F (fin D E)
end L2
namespace L2
open PySem
variable {X:Cx}
end L2
namespace L2
open PySem PySem.Spec PyProof.Rows
noncomputable def S8 (P:Program)(w:World)(a:Addr)(o:Obj)(b:List (bE×V)):It :=
 ⟨λi H=>H a=some (wD P w a o b)/\i<b.length,λi H x H'=>∃k v,b[i]?=some (k,v)/\x=kV k/\H'=H,λi H=>H a=some (wD P w a o b)/\b.length<=i⟩
theorem pS {P:Program}{w:World}{H:Hp}{h:Heap}{a:Addr}{o:Obj}{b:List (bE×V)}{f:Array DictEntry}{g:Nat}(ok:hV P w H h)(e:H a=some (wD P w a o b))(hd:o.data = .dict f g):∃vs,KV b vs/\h.DictAt (bK P w) a vs g:=by obtain⟨i,_,_,vs,r,p,l,m,d,j,c,rest⟩:=EW ok e;rw[i]at d;cases d;rw[hd]at c;cases c;exact⟨vs,r,o,f,i,j,hd,rest⟩
theorem GQ {P:Program}{w:World}{K:PySem.W.Frag}{J:Expr}(a it:Addr)(o:Obj)(R:Array DictEntry)(G:Nat)(f:List (bE×V))(hd:o.data = .dict R G) :
  n9 P w K J (S8 P w a o f) [it] it (λi h=>h.IsKeyIter it a i f.length G) where
 mem:=cp.mpr rfl
 obj:=λi h st b m=>by rw[cp.mp m];obtain⟨o,e,c,d⟩:=st;exact⟨o,e,λv z=>by rw[d]at z;cases z⟩
 keep:=λi h h' st k=>st.at λo e=>k it (cp.mpr rfl) o e
 item:=by rintro X A t B hc i g s σ H E I q st ⟨x,p⟩;subst A t B;obtain⟨vs,r,F⟩:=pS I.hok x hd;obtain⟨⟨k,u⟩,O,N,U⟩:=kX r (ax p);cases (show f[i].1=k from N);obtain⟨f0,f1,f2,f3,f4,C⟩:=q it (cp.mpr rfl);have l:f.length=vs.length:=Paired.length r;rw[l]at st;refine wpAny_pyNext_dict_item st F O λkey h' Q j L=>?_;have T:aR X g σ H {s with heap:=h'}:=I.turned (t':=s.toks) (λb o m e=>(L.2 b m).trans e) f0 f1 f3 f4 C;obtain⟨o,e,c,d⟩:=id j;rw[←l]at j;exact⟨key,rfl,xF (s:={s with heap:=h'}) e c d (by decide) ⟨_,H,T,zQ Q,⟨f[i].1,f[i].2,ax p,rfl,rfl⟩,j,λb m=>(q b m).1⟩⟩
 done:=by rintro X A t B hc i g s σ H E I q st ⟨x,p⟩;subst A t B;obtain⟨vs,r,F⟩:=pS I.hok x hd;obtain⟨f0,f1,f2,f3,f4,C⟩:=q it (cp.mpr rfl);have l:f.length=vs.length:=Paired.length r;rw[l]at st p;exact wpAny_pyNext_dict_end (I.ok.hd hc) st F (List.getElem?_eq_none p) λh' S=>⟨rfl,I.turned (t':=s.toks) (λb o m e=>S b o m e) f0 f1 f3 f4 C⟩
 self:=λ_ _ _ _ _ st h=>wpAny_pyIter_keyiter st h
noncomputable def iKeys (P:Program)(w:World)(d:TE):TI:=λσ H R=>d σ H λx c=>∃a b,x = .ref a/\c a=some (.dK b)/\∀o,R (S8 P w a o b) (upd c a (wD P w a o b))
theorem FB {X:Cx}{t e:Expr}{i:TE}(A:PE X e i):PI X t e (iKeys X.prog X.w i):=by intro f s σ H R I h;refine thn (A f s σ H _ I h) λu v ⟨x,G,p,z,a,d,ex,o,q⟩=>?_;subst ex;cases z;obtain⟨_,_,t3⟩:=zU p (.inl ⟨d,.inl o⟩);obtain⟨j,B,C,F,m,g⟩:=p.walkD o;obtain⟨vs,r,E⟩:=pS g.hok upd_same m;have l:d.length=vs.length:=Paired.length r;refine wpAny_pyIter_dict t3 E ?_;refine⟨_,[_],_,_,_,rfl,g.kept (t':=v.toks) λb u e=>af _ e,GQ a _ j B C d m,⟨_,au _ rfl,rfl,by rw[l];rfl⟩,λc hc=>?_,q j⟩;rw[cp.mp hc];exact g.fpOk (ac _) (g.hok.fresh (ac _))
section
variable {g:TG}{tb:TS}{D:iJ}{σ:St}{H:Hp}{P:Program}{w:World}{a:Addr}{o:Obj}{kvs:List (bE×V)}
theorem IJ (Pv:Nat->St->Hp->Prop)(f:Pv 0 σ H)(b:∀i σ H,Pv i σ H->H a=some (wD P w a o kvs))
  (d:∀i k v σ H,kvs[i]?=some (k,v)->Pv i σ H->g (kV k) σ H λc h=>tb {D with nx:=Pv (i+1),ct:=Pv (i+1),bk:=D.nx} c h)
  (hd:∀σ H,Pv kvs.length σ H->D.nx σ H):rH (S8 P w a o kvs) g tb D σ H :=
 FX (n:=kvs.length) Pv f (λi σ H lt p=>⟨⟨b i σ H p,lt⟩,λx H' y=>by
  obtain⟨k,v,e,rfl,rfl⟩:=y
  exact d i k v σ _ e p⟩) λσ H p=>⟨⟨b _ σ H p,ac _⟩,hd σ H p⟩
end
noncomputable def JT (P:Program)(w:World)(d ty:TE):TE:=λσ H Q=>d σ H λx e=>ty σ e λy c=>∃a o b k v,x = .ref a/\c a=some (wD P w a o b)/\y=kV k/\valV b k=some v/\Q v c
theorem A5 {X:Cx}{o i:Expr}{e:Pos}{f ty:TE}(ho:PE X o f)(E:PE X i ty)(C:PB i):PE X (.Subscript o i e) (JT X.prog X.w f ty):=by intro b s σ H Q I h;refine E3 PySem.F.slot_dict_getitem.lookup C (thn (ho b s σ H _ I h) λu p ⟨x,L,J,r,z⟩=>thn (E b p σ L _ J z) λP s2 ⟨y,K,m,q,a,O,A,k,v,ex,g,G,l,t⟩=>?_);subst ex G;cases r;obtain⟨_,_,_,vs,d,j⟩:=EW m.hok g;obtain⟨N,B,c⟩:=lF.some_of (v:=v) (o:=valueAt vs k) (by rw[←l];exact d.val k);exact⟨j.typeIs,wpAny_getItem_of (nL q) j.mapOf B ⟨v,K,m.tok _,c,t⟩⟩
section
variable {X:Cx}
theorem GL {P:Program}{w:World}{a:List (bE×V)}{vs:List (bE×Value)}{us:bX}(r:KV a vs)(h:us.length=vs.length)(q:∀(j:Nat) (v:Value),us[j]?=some v->∃k x,vs[j]?=some (k,x)/\(bK P w).is k v=true):aY (a.map λp=>kV p.1) us:=by
 induction r generalizing us with
 | nil=>cases us with
  | nil=>exact .nil
  | cons _ _=>cases h
 | cons r c b =>
  cases us with
  | nil=>cases h
  | cons u us =>
  obtain⟨k,x,e,i⟩:=q 0 u rfl;cases e;refine .cons ?_ (b (Nat.succ.inj h) λj v e=>q (j+1) v e);show aX (kV _) u;rw[r.1];exact zQ i
theorem EL (hc:X.calm=true):cL X (.type "list") (λxs H Q=>∃p a,xs=[.ref p]/\H p=some (.dK a)/\∀l,H l=none->Q (.ref l) (upd H l (.lst (a.map λp=>kV p.1)))):=by rintro g s σ H xs us Q I r ⟨p,a,rfl,t,q⟩;obtain⟨u,rfl,h⟩:=r.one;cases h;obtain⟨z,i,vs,d,A⟩:=xM I.hok t;obtain⟨C,B⟩:=A.dictAt;have l:a.length=vs.length:=Paired.length d;refine PySem.W.kdl_call (PySem.W.kdl_dict i) (I.ok.hd hc) B (by rw[←l];exact z) λh' tk f c w x b=>?_;have m:aY (a.map λp=>kV p.1) f.toList:=GL d (by rw[bo];exact b.1) λj v e=>b.2 j v (by rw[←Array.getElem?_toList];exact e);refine⟨.ref s.heap.objs.size,_,I.laid (o:=.lst (a.map λp=>kV p.1)) (t':=tk) w (ac _) ⟨by rw[ae];exact z,f.toList,c,m,?_⟩,rfl,q _ (I.hok.fresh (ac _))⟩;rw[Array.toArray_toList];exact x
noncomputable def M9:V->List V->Hp->VK->Prop:=λx vs H Q=>∃a b,x = .ref a/\vs=[]/\H a=some (.dK b)/\Q .non (upd H a (.dK []))
theorem HP:R5 X "dict.clear" M9:=by rintro c s σ H x vs v us Q I d e ⟨a,f,rfl,rfl,g,q⟩;cases d;have b:=e.zero;subst b;exact O0 I g λi h=>⟨.non,_,h,rfl,q⟩
end
def cF (H:Hp)(ds:List (bE×D))(a:List (bE×V)):Prop:=Paired (λ(d:bE×D) (v:bE×V)=>d.1=v.1/\bD H d.2 v.2) ds a
theorem cF.same {H H':Hp}{ds:List (bE×D)}{a:List (bE×V)}(h:cF H ds a)(s:aH H H'):cF H' ds a:=Paired.mapP h λ_ _ z=>⟨z.1,bD.same s z.2⟩
theorem LC {A:Around}{s:Shared}{a l m:List (bE×Value)}(h:Paired (λp q=>p.1=q.1/\SeqAt.EqAt A s p.2 q.2 true) l m)(b:∀q∈m,valueAt a q.1=some q.2):PySem.W.KeqHits A s a l true:=by
 induction h with
 | nil=>exact .nil
 | @cons p q l m h t c =>
  have:=PySem.W.KeqHits.hit (A:=A) (s:=s) (kb:=a) (k:=p.1) (v:=p.2) ((congrArg (valueAt a) h.1).trans (b q aw)) h.2 (c λq d=>b q (az _ d));exact this
theorem D4 {P:Program}{w:World}{H:Hp}{s:Shared}{A:Around}(ok:hV P w H s.heap){n:Nat}(l:A.units+n<cLine){ds:List (bE×D)}{c kb:List (bE×V)}{b a:List (bE×Value)}(m:cF H ds c)(g:cF H ds kb)(f:KV c b)(e:KV kb a)(hd:∀d∈ds,depD d.2<=n) :
  Paired (λp q=>p.1=q.1/\SeqAt.EqAt A s p.2 q.2 true) b a:=by
 induction m generalizing kb b a with
 | nil=>cases g;cases f;cases e;exact .nil
 | cons i t1 j =>
  cases g with|cons a2 t2 =>
  cases f with|cons a3 t3 =>
  cases e with|cons a4 t4 =>
  refine .cons ⟨a3.1.symm.trans (i.1.symm.trans (a2.1.trans a4.1)),?_⟩ (j t2 t3 t4 λd h=>hd d (az _ h));have:=eqAtD ok _ _ A _ _ _ _ i.2 a2.2 a3.2 a4.2 (aj (bx (hd _ aw) _) l);rw[fN]at this;exact this
section
variable {X:Cx}
noncomputable def rKK (b:Bool):R2:=λx y H Q=>∃p q a kb ds,x = .ref p/\y = .ref q/\H p=some (.dK a)/\H q=some (.dK kb)/\cF H ds a/\cF H ds kb/\(∀d∈ds,depD d.2<=50)/\Q (.bl b) H
theorem PU {c:cY}{s:Shared}{σ:St}{H:Hp}{p q:Addr}{f kb:List (bE×V)}{ds:List (bE×D)}(x:X.A.units+64<cLine)(I:aR X c σ H s)(r:H p=some (.dK f))(o:H q=some (.dK kb))(ra:cF H ds f)(h:cF H ds kb)(hd:∀d∈ds,depD d.2<=50) :
  ∃b a,(p == sysModules)=false/\(q == sysModules)=false/\s.heap.DictOf (bK X.prog X.w) p b/\s.heap.DictOf (bK X.prog X.w) q a/\b.length=a.length/\PySem.W.KeqHits X.A.in1 s a b true:=by
 obtain⟨_,lp,b,m,dp⟩:=xM I.hok r;obtain⟨_,j,a,l,g⟩:=xM I.hok o;obtain⟨_,_,_,_,_,_,_,_,nd⟩:=id g;have e:=D4 (A:=X.A.in1) I.hok (n:=50) (by show X.A.units+1+50<cLine;omega) ra h m l hd;refine⟨b,a,lp,j,dp,g,Paired.length e,LC e λ⟨k,u⟩ t=>?_⟩;obtain⟨i,v⟩:=List.getElem?_of_mem t;exact valueAt_of_get nd v
theorem FF (h:X.A.units+64<cLine):jL X (compareOp .Eq) (rKK true):=by rintro b s σ H x y v u Q I d c ⟨p,q,z,kb,ds,rfl,rfl,j,i,ra,e,hd,f⟩;cases d;cases c;obtain⟨t,o,lp,g,dp,m,l,a⟩:=PU h I j i ra e hd;refine PySem.W.keq_eq (knd:=bK X.prog X.w) (r:=true) lp g dp m (by omega) (λ_=>a) ⟨.bl true,H,I,?_,f⟩;rw[l];simp;rfl
theorem zG (h:X.A.units+64<cLine):jL X (compareOp .NotEq) (rKK false):=by rintro b s σ H x y v u Q I d c ⟨p,q,z,kb,ds,rfl,rfl,j,i,ra,e,hd,f⟩;cases d;cases c;obtain⟨t,o,lp,g,dp,m,l,a⟩:=PU h I j i ra e hd;refine PySem.W.keq_ne (knd:=bK X.prog X.w) (r:=true) lp g dp m (by omega) (λ_=>a) ⟨.bl false,H,I,?_,f⟩;rw[l];simp;rfl
end
noncomputable def keyPd:bE->PyData
 | .inl i=>.int i
 | .inr x=>.str x
noncomputable def kvPd (ds:List (bE×D)):List (PyData×PyData):=ds.map λp=>(keyPd p.1,pdOf p.2)
noncomputable def fU (ds:List (bE×D)):Str:=dictText (PyData.shownKv (kvPd ds))
def SU (ds:List (bE×D)):Prop:=∀p∈ds,(∃x,p.1 = .inr x)/\Tx p.2/\depD p.2<=50
theorem AS:∀{ds:List (bE×D)},SU ds->(PyData.showableAll ((kvPd ds).map (·.1))=true/\PyData.hasDictAll ((kvPd ds).map (·.1))=false)/\PyData.showableAll ((kvPd ds).map (·.2))=true/\PyData.hasDictAll ((kvPd ds).map (·.2))=false
 | [],_=>⟨⟨rfl,rfl⟩,rfl,rfl⟩
 | (k,d)::ds,h=>by obtain⟨⟨a,b⟩,c,e⟩:=AS (ds:=ds) λp g=>h p (az _ g);obtain⟨⟨x,rfl⟩,t,_⟩:=h (k,d) aw;obtain⟨t1,f,_⟩:=sM t;simp only[kvPd,bc,PyData.showableAll,PyData.hasDictAll,keyPd,PyData.showable,PyData.hasDict,t1,f];exact⟨⟨a,b⟩,c,e⟩
theorem uU:∀{ds:List (bE×D)},SU ds->PyData.depthKv (kvPd ds)<=51
 | [],_=>av _
 | (k,d)::ds,h=>by
  have c:=uU (ds:=ds) λp b=>h p (az _ b);obtain⟨⟨x,rfl⟩,t,a⟩:=h (k,d) aw;obtain⟨_,_,t3⟩:=sM t;have d50':depD d<=50:=a;have e:PyData.depthKv (kvPd ((Sum.inr x,d)::ds))=max (max (PyData.depth (.str x)) (pdOf d).depth) (PyData.depthKv (kvPd ds)):=by rw[show kvPd ((Sum.inr x,d)::ds)=(.str x,pdOf d)::kvPd ds from rfl,PyData.depthKv]
  rw[e,t3,PyData.depth];omega
section
variable {X:Cx}{pins:cY}{σ:St}{H:Hp}{s:Shared}
theorem G0 (I:aR X pins σ H s){ds:List (bE×D)}{a:List (bE×V)}{vs:List (bE×Value)}{b:List DictEntry}(h:SU ds)(q:cF H ds a)(f:KV a vs)(c:Pairs (bK X.prog X.w) b vs) :
  (∃as,ReadsAll s.heap (b.map (·.key)) ((kvPd ds).map (·.1)) as)/\∃bs,ReadsAll s.heap (b.map (·.val)) ((kvPd ds).map (·.2)) bs:=by
 induction q generalizing vs b with
 | nil=>cases f;cases c;exact⟨⟨_,.nil⟩,_,.nil⟩
 | @cons kd _ ds _ g t1 m =>
  cases f with|cons a2 t2 =>
  cases c with|cons a3 a4 t3 =>
  obtain⟨k,d⟩:=kd;obtain⟨⟨as,ra⟩,bs,j⟩:=m (λp o=>h p (az _ o)) t2 t3;obtain⟨⟨x,rfl⟩,t,_⟩:=h (k,d) aw;obtain⟨u,i⟩:=tT I t g.2 a2.2;have e:Sum.inr x=_:=g.1.trans a2.1;have l:=zQ (k:=Sum.inr x) (by rw[e];exact a3);obtain⟨tk,r⟩:=(show ∃tk,_=Value.str x tk from l)
  simp only[kvPd,bc,keyPd,r,a4];exact⟨⟨_,.cons (.str x tk) ra⟩,_,.cons i j⟩
noncomputable def QR:List V->Hp->VK->Prop:=λxs H Q=>∃a b ds,xs=[.ref a]/\H a=some (.dK b)/\cF H ds b/\SU ds/\(fU ds).length<=sizeLine/\Q (.str (fU ds)) H
theorem uY (R:X.A.guards=some [])(hu:X.A.units+64<cLine):cL X (.builtin "repr") QR:=by
 rintro v s σ H xs us Q I r ⟨a,L,ds,rfl,S,rep,f,hz,q⟩;obtain⟨u,rfl,C⟩:=r.one;cases C;obtain⟨z,K,vs,g,o,U,ep,l,j,x,_,T,_⟩:=xM I.hok S;obtain⟨⟨as,ra⟩,bs,m⟩:=G0 I f rep g T;obtain⟨⟨B,Z⟩,s2,Y⟩:=AS f;have W:=uU f;obtain⟨b1,J,O⟩:=ReprAllK.of_readsAll (prog:=X.prog) (w:=X.w) ra B (λz=>by rw[Z]at z;cases z) λt h=>let⟨p,hp,hl⟩:=PyData.shownKv_key_le _ t h;ao hl (ao (dictText_mem_le hp) hz);obtain⟨b2,G,N⟩:=ReprAllK.of_readsAll (prog:=X.prog) (w:=X.w) m s2 (λz=>by rw[Y]at z;cases z) λt h=>let⟨p,hp,hl⟩:=PyData.shownKv_val_le _ t h;ao hl (ao (dictText_mem_le hp) hz);have d:=PyData.depthAll_keys_le (kvPd ds);have c:=PyData.depthAll_vals_le (kvPd ds);have E:a∉b1++b2:=not_mem_of_deeper (.dict l j.1 x ra m) (by simp only[PyData.depth];exact Nat.lt_succ_self _) ((J.mono d).append (G.mono c));refine call_repr_slot (by omega) ⟨o,l,j.1⟩ F.slot_dict_repr (call_dict_reprK (h₀:=s.heap) l j.1 x K E (ReprEntriesK.of_two U.toList _ _ (O.more_le (λb i=>cb _ i) d) (N.more_le (λb i=>bv _ i) c)) R (λb _=>Clear.nil b) ?_ (λb o e=>e) (λh' u tk P=>?_) ?_)
 ·show X.A.units+1+(_+1)<cLine;omega
 ·rw[←PyData.shownKv_eq];exact⟨_,_,rfl,.str (fU ds),H,I.kept (t':=tk) P,⟨_,rfl⟩,q⟩
 ·rw[←PyData.shownKv_eq];exact hz
end
end L2
namespace Lw
open PySem L2
section
variable {P:Program}{w:World}{K:PySem.W.Frag}{mg:fR}{base:Heap}
section
variable {X:Cx}{body:List Stmt}{tb:TS}{hd:ExceptHandler}{pos:Pos}
theorem NA (c:∀pn Ew,CO (X.tr pn Ew) body tb):PS X (.Try body [hd] [] [] pos) tb:=by
 intro a s σ H D I h;refine wpAny_Try_except ?_;have key:∀Ew,wpAny (model X.prog X.w) X.A (execs body X.env) (SP (X.tr (X.pn++a) Ew) [] D) Ew s:=λEw=>c _ Ew [] s σ H D (I.tr Ew) h;refine wpAny_mono (key _) (λf e d=>?_) λ_ _ z=>z;have b:=SP.untr I.ok d;cases f with
 | next=>exact wpAny_execs_nil b
 | ret u=>exact b
 | brk=>exact b
 | cont=>exact b
end
theorem gK {c:Bool}{a b:Prop}(e:c=true->a)(d:c=false->b):(if c=true then a else b):=by
 cases c
 ·rw[ab Bool.false_ne_true];exact d rfl
 ·rw[ai rfl];exact e rfl
theorem lT {src:List (Option Nat)}{a:L2.TI}{g:TG}{b:TT}{c:TE}:tComp src a g b c=λσ H Q=>a σ H λJ d=>nR J g b c Q (stC src σ) d:=rfl
theorem oM {a:L2.TI}{g:TG}{b:TS}:tFor a g b=λD σ H=>a σ H λJ c=>rH J g b D σ c:=rfl
noncomputable def kd (fs:List (Str×D)):List (bE×D):=fs.map λp=>(Sum.inr p.1,p.2)
structure TB (fx:cT)(sm:bU)(os:aQ)(fs:List (Str×D)):Prop where
 nd:(fs.map (·.1)).Nodup
 ok:∀p∈fs,cK p.1/\S5 fx sm os p.2
 ln:fs.length<=20
theorem qQ {H:Hp}{fs:List (Str×D)}{a:List (bE×V)}{i:Nat}{k:bE}{v:V}(h:cF H (kd fs) a)(e:a[i]?=some (k,v)):∃x d,fs[i]?=some (x,d)/\k=Sum.inr x/\bD H d v:=by unfold cF kd at h;have f:=Paired.length h;rw[ae]at f;have g:=(cm.mp e).1;obtain⟨q,c,r1,b⟩:=kX h (ax (l:=fs.map λp=>((Sum.inr p.1:bE),p.2)) (i:=i) (by rw[ae];omega));rw[e]at c;cases c;rw[List.getElem_map]at r1 b;exact⟨fs[i].1,fs[i].2,ax (by omega),r1.symm,b⟩
theorem qP {H:Hp}{fs:List (Str×D)}{a:List (bE×V)}(h:cF H (kd fs) a):a.length=fs.length:=by have:=Paired.length h;unfold kd at this;rw[ae]at this;omega
theorem cF.but {H H':Hp}{p:Addr}{ds:List (bE×D)}{a:List (bE×V)}(b:bC p H H')(n1:∀xs,H p≠some (.tup xs))(n2:∀xs,H p≠some (.lst xs))(h:cF H ds a):cF H' ds a:=Paired.mapP h λ_ _ z=>⟨z.1,bD.but b n1 n2 z.2⟩
theorem GE {H H':Hp}{a:Addr}(b:bC a H H'):aH (del H a) H':=λc o e=>by obtain⟨f,d⟩:=eC e;exact b c o d f
theorem vP {x:Str}(h:cK x)(k:jJ x):False:=by obtain⟨l,rfl,_⟩:=h;have:=k.2.2 63 (by simp);omega
theorem LJ {H:Hp}{a:Addr}{b:List (bE×V)}(h:H a=some (.dK b)):isV H (.ref a) (.ty "dict")=some true:=by
 have e:tyN H (.ref a)=some "dict":=by unfold tyN;dsimp only;rw[h]
 unfold isV;rw[e];rfl
def C6 (K:PySem.W.Frag)(C:Addr):Sp:=λvs H Q _=>∃(g:Addr) (fx:cT) (sm:bU) (os:aQ) (d:D) (v:V),vs=[.ref g,v]/\iV K C fx sm H g/\bD H d v/\S5 fx sm os d/\∀H',aH H H'->Q (.bl true) H'
theorem N7 {f C:Addr}{e:FuncData}(F:fZ K "is_term" "is_term" h8 f e)(T:Txt mg)(a:cC P w K mg base bA 3 "check_term" (yQ K C)):bW P w K mg base bA 4 f e rC (C6 K C):=by
 refine F.ok DD (λvs H Q E h=>?_) (λj A outer s H vs Q E b h=>?_)
 ·obtain⟨g,c,sm,os,d,v,rfl,_⟩:=h;rfl
 ·obtain⟨g,c,sm,os,d,v,rfl,sg,rep,t,q⟩:=h;have l:=b.units
  refine⟨_,(aE (NA (λpn Ew=>(aG (cN (aL a (b.mono (by decide)) pass0 rfl (aA (pv 0) (aA (pv 1) aB)))))))
   (aG (aP lP))),?_⟩
  have:=t.lv;have:=t.dp;exact⟨_,rfl,_,rfl,g,c,sm,os,d,v,rfl,sg,t.so,t.ho,rep,t.tm,by omega,by omega,t.nd,λH' i=>q H' i⟩
def tM (K:PySem.W.Frag)(C:Addr):Sp:=λvs H Q _=>∃(g a:Addr) (fx:cT) (sm:bU) (os:aQ) (fs:List (Str×D)) (kvs:List (bE×V)),vs=[.ref g,.ref a]/\iV K C fx sm (del H a) g/\H a=some (.dK kvs)/\cF H (kd fs) kvs/\TB fx sm os fs /\
 ∀H',aH H H'->Q .non H'
def UV (P:Program)(w:World)(g a:Addr)(o:Obj)(b:List (bE×V))(H:Hp)(_:Nat)(σ:St)(H':Hp):Prop:=∃o2 c:Option V,σ=[some (.ref g),some (.ref a),o2,c]/\bC a H H'/\H' a=some (wD P w a o b)
theorem HF {f C:Addr}{W:FuncData}(F:fZ K "check_filling" "check_filling" cW f W)(T:Txt mg)(c:cC P w K mg base bA 1 "is_wish" yF)(l:cC P w K mg base bA 4 "is_term" (C6 K C)):bW P w K mg base bA 5 f W iP (tM K C):=by
 refine F.ok kH (λvs H Q E h=>?_) (λcdv A outer s H vs Q E G h=>?_)
 ·obtain⟨g,a,U,sm,os,fs,m,rfl,_⟩:=h;rfl
 ·obtain⟨g,a,U,sm,os,fs,m,rfl,sg,r,rep,L,q⟩:=h;have hu:=G.units
  refine⟨_,(aE (bN (cR (a0 K rfl (aK aM rfl T.n_isinstance rfl (aA (pv 1) (aA (bV (v:=V.ty "dict") rfl T.n_dict rfl rfl) aB))) (λ_=>rfl))) (aG eZ) aV)
   (aG (FA (eV df rfl (m8 (pv 1)) (cJ K rfl (i:=2) (j:=3) rfl kH.nd rfl rfl rfl rfl) (aE (bN (cR (a0 K rfl (aL c (G.mono (by decide)) pass0 rfl (aA (pv 2) aB)) (λ_=>rfl))) (aG eZ) aV)
   (aG (bN (cR (a0 K rfl (aL l (G.mono (by decide)) pass0 rfl (aA (pv 0) (aA (pv 3) aB))) (λ_=>rfl))) (aG eZ) aV))))))),?_⟩
  clear G F T hu c l;simp only[oM];refine⟨_,rfl,_,_,true,rfl,LJ r,true,rfl,_,rfl,a,m,rfl,r,λo=>?_⟩;have nt:∀xs,H a≠some (.tup xs):=λxs z=>by rw[r]at z;cases z
  have nl:∀xs,H a≠some (.lst xs):=λxs z=>by rw[r]at z;cases z
  refine BY (P:=P) (w:=w) (UV P w g a o m H) ⟨_,_,rfl,bC.upd _ _ _,upd_same⟩ (λi σ H' ⟨_,_,_,_,e⟩=>e) ?_ ?_
  ·rintro i k v t σ B hk ⟨o2,Z,rfl,bt,J⟩ hT;obtain⟨x,d,hf,rfl,Y⟩:=qQ rep hk;obtain⟨N,X⟩:=L.ok _ (bh hf);have I:aH B (upd B t (.tup [kV (Sum.inr x),v])):=aH.upd hT;have S:upd B t (.tup [kV (Sum.inr x),v]) t=some (.tup [kV (Sum.inr x),v]):=upd_same;generalize upd B t (.tup [kV (Sum.inr x),v])=H2 at I S⊢;refine⟨t,_,rfl,iE.of S,rfl,_,_,rfl,_,_,rfl,rfl,?_⟩;refine⟨_,rfl,x,rfl,.inl N,λH3 R=>⟨λ_=>⟨true,rfl,?_⟩,λno=>?_⟩⟩
   ·have p:bC a H H3:=bt.trans ((I.trans R).but);refine⟨_,rfl,_,rfl,g,U,sm,os,d,v,rfl,sg.same (GE p),bD.but p nt nl Y,X,λH4 O=>⟨true,rfl,?_⟩⟩;exact⟨_,_,rfl,p.trans O.but,O _ _ (R _ _ (I _ _ J))⟩
   ·exact(vP N no).elim
  ·rintro σ B ⟨o2,Z,rfl,bt,J⟩;refine⟨_,.inr ⟨a,o,m,J,rfl⟩,q _ λb u e=>?_⟩;by_cases z:b=a
   ·subst z;rw[upd_same,←r];exact e
   ·rw[aC z];exact bt b u z e
end
section
variable {P:Program}{w:World}{K:PySem.W.Frag}{mg:fR}{base:Heap}
noncomputable def idle (fs:List (Str×D)):List (Str×D):=fs.filter λp=>!eqD p.2 (.str p.1)
theorem putK_new {a:List (bE×V)}{k:bE}{v:V}(h:∀p∈a,p.1≠k):putK a k v=a++[(k,v)]:=by unfold putK;rw[ab];intro z;obtain⟨p,b,e⟩:=List.any_eq_true.mp z;exact h p b (bp e)
theorem kK {H:Hp}{ds:List (bE×D)}{a:List (bE×V)}{k:bE}{d:D}{v:V}(h:cF H ds a)(r:bD H d v):cF H (ds++[(k,d)]) (a++[(k,v)]):=Paired.snoc h ⟨rfl,r⟩
theorem kL {H:Hp}{ds:List (bE×D)}{b:List (bE×V)}(h:cF H ds b):b.map (·.1)=ds.map (·.1):=by
 induction h with
 | nil=>rfl
 | cons a _ c=>rw[bc,bc,c,a.1]
theorem qR (a b:List (Str×D)):kd (a++b)=kd a++kd b:=ay ..
theorem sR {H:Hp}{fs g:List (Str×D)}{a:List (bE×V)}{i:Nat}{x:Str}{d:D}(nd:(fs.map (·.1)).Nodup)(v:fs[i]?=some (x,d))(u:∀p∈g,∃q∈fs.take i,q.1=p.1)(r:cF H (kd g) a):∀p∈a,p.1≠Sum.inr x:=by
 intro p t e;have m:p.1∈a.map (·.1):=List.mem_map_of_mem t;rw[kL r,e]at m;obtain⟨q,s,eq⟩:=cu.mp m;obtain⟨l,f,rfl⟩:=cu.mp s;obtain⟨A,c,w⟩:=u l f;obtain⟨j,b⟩:=List.getElem?_of_mem c;rw[List.getElem?_take]at b;split at b
 ·rename_i lt;have h:(fs.map (·.1))[j]?=some x:=by rw[bw,b];exact congrArg some (w.trans (Sum.inr.inj eq))
  have z:(fs.map (·.1))[i]?=some x:=by rw[bw,v];rfl
  have o:=(cm.mp h).1;have:=(List.getElem?_inj o nd).mp (h.trans z.symm);omega
 ·cases b
def C8:Sp:=λvs H Q _=>∃(a:Addr) (fs:List (Str×D)) (kvs:List (bE×V)),vs=[.ref a]/\H a=some (.dK kvs)/\cF H (kd fs) kvs/\(fs.map (·.1)).Nodup/\(∀p∈fs,depD p.2<=50)/\fs.length<=20 /\
 ∀(l:Addr) (kvs':List (bE×V)) (H':Hp),aH H H'->H l=none->H' l=some (.dK kvs')->cF H' (kd (idle fs)) kvs'->Q (.ref l) H'
def UL (P:Program)(w:World)(a:Addr)(o:Obj)(c:List (bE×V))(fs:List (Str×D))(H:Hp)(i:Nat)(b:List (bE×V))(σ:St)(H':Hp):Prop:=∃d o1:Option V,σ=[d,o1]/\bC a H H'/\H' a=some (wD P w a o c)/\cF H' (kd (idle (fs.take i))) b/\b.length<=i
theorem qJ {H d:Hp}{a:Addr}{c:List (bE×V)}(f:H a=some (.dK c))(bt:bC a H d):aH H (upd d a (.dK c)):=λb u e=>by
 by_cases z:b=a
 ·subst z;rw[upd_same,←f];exact e
 ·rw[aC z];exact bt b u z e
theorem qT (fs:List (Str×D))(x:Str)(d:D):idle (fs++[(x,d)])=idle fs++(if eqD d (.str x)=true then []else [(x,d)]):=by
 unfold idle;rw[List.filter_append];congr 1;cases e:eqD d (.str x)with
 | true=>rw[ai rfl,List.filter_cons_of_neg (by simp[e]),List.filter_nil]
 | false=>rw[ab (by decide),List.filter_cons_of_pos (by simp[e]),List.filter_nil]
theorem BW {fs:List (Str×D)}:∀p∈idle fs,∃q∈fs,q.1=p.1:=λp a=>⟨p,(cy.mp a).1,rfl⟩
theorem N9 {f:Addr}{W:FuncData}(F:fZ K "without_idle" "without_idle" cP f W)(T:Txt mg):bW P w K mg base bA 1 f W jE C8:=by
 refine F.ok sD (λvs H Q E h=>?_) (λcdv A outer s H vs Q E S h=>?_)
 ·obtain⟨a,fs,b,rfl,_⟩:=h;rfl
 ·obtain⟨a,fs,b,rfl,O,rep,nd,dp,l20,q⟩:=h;have R:=S.units;refine⟨_,(aG (aP (sO (kW rfl (bF.by (N:=mS) (names:=(aD cP).names) (N':=["wish","term"]) (src:=[none,none]) (by decide +kernel) rfl rfl) (m8 (pv 0)) (λ_ _ _ _=>(cJ K rfl (i:=0) (j:=1) rfl (show List.Nodup (["wish","term"]:aQ)by decide +kernel) rfl rfl rfl rfl)) (λ_ _ _ _=>(iD (aS (fC R) (pv 1) (pv 0) (nomark _)))) (λ_ _ _ _=>(pv 0)) (λ_ _ _ _=>(pv 1)))))),?_⟩;clear S F T R;refine⟨_,rfl,a,b,rfl,O,λo=>?_⟩;have nt:∀xs,H a≠some (.tup xs):=λxs z=>by rw[O]at z;cases z
  have nl:∀xs,H a≠some (.lst xs):=λxs z=>by rw[O]at z;cases z
  have kl:=qP rep;refine kP (P:=P) (w:=w) (UL P w a o b fs H) ⟨_,_,rfl,bC.upd _ _ _,upd_same,.nil,av _⟩ (λi c σ H' ⟨_,_,_,_,e,_⟩=>e) ?_ ?_
  ·rintro i k v L c σ r hk ⟨Z,o1,rfl,bt,g,ra,la⟩ hT;obtain⟨x,d,J,rfl,Y⟩:=qQ rep hk;have il:=(cm.mp J).1;have t:aH r (upd r L (.tup [kV (Sum.inr x),v])):=aH.upd hT;have U:upd r L (.tup [kV (Sum.inr x),v]) L=some (.tup [kV (Sum.inr x),v]):=upd_same;generalize upd r L (.tup [kV (Sum.inr x),v])=H2 at t U⊢;refine⟨L,_,rfl,iE.of U,rfl,_,_,rfl,_,_,rfl,rfl,?_⟩;have l:bC a H H2:=bt.trans t.but;have B:=bD.but l nt nl Y;refine⟨_,rfl,_,rfl,d,.str x,B,rfl,ao (dp _ (bh J)) (by decide),_,rfl,gK (λk=>?_) λk=>?_⟩
   ·have e:eqD d (.str x)=false:=by simpa using k
    have G:=qT (fs.take i) x d;rw[←aW J,e,ab (by decide)]at G;have new:=sR nd J BW ra;refine⟨_,rfl,_,rfl,Sum.inr x,rfl,aj (m:=20) (by omega) (by decide),_,_,rfl,l,t _ _ g,?_,?_⟩
    ·rw[putK_new new,G,qR];exact kK (ra.same t) B
    ·rw[putK_new new,ar,cg];omega
   ·have e:eqD d (.str x)=true:=by simpa using k
    have G:=qT (fs.take i) x d;rw[←aW J,e,ai rfl,bj]at G;exact⟨_,_,rfl,l,t _ _ g,by rw[G];exact ra.same t,by omega⟩
  ·rintro c σ r ⟨Z,o1,rfl,bt,g,ra,la⟩ p I;rw[kl,br]at ra;have C:a≠p:=aF g I;refine⟨_,.inr ⟨a,o,b,by rw[aC C];exact g,rfl⟩,?_⟩;have X:aH H (upd (upd r p (.dK c)) a (.dK b)):=qJ O (bt.trans (bC.new I));refine q p c _ X ?_ (by rw[aC C.symm];exact upd_same) ?_
   ·cases z:H p with
    | none=>rfl
    | some u =>
     by_cases e:p=a
     ·exact absurd e.symm C
     ·rw[bt p u e z]at I;cases I
   ·refine cF.but (p:=a) (H:=upd r p (.dK c)) (bC.upd _ _ _) (λxs z=>?_) (λxs z=>?_) (ra.same (aH.upd I))
    ·rw[aC C,g]at z;cases z
    ·rw[aC C,g]at z;cases z
end
section
variable {P:Program}{w:World}{K:PySem.W.Frag}{mg:fR}{base:Heap}
noncomputable def flatF (sm:bU)(fs:List (Str×D)):List (Str×D):=fs.map λp=>(p.1,flt sm p.2)
noncomputable def look (sm:bU)(fs:List (Str×D)):List (Str×D):=idle (flatF sm fs)
def tK (K:PySem.W.Frag)(C Pt:Addr):Sp:=λvs H Q _=>∃(g a:Addr) (fx:cT) (sm:bU) (os:aQ) (fs:List (Str×D)) (kvs:List (bE×V)),vs=[.ref g,.ref a]/\iV K C fx sm (del H a) g/\H a=some (.dK kvs)/\cF H (kd fs) kvs/\TB fx sm os fs/\LT Pt H /\
 ∀(l:Addr) (kvs':List (bE×V)) (H':Hp),bC Pt H H'->LT Pt H'->H l=none->H' l=some (.dK kvs')->cF H' (kd (look sm fs)) kvs'->Q (.ref l) H'
def MJ (a b:Addr)(H H':Hp):Prop:=∀c o,c≠a->c≠b->H c=some o->H' c=some o
structure UD (P:Program)(w:World)(g a Pt:Addr)(o:Obj)(kvs:List (bE×V))(fs:List (Str×D))(sm:bU)(H:Hp)(i:Nat)(acc:List (bE×V))(σ:St)(H':Hp):Prop where
 st:∃o0 o1:Option V,σ=[o0,o1,some (.ref g)]
 bt:MJ a Pt H H'
 wd:H' a=some (wD P w a o kvs)
 lt:LT Pt H'
 ra:cF H' (kd (flatF sm (fs.take i))) acc
 la:acc.length<=i
theorem LT.butD {Pt a:Addr}{H H':Hp}(h:LT Pt H)(b:bC a H H'){f:List (bE×V)}(e:H a=some (.dK f)):LT Pt H':=by
 rcases h with h|⟨m,d,c,j,i,g,l⟩
 ·exact .inl (b _ _ (λz=>by rw[z,e]at h;cases h) h)
 ·exact .inr ⟨m,d,c,j,b _ _ (λz=>by rw[z,e]at i;cases i) i,b _ _ (λz=>by rw[z,e]at g;cases g) g,l⟩
theorem ID {a:Addr}{b:Obj}{vs:jK}(hd:b.data = .fields vs):∃h:Heap,h.get? a=some b:=by refine⟨⟨Array.replicate (a+1) b,{}⟩,?_⟩;obtain⟨c,d,f,e⟩:=b;cases hd;unfold Heap.get?;simp
theorem LT.butW {P:Program}{w:World}{Pt a:Addr}{o:Obj}{H H':Hp}(h:LT Pt H)(b:bC a H H'){i:List (bE×V)}(e:H a=some (wD P w a o i)):LT Pt H':=by
 rcases h with h|⟨t,f,d,q,l,c,j,s⟩
 ·exact .inl (b _ _ (λz=>by rw[z,e]at h;cases h) h)
 ·refine .inr ⟨t,f,d,q,b _ _ (λz=>by rw[z,e]at l;cases l) l,b _ _ (λz=>?_) c,j,s⟩;rw[z,e]at c;injection c with c;unfold wD at c;injection c with c;obtain⟨r,g⟩:=ID (a:=a) j;obtain⟨v,_,_,_,_,u,x,A,p,_,m,_⟩:=(congrFun c r).mpr g;rw[g]at p;cases p;rw[j]at m;cases m
theorem LT.krep {Pt:Addr}{H H':Hp}(h:LT Pt H)(b:bC Pt H H'){ds:List (bE×D)}{a:List (bE×V)}(r:cF H ds a):cF H' ds a:=Paired.mapP r λ_ _ z=>⟨z.1,h.rep b z.2⟩
theorem E9 {H H':Hp}{a b:Addr}(t:MJ a b H H')(n1:∀xs,H a≠some (.tup xs)/\H a≠some (.lst xs))(n2:∀xs,H b≠some (.tup xs)/\H b≠some (.lst xs)){d:D}{v:V}(r:bD H d v):bD H' d v:=by have f:bD (del H a) d v:=bD.but (p:=a) (H:=H) (λc o n e=>fP e n) (λxs=>(n1 xs).1) (λxs=>(n1 xs).2) r;refine bD.but (p:=b) (H:=del H a) (λc o n e=>?_) (λxs z=>(n2 xs).1 (eC z).1) (λxs z=>(n2 xs).2 (eC z).1) f;obtain⟨h,g⟩:=eC e;exact t c o g n h
theorem uS (sm:bU)(fs:List (Str×D))(x:Str)(d:D):flatF sm (fs++[(x,d)])=flatF sm fs++[(x,flt sm d)]:=ay ..
theorem xI {sm:bU}{fs:List (Str×D)}:∀p∈flatF sm fs,∃q∈fs,q.1=p.1:=λp b=>by obtain⟨q,a,rfl⟩:=cu.mp b;exact⟨q,a,rfl⟩
theorem n6 (sm:bU)(fs:List (Str×D)):(flatF sm fs).map (·.1)=fs.map (·.1):=by unfold flatF;rw[ci];rfl
theorem HD {f C Pt:Addr}{fd:FuncData}(F:fZ K "looked_over" "looked_over" dG f fd)(T:Txt mg)(b:cC P w K mg base bA 5 "check_filling" (tM K C))(I:cC P w K mg base bA 9 "put_in" (yJ K C Pt))(t:cC P w K mg base bA 1 "without_idle" C8):bW P w K mg base bA 10 f fd jZ (tK K C Pt):=by
 refine F.ok tQ (λvs H Q E h=>?_) (λcdv A outer s H vs Q E Y h=>?_)
 ·obtain⟨g,a,fx,sm,os,fs,G,rfl,_⟩:=h;rfl
 ·obtain⟨g,a,fx,sm,os,fs,G,rfl,sg,ha,rep,L,lt,q⟩:=h;have hu:=Y.units
  refine⟨_,(aE (cN (aL b (Y.mono (by decide)) pass0 rfl (aA (pv 0) (aA (pv 1) aB))))
   (aG (aP (aL t (Y.mono (by decide)) pass0 rfl (aA (sO (kW rfl (bF.by (N:=nN) (names:=(aD dG).names) (N':=["wish","term","signs"]) (src:=[none,none,some 0]) (by decide +kernel) rfl rfl) (m8 (pv 1)) (λ_ _ _ _=>(cJ K rfl (i:=0) (j:=1) rfl (show List.Nodup (["wish","term","signs"]:aQ)by decide +kernel) rfl rfl rfl rfl)) (λ_ _ _ _=>eB) (λ_ _ _ _=>(pv 0)) (λ_ _ _ _=>(aL I (Y.mono (by decide)) pass0 rfl (aA (pv 2) (@NJ _ _ _ _ (aA (pv 1) aB))))))) aB))))),?_⟩
  clear Y F T hu b I t;refine⟨_,rfl,_,rfl,g,a,fx,sm,os,fs,G,rfl,sg,ha,rep,L,λH1 s1=>?_⟩;have sg1:=sg.same (kM s1);have J:=s1 _ _ ha;have rep1:=rep.same s1;have U:=lt.same s1;refine⟨_,rfl,a,G,rfl,J,λo=>?_⟩;have nt:∀xs,H1 a≠some (.tup xs)/\H1 a≠some (.lst xs):=λxs=>⟨λz=>(by rw[J]at z;cases z),λz=>(by rw[J]at z;cases z)⟩
  obtain⟨ps,eP⟩:=U.tbl;have nP:∀xs,H1 Pt≠some (.tup xs)/\H1 Pt≠some (.lst xs):=λxs=>⟨λz=>(by rw[eP]at z;cases z),λz=>(by rw[eP]at z;cases z)⟩
  have naP:a≠Pt:=U.ne J λ_=>by simp
  have kl:=qP rep;have l20:=L.ln;refine kP (P:=P) (w:=w) (UD P w g a Pt o G fs sm H1) ⟨⟨_,_,rfl⟩,λc u n _ e=>by rw[aC n];exact e,upd_same,U.butD (bC.upd _ _ _) J,.nil,av _⟩ (λi B σ H' h=>h.wd) ?_ ?_
  ·rintro i k v T0 B σ O hk ⟨⟨o0,o1,rfl⟩,bt,Z,S,ra,la⟩ hT;obtain⟨x,d,hf,rfl,rd⟩:=qQ rep1 hk;have il:=(cm.mp hf).1;have W:S5 fx sm os d:=(L.ok _ (bh hf)).2;have sT:aH O (upd O T0 (.tup [kV (Sum.inr x),v])):=aH.upd hT;have gT:upd O T0 (.tup [kV (Sum.inr x),v]) T0=some (.tup [kV (Sum.inr x),v]):=upd_same;generalize upd O T0 (.tup [kV (Sum.inr x),v])=H3 at sT gT⊢;refine⟨T0,_,rfl,iE.of gT,rfl,_,_,rfl,_,_,rfl,rfl,?_⟩;refine⟨_,rfl,_,rfl,λe he=>?_⟩;have R:=sT.trans (aH.upd (o:=.dK []) he);have g4:upd H3 e (.dK []) e=some (.dK []):=upd_same;generalize upd H3 e (.dK [])=H4 at R g4⊢;have bt4:MJ a Pt H1 H4:=λc u n1 n2 z=>R _ _ (bt c u n1 n2 z);have rd4:bD H4 d v:=E9 bt4 nt nP rd;have sg4:iV K C fx sm H4 g:=by refine((U.butD (λc u n z=>fP z n) J).sg (H':=del H4 a) (λc u n z=>?_) sg1).same (B7 _ _);obtain⟨z1,z2⟩:=eC z;exact fP (bt4 c u z2 n z1) z2
   have tmO:=wH W.so W.ho W.tm;have l50:lvs d<=50:=W.lv;refine⟨_,rfl,e,g,fx,sm,d,v,rfl,g4,sg4,rd4,tmO.1,jB W.so,by have:=tmO.2;omega,W.nd,W.dp,S.same R,λv' H5 b5 lt5 r5=>?_⟩;have new:=sR L.nd hf xI ra;have hs:=uS sm (fs.take i) x d;rw[←aW hf]at hs;refine⟨Sum.inr x,rfl,aj (m:=20) (by omega) (by decide),⟨_,_,rfl⟩,λc u n1 n2 z=>b5 c u n2 (bt4 c u n1 n2 z),b5 _ _ naP (R _ _ Z),lt5,?_,?_⟩
   ·rw[putK_new new,hs,qR];exact kK ((S.same R).krep b5 (ra.same R)) r5
   ·rw[putK_new new,ar,cg];omega
  ·rintro B σ O ⟨⟨o0,o1,rfl⟩,bt,Z,S,ra,la⟩ p hp;rw[kl,br]at ra;have np:a≠p:=aF Z hp;refine⟨_,.inr ⟨a,o,G,by rw[aC np];exact Z,rfl⟩,?_⟩;have hpn:upd (upd O p (.dK B)) a (.dK G) p=some (.dK B):=by rw[aC np.symm];exact upd_same
   have b3:bC Pt H1 (upd (upd O p (.dK B)) a (.dK G)):=λc u n z=>by
    by_cases e:c=a
    ·rw[e,upd_same,←J,←e];exact z
    ·rw[aC e];exact aH.upd hp _ _ (bt c u e n z)
   have X:LT Pt (upd (upd O p (.dK B)) a (.dK G)):=by have l2:=S.same (aH.upd (o:=.dK B) hp);exact l2.butW (bC.upd _ _ _) (by rw[aC np];exact Z)
   have ra3:cF (upd (upd O p (.dK B)) a (.dK G)) (kd (flatF sm fs)) B:=by
    refine cF.but (p:=a) (H:=upd O p (.dK B)) (bC.upd _ _ _) (λxs z=>?_) (λxs z=>?_) (ra.same (aH.upd hp))
    ·rw[aC np,Z]at z;cases z
    ·rw[aC np,Z]at z;cases z
   generalize upd (upd O p (.dK B)) a (.dK G)=H3 at hpn b3 X ra3⊢;refine⟨p,flatF sm fs,B,rfl,hpn,ra3,by rw[n6];exact L.nd,λr Y=>?_,by unfold flatF;rw[ae];exact l20,λl kvs' H4 R hl gl r4=>?_⟩
   ·obtain⟨r',hr',rfl⟩:=cu.mp Y;have:=sU sm r'.2;have:=(L.ok r' hr').2.dp;show depD (flt sm r'.2)<=50;omega
   ·refine q l kvs' H4 (λc u n z=>R _ _ (b3 c u n (s1 _ _ z))) (X.same R) ?_ gl r4;cases z:H l with
    | none=>rfl
    | some u =>
     by_cases e:l=Pt
     ·obtain⟨ps',e'⟩:=X.tbl;rw[e,e']at hl;cases hl
     ·rw[b3 l u e (s1 _ _ z)]at hl;cases hl
end
section
variable {P:Program}{w:World}{K:PySem.W.Frag}{mg:fR}{base:Heap}
noncomputable def nsm (sm:bU):bU:=sm.filter λr=>decide (r.2≠("" : Str))
theorem K4 (sm:bU)(r:Str×Str):nsm (sm++[r])=nsm sm++(if r.2=("" : Str)then []else [r]):=by
 unfold nsm;rw[List.filter_append];congr 1;by_cases e:r.2=("" : Str)
 ·rw[ai e,List.filter_cons_of_neg (by simp[e]),List.filter_nil]
 ·rw[ab e,List.filter_cons_of_pos (by simp[e]),List.filter_nil]
theorem GR {x y:Str}(k:(!eqD (.str x) (.str y))=false):x=y:=by
 have e:eqD (.str x) (.str y)=decide (x=y):=by show(x == y)=_;rw[bS];simp
 rw[e]at k
 simpa using k
theorem OH {ds:List D}(k:eqD (.lst ds) (.lst [])=false):ds≠[]:=λz=>by rw[z,fN]at k;cases k
def C0:Sp:=λvs H Q _=>∃(p t o:Addr) (fx:cT) (sm:bU) (os:aQ) (x:Str),vs=[.ref p,.ref t,.str x]/\oA p t o fx sm os H/\x∈os /\
 ∀(d:D) (v:V) (H':Hp),bC p H H'->aZ H' p->bD (nw H H') d v->bT fx sm os d->lvs d<=7->depD d<=8->Q v H'
def T5 (sm:bU)(H:Hp)(i:Nat)(a:List V)(σ:St)(b:Hp):Prop:=∃c o1:Option V,σ=[c,o1]/\aH H b/\eG b (nsm (sm.take i)) a/\a.length<=i
theorem wO {H:Hp}:∀{a:bU} {hv:List V},eG H a hv->Reps H (a.map λr=>D.tup [.str r.1,.str r.2]) hv
 | [],_,e=>e
 | r::_,_,⟨t,us,e,h,q⟩=>⟨.ref t,us,e,⟨t,_,rfl,h,_,_,rfl,rfl,_,_,rfl,rfl,rfl⟩,wO q⟩
theorem B5:∀a:bU,depDs (a.map λr=>D.tup [.str r.1,.str r.2])<=1
 | []=>av _
 | r::a=>by have b:=B5 a;rw[bc,depDs];show max 1 _<=1;omega
theorem kI {p:Addr}{H H':Hp}(b:bC p H H')(c:H p≠none->H' p≠none){a:Addr}(e:H' a=none):H a=none:=by
 cases z:H a with
 | none=>rfl
 | some u =>
  by_cases n:a=p
  ·exact absurd (n ▸ e) (c (n ▸ z ▸ by simp))
  ·rw[b a u n z]at e;cases e
theorem NZ {f:Addr}{fd:FuncData}(F:fZ K "_law_own" "_law_own" fI f fd)(T:Txt mg)(c:cC P w K mg base bA 1 "_law_take" dB):bW P w K mg base bA 2 f fd oG C0:=by
 refine F.ok jP (λvs H Q E h=>?_) (λcdv A outer s H vs Q E C h=>?_)
 ·obtain⟨p,t,o,fx,sm,os,x,rfl,_⟩:=h;rfl
 ·obtain⟨p,t,o,fx,sm,os,x,rfl,hin,hx,q⟩:=h;have R:=C.units
  refine⟨_,(aE (gE (i:=3) jP.nd rfl rfl rfl rfl (bF.by (N:=vK) (names:=(aD fI).names) (N':=["_law_name","_law_nought"]) (src:=[none,none]) (by decide +kernel) rfl rfl) (dQ K rfl (bQ cU (pv 1) aJ (λ_ _=>rfl))) (λ_ _ _ _=>(cJ K rfl (i:=0) (j:=1) rfl (show List.Nodup (["_law_name","_law_nought"]:aQ)by decide +kernel) rfl rfl rfl rfl)) (λ_ _ _ _=>(iD (aS (fC R) (pv 1) dR (nomark _)))) (λ_ _ _ _=>(fL (aA (pv 0) (aA (pv 1) aB)))))
   (aE (aU (i:=4) jP.nd rfl (Or.inl rfl) (aL c (C.mono (by decide)) pass0 rfl (aA (pv 0) (aA aJ aB))))
   (aE (bN (PW.pt (i9 (aS (d9 R) (pv 3) (bR aB) (nomark _)) (iK (aS (d9 R) (pv 4) aJ (nomark _))))) (aG (aP (pv 2))) aV)
   (aE (tV (bQ cU (pv 3) (aL c (C.mono (by decide)) pass0 rfl (aA (pv 0) (aA (aK bM rfl T.n_len rfl (aA (pv 3) aB)) aB))) (λ_ _=>rfl)) (cJ K rfl (i:=5) (j:=6) rfl jP.nd rfl rfl rfl rfl))
   (aE (bN (aS (d9 R) (pv 4) aJ (nomark _)) (aG (aP (fL (aA (pv 5) (aA (pv 6) (aA (pv 2) aB)))))) aV)
   (aG (aP (bR (aA (pv 5) (aA (pv 2) (aA (bR (aA (pv 5) (aA (pv 6) (aA (pv 6) aB)))) aB))))))))))),?_⟩
  clear C F T R c;obtain⟨hp,⟨a,b,fv,sv,ht,ha,hb,rf,rs,nap,nbp⟩,ol,so,o1,o2⟩:=hin;have s3:=so.s2;simp only[lT];refine⟨_,rfl,.ref b,by rw[ixV_t ht];rfl,b,sv,rfl,.inl hb,λJ hJ=>?_⟩;refine dA hJ (T5 sm H) ⟨_,_,rfl,aH.refl _,rfl,av _⟩ (λi d σ H' _ ⟨_,_,_,s',_⟩=>by rw[hb];exact s' _ _ hb) ?_ ?_
  ·rintro i v d σ H1 hv ⟨o0,o1',rfl,W,ra,la⟩;obtain⟨r,tr,C,rfl,X⟩:=eG.get rs hv;have htr1:=W _ _ X;have il:=(cm.mp C).1;have hs:=K4 (sm.take i) r;rw[←aW C]at hs;refine⟨tr,_,rfl,iE.of htr1,rfl,_,_,rfl,_,_,rfl,rfl,?_⟩;refine⟨_,rfl,.str r.2,.str "",rfl,rfl,av _,_,rfl,gK (λk=>?_) λk=>?_⟩
   ·have e:¬r.2=("" : Str):=λz=>by rw[z]at k;exact absurd k (by decide +kernel)
    rw[ab e]at hs;refine⟨_,rfl,_,rfl,show 2<=sizeLine by decide,λn hn=>⟨aj (m:=3) (by omega) (by decide),_,_,rfl,W.trans (aH.upd hn),?_,by rw[ar,cg];omega⟩⟩;rw[hs];exact eG.snoc upd_same (ra.same (bG.of (aH.upd hn)))
   ·have e:r.2=("" : Str):=GR k;rw[ai e,bj]at hs;exact⟨_,_,rfl,W,by rw[hs];exact ra,by omega⟩
  ·rintro d σ H1 ⟨o0,o1',rfl,W,ra,la⟩ l hl;have lsv:=eG.len rs;rw[lsv,br]at ra;have s2:aH H (upd H1 l (.lst d)):=W.trans (aH.upd hl);have l2:upd H1 l (.lst d) l=some (.lst d):=upd_same;have r2:=ra.same (bG.of (aH.upd (o:=.lst d) hl));have hlH:H l=none:=W.free hl;have la3:d.length<=3:=by omega
   generalize upd H1 l (.lst d)=H2 at s2 l2 r2⊢;clear ra la W hl;have hp2:aZ H2 p:=by obtain⟨O,L,e⟩:=hp;exact⟨O,L,s2 _ _ e⟩
   have nlp:l≠p:=λz=>by obtain⟨O,L,e⟩:=hp;rw[←z,hlH]at e;cases e
   refine⟨_,rfl,p,3,rfl,hp2,by decide,by decide,λway O L w0 w3=>?_⟩;have b3:bC p H (upd H2 p (.lst [.int O,.int L])):=s2.but.trans (bC.upd _ _ _);have p3:aZ (upd H2 p (.lst [.int O,.int L])) p:=⟨_,_,upd_same⟩
   have l3:upd H2 p (.lst [.int O,.int L]) l=some (.lst d):=by rw[aC nlp];exact l2
   have r3:=r2.same (bG.ofBut (bC.upd p H2 (.lst [.int O,.int L])) hp2);generalize upd H2 p (.lst [.int O,.int L])=H3 at b3 p3 l3 r3⊢;have ret:∀g,aH H3 g->Q (.str x) g:=λg B=>q (.str x) (.str x) g (b3.trans B.but) (by obtain⟨U,S,e⟩:=p3;exact⟨U,S,B _ _ e⟩) rfl (by unfold bT;exact .inl hx) (by rw[lvs] <;> simp) (av _);refine⟨_,rfl,av _,λu R=>?_⟩;have B:aH H3 (upd H3 u (.lst [])):=aH.upd R;have u4:upd H3 u (.lst []) u=some (.lst []):=upd_same;have l4:=B _ _ l3;have r4:=r3.same (bG.of B);have p4:aZ (upd H3 u (.lst [])) p:=p3.but (p3.ne R);have b4:=b3.trans (B.but (p:=p));generalize upd H3 u (.lst [])=g at B u4 l4 r4 p4 b4⊢;refine⟨.lst ((nsm sm).map λr=>D.tup [.str r.1,.str r.2]),.lst [],⟨l,d,rfl,l4,wO r4⟩,⟨u,[],rfl,u4,rfl⟩,?_,_,rfl,gK (λk=>⟨_,rfl,ret g B⟩) λk=>?_⟩
   ·have:=B5 (nsm sm);rw[depD];omega
   refine⟨_,rfl,.int way,.int 0,rfl,rfl,av _,_,rfl,gK (λk2=>⟨_,rfl,ret g B⟩) λk2=>?_⟩;have ne0:nsm sm≠[]:=λz=>OH k (by rw[z];rfl);have lacc:d.length=(nsm sm).length:=eG.len r4;have pos:0<d.length:=by rw[lacc];exact List.length_pos_iff.mpr ne0
   clear r3 l3 p3 b3 B;refine⟨_,rfl,_,rfl,_,rfl,_,_,rfl,by show(Option.map _ ((lenV g (.ref l)).bind _))=_;rw[lenV_l l4];rfl,p,d.length,rfl,p4,by omega,by omega,λj U S j0 j1=>?_⟩;have hj:j.toNat<d.length:=by omega
   have b5:bC p H (upd g p (.lst [.int U,.int S])):=b4.trans (bC.upd _ _ _);have Z:aZ (upd g p (.lst [.int U,.int S])) p:=⟨_,_,upd_same⟩
   have l5:upd g p (.lst [.int U,.int S]) l=some (.lst d):=by rw[aC nlp];exact l4
   have r5:=r4.same (bG.ofBut (bC.upd p g (.lst [.int U,.int S])) p4);generalize upd g p (.lst [.int U,.int S])=H5 at b5 Z l5 r5⊢;obtain⟨r,tr,C,er,X⟩:=eG.get r5 (ax hj);refine⟨d[j.toNat],by rw[ixV_l l5,jD j0 j1,ax hj],?_⟩;rw[er];refine⟨tr,_,rfl,iE.of X,rfl,_,_,rfl,_,_,rfl,rfl,?_⟩;have rm:=cy.mp (bh C);have hz:r.2∈zeros fx:=so.nought r rm.1 (bp rm.2);have hn:r.1∈sm.map (·.1):=List.mem_map_of_mem rm.1;have dn:∀{a:Addr},H5 a=none->H a=none:=λ{a} e=>kI b5 (λ_=>by obtain⟨x3,y3,e3⟩:=Z;rw[e3];simp) e;refine⟨_,rfl,.int way,.int 1,rfl,rfl,av _,_,rfl,gK (λk3=>?_) λk3=>?_⟩
   ·refine⟨_,rfl,_,rfl,_,rfl,show 3<=sizeLine by decide,λn Y=>?_⟩;refine q (.tup [.str r.1,.str r.2,.str x]) (.ref n) _ (b5.trans (bC.new Y)) (Z.but (Z.ne Y)) ⟨n,_,rfl,eW.mpr ⟨dn Y,upd_same⟩,_,_,rfl,rfl,_,_,rfl,rfl,_,_,rfl,rfl,rfl⟩ ?_ (by simp[lvs,lvss]) (by simp[depD,depDs]);unfold bT IsTms IsTms IsTms bT;exact⟨.inr ⟨by simp,hn⟩,.inr hz,.inl hx,trivial⟩
   ·refine⟨_,rfl,_,rfl,_,rfl,_,rfl,_,rfl,show 3<=sizeLine by decide,λn1 I=>⟨show 3<=sizeLine by decide,λn2 G=>?_⟩⟩;have e1:upd H5 n1 (.lst [.str r.1,.str r.2,.str r.2]) n1=some (.lst [.str r.1,.str r.2,.str r.2]):=upd_same;have p6:=Z.but (o:=.lst [.str r.1,.str r.2,.str r.2]) (Z.ne I);refine q (.lst [.str r.1,.str x,.lst [.str r.1,.str r.2,.str r.2]]) (.ref n2) _ ((b5.trans (bC.new I)).trans (bC.new G)) (p6.but (p6.ne G)) ⟨n2,_,rfl,eW.mpr ⟨dn (aH.free (aH.upd I) G),upd_same⟩,_,_,rfl,rfl,_,_,rfl,rfl,.ref n1,_,rfl,⟨n1,_,rfl,eW.mpr ⟨dn I,?_⟩,_,_,rfl,rfl,_,_,rfl,rfl,_,_,rfl,rfl,rfl⟩,rfl⟩ ?_ (by simp[lvs,lvss]) (by simp[depD,depDs])
    ·rw[aC (aF e1 G)];exact e1
    ·unfold bT IsTms IsTms IsTms bT IsTms IsTms IsTms bT;exact⟨.inr ⟨by simp,hn⟩,.inl hx,⟨.inr ⟨by simp,hn⟩,.inr hz,.inr hz,trivial⟩,trivial⟩
end
section
variable {P:Program}{w:World}{K:PySem.W.Frag}{mg:fR}{base:Heap}
noncomputable def putF (fs:List (Str×D))(x:Str)(d:D):List (Str×D):=if fs.any (λp=>decide (p.1=x))then fs.map (λp=>if p.1=x then(p.1,d)else p)else fs++[(x,d)]
theorem LA {H:Hp}{x:Str}{d:D}{v:V}(r:bD H d v):∀{fs:List (Str×D)} {f:List (bE×V)},cF H (kd fs) f->cF H (kd (putF fs x d)) (putK f (Sum.inr x) v):=by
 intro fs f h;have j:(f.any λo=>decide (o.1=Sum.inr x))=fs.any (λp=>decide (p.1=x)):=by
  unfold cF kd at h;generalize g:(fs.map λp=>((Sum.inr p.1:bE),p.2))=m at h
  induction h generalizing fs with
  | nil =>
   cases fs with
   | nil=>rfl
   | cons a l=>cases g
  | cons a _ i =>
   cases fs with
   | nil=>cases g
   | cons b l =>
    cases g;rw[List.any_cons,List.any_cons,i rfl,←a.1];congr 1;by_cases e:b.1=x
    ·rw[bg e,bg (show(Sum.inr b.1:bE)=Sum.inr x from congrArg Sum.inr e)]
    ·rw[bi e,bi λz=>e (Sum.inr.inj z)]
 unfold putK putF;rw[j];by_cases c:fs.any (λp=>decide (p.1=x))=true
 ·rw[ai c,ai c];clear j c;unfold cF kd at *;generalize g:(fs.map λp=>((Sum.inr p.1:bE),p.2))=m at h
  induction h generalizing fs with
  | nil =>
   cases fs with
   | nil=>exact .nil
   | cons a l=>cases g
  | @cons p q ps s a _ i =>
   cases fs with
   | nil=>cases g
   | cons b l =>
    cases g;rw[bc,bc,bc];refine .cons ?_ (i rfl);by_cases e:b.1=x
    ·rw[ai e,ai (a.1.symm.trans (congrArg Sum.inr e))];exact⟨a.1,r⟩
    ·rw[ab e,ab (λz=>e (Sum.inr.inj (a.1.trans z)))];exact a
 ·rw[ab c,ab c,qR];exact Paired.snoc h ⟨rfl,r⟩
theorem G2 {fs:List (Str×D)}{x:Str}{d:D}(nd:(fs.map (·.1)).Nodup):((putF fs x d).map (·.1)).Nodup/\(putF fs x d).length<=fs.length+1/\∀p∈putF fs x d,p∈fs∨p=(x,d):=by
 unfold putF;by_cases c:fs.any (λp=>decide (p.1=x))=true
 ·rw[ai c];refine⟨?_,by rw[ae];omega,λp g=>?_⟩
  ·rw[ci];have e:((λx:Str×D=>x.1) ∘ λp=>if p.1=x then(p.1,d)else p)=λp:Str×D=>p.1:=by funext p;show(if p.1=x then(p.1,d)else p).1=p.1;split <;> rfl
   rw[e];exact nd
  ·obtain⟨q,f,rfl⟩:=cu.mp g;by_cases e:q.1=x
   ·rw[ai e,e];exact .inr rfl
   ·rw[ab e];exact .inl f
 ·rw[ab c];refine⟨?_,by rw[ar];exact ac _,λp g=>?_⟩
  ·rw[ay];refine List.nodup_append.mpr ⟨nd,cx.mpr ⟨by simp,List.nodup_nil⟩,λa j b i z=>c ?_⟩;rw[List.map_singleton,cp]at i;obtain⟨q,f,e⟩:=cu.mp j;exact List.any_eq_true.mpr ⟨q,f,bg (by rw[e,z,i])⟩
  ·exact(cs.mp g).imp id λh=>cp.mp h
def rT (a:cT)(sm:bU)(os:aQ)(fs:List (Str×D)):Prop:=∀p∈fs,p.1∈os/\bT a sm os p.2/\lvs p.2<=7/\depD p.2<=8
def qB:Sp:=λvs H Q _=>∃(p t o:Addr) (fx:cT) (sm:bU) (os:aQ),vs=[.ref p,.ref t,.ref o]/\oA p t o fx sm os H /\
 ∀(l:Addr) (fs:List (Str×D)) (kvs:List (bE×V)) (H':Hp),bC p H H'->aZ H' p->H l=none->H' l=some (.dK kvs)->cF (nwB l H H') (kd fs) kvs->(fs.map (·.1)).Nodup->fs.length<=12->rT fx sm os fs->Q (.ref l) H'
def TY (p t o l:Addr)(b:cT)(sm:bU)(os:aQ)(H:Hp)(i:Nat)(σ:St)(a:Hp):Prop:=∃(fs:List (Str×D)) (kvs:List (bE×V)) (o5 o6:Option V),σ=[some (.ref p),some (.ref t),some (.ref o),some (.ref l),o5,o6]/\bC p H a/\aZ a p/\a l=some (.dK kvs)/\cF (nwB l H a) (kd fs) kvs/\(fs.map (·.1)).Nodup/\fs.length<=i/\rT b sm os fs
theorem DS {f:Addr}{fd:FuncData}(F:fZ K "_law_filling" "_law_filling" dM f fd)(T:Txt mg)(b:cC P w K mg base bA 1 "_law_take" dB)(g:cC P w K mg base bA 2 "_law_own" C0)(c:cC P w K mg base bA 12 "_law_term" (nU 8)):bW P w K mg base bA 13 f fd jG qB:=by
 refine F.ok gB (λvs H Q E h=>?_) (λcdv A outer s H vs Q E I h=>?_)
 ·obtain⟨p,t,o,fx,sm,os,rfl,_⟩:=h;rfl
 ·obtain⟨p,t,o,fx,sm,os,rfl,G,q⟩:=h;have hu:=I.units
  refine⟨_,(aE (aU (i:=3) gB.nd rfl (Or.inl rfl) oZ)
   (aE (eV df rfl (dS rfl T.n_range (aA (aL b (I.mono (by decide)) pass0 rfl (aA (pv 0) (aA aJ aB))) aB)) (bO (i:=4) gB.nd rfl (Or.inl rfl)) (aE (aU (i:=5) gB.nd rfl (Or.inl rfl) (bQ cU (pv 2) (aL b (I.mono (by decide)) pass0 rfl (aA (pv 0) (aA (aK bM rfl T.n_len rfl (aA (pv 2) aB)) aB))) (λ_ _=>rfl)))
   (aG (bN (aS (d9 hu) (aL b (I.mono (by decide)) pass0 rfl (aA (pv 0) (aA aJ aB))) aJ (nomark _)) (aG (yX (aj (bx (by decide) _) hu) (pv 3) (pv 5) (aL g (I.mono (by decide)) pass0 rfl (aA (pv 0) (aA (pv 1) (aA (pv 5) aB)))) rfl)) (aG (yX (aj (bx (by decide) _) hu) (pv 3) (pv 5) (aL c (I.mono (by decide)) pass0 rfl (aA (pv 0) (aA (pv 1) (aA (pv 2) (aA (bP bJ aJ (aL b (I.mono (by decide)) pass0 rfl (aA (pv 0) (aA aJ aB)))) (aA aJ aB)))))) rfl))))))
   (aG (aP (pv 3))))),?_⟩
  clear I F T hu b g c;simp only[oM];refine λl hl=>?_;have C:l≠p:=λz=>by obtain⟨x1,y1,e⟩:=G.1;rw[←z,hl]at e;cases e
  have Y:H p≠none:=λz=>by obtain⟨x1,y1,e⟩:=G.1;rw[z]at e;cases e
  have b1:bC p H (upd H l (.dK [])):=bC.new hl;have p1:aZ (upd H l (.dK [])) p:=G.1.but C.symm;have l1:upd H l (.dK []) l=some (.dK []):=upd_same;generalize upd H l (.dK [])=H1 at b1 p1 l1⊢;refine⟨_,rfl,p,9,rfl,p1,by decide,by decide,λR x1 y1 m0 m1=>?_⟩;have b2:bC p H (upd H1 p (.lst [.int x1,.int y1])):=b1.trans (bC.upd _ _ _);have p2:aZ (upd H1 p (.lst [.int x1,.int y1])) p:=⟨_,_,upd_same⟩
  have l2:upd H1 p (.lst [.int x1,.int y1]) l=some (.dK []):=by rw[aC C];exact l1
  generalize upd H1 p (.lst [.int x1,.int y1])=H2 at b2 p2 l2⊢;clear b1 p1 l1;have c2:R<2 ^ 62:=by omega
  refine⟨R,rfl,by omega,c2,?_⟩;refine fM (TY p t o l fx sm os H) ⟨[],[],_,_,rfl,b2,p2,l2,.nil,List.nodup_nil,av _,λr I=>nomatch I⟩ ?_ ?_
  ·rintro i σ O hi ⟨fs,B,o5,o6,rfl,b3,p3,l3,rep,nd,ln,W⟩;clear b2 p2 l2;obtain⟨_,tl3,N,so,os1,os2⟩:=G.but b3 p3;have i12:i<9:=by omega
   refine⟨_,rfl,_,rfl,_,rfl,_,_,rfl,by show(Option.map _ ((lenV O (.ref o)).bind _))=_;rw[lenV_l N.1,ae];rfl,p,os.length,rfl,p3,by omega,by omega,λj x3 y3 j0 j1=>?_⟩;have hj:j.toNat<os.length:=by omega
   have hx:os[j.toNat]∈os:=List.getElem_mem hj;have b4:bC p H (upd O p (.lst [.int x3,.int y3])):=b3.trans (bC.upd _ _ _);have p4:aZ (upd O p (.lst [.int x3,.int y3])) p:=⟨_,_,upd_same⟩
   have l4:upd O p (.lst [.int x3,.int y3]) l=some (.dK B):=by rw[aC C];exact l3
   have o4:upd O p (.lst [.int x3,.int y3]) o=some (.lst (os.map V.str)):=by rw[aC N.2];exact N.1
   have r4:cF (nwB l H (upd O p (.lst [.int x3,.int y3]))) (kd fs) B:=rep.same λa u e=>by obtain⟨⟨J,S⟩,g3⟩:=fS.mp e;exact fS.mpr ⟨⟨J,S⟩,by rw[aC (λz=>Y (by rw[←z];exact J))];exact g3⟩
   generalize upd O p (.lst [.int x3,.int y3])=H4 at b4 p4 l4 o4 r4⊢;clear b3 p3 l3 rep tl3 N;refine⟨.str os[j.toNat],by rw[ixV_l o4,jD j0 (by rw[ae];exact j1),bw,ax hj];rfl,?_⟩;generalize os[j.toNat]=x at hx;refine⟨_,rfl,p,6,rfl,p4,by decide,by decide,λk6 x5 y5 _ _=>?_⟩;have b5:bC p H (upd H4 p (.lst [.int x5,.int y5])):=b4.trans (bC.upd _ _ _);have p5:aZ (upd H4 p (.lst [.int x5,.int y5])) p:=⟨_,_,upd_same⟩
   have l5:upd H4 p (.lst [.int x5,.int y5]) l=some (.dK B):=by rw[aC C];exact l4
   have r5:cF (nwB l H (upd H4 p (.lst [.int x5,.int y5]))) (kd fs) B:=r4.same λa u e=>by obtain⟨⟨J,S⟩,g3⟩:=fS.mp e;exact fS.mpr ⟨⟨J,S⟩,by rw[aC (λz=>Y (by rw[←z];exact J))];exact g3⟩
   generalize upd H4 p (.lst [.int x5,.int y5])=H5 at b5 p5 l5 r5⊢;clear b4 p4 l4 o4 r4;have put:∀(H0:Hp) (d:D) (v:V) (L:Hp),bC p H5 H0->aZ H0 p->(∀a,H0 a=none->H5 a=none)->bC p H0 L->aZ L p->bD (nw H0 L) d v->bT fx sm os d->lvs d<=7->depD d<=8 ->
     TY p t o l fx sm os H (i+1) [some (.ref p),some (.ref t),some (.ref o),some (.ref l),some (.int (0+i)),some (.str x)] (upd L l (.dK (putK B (Sum.inr x) v)))/\B.length<sizeLine/\L l=some (.dK B):=λH0 d v L b0 p0 f0 b6 p6 r6 U X Z=>by
    have l0:=b0 _ _ C l5;have l6:=b6 _ _ C l0;have hn:∀a,H0 a=none->H a=none:=λa e=>kI b5 (λ_=>by obtain⟨x9,y9,e9⟩:=p5;rw[e9];simp) (f0 a e);have s0:aH (nwB l H H5) (nwB l H (upd L l (.dK (putK B (Sum.inr x) v)))):=λa u e=>by obtain⟨⟨J,S⟩,g3⟩:=fS.mp e;have nap:a≠p:=λz=>Y (by rw[←z];exact J);exact fS.mpr ⟨⟨J,S⟩,by rw[aC S];exact b6 a u nap (b0 a u nap g3)⟩
    have rd:bD (nwB l H (upd L l (.dK (putK B (Sum.inr x) v)))) d v:=bD.same (λa u e=>by
     obtain⟨J,S⟩:=eW.mp e;have nal:a≠l:=λz=>by rw[z,l0]at J;cases J
     exact fS.mpr ⟨⟨hn a J,nal⟩,by rw[aC nal];exact S⟩) r6
    obtain⟨k1,k2,k3⟩:=G2 (x:=x) (d:=d) nd;have kl:=qP r5;refine⟨⟨putF fs x d,_,_,_,rfl,u8 ((b5.trans b0).trans b6) hl,p6.but C.symm,upd_same,LA rd (r5.same s0),k1,by omega,λr I=>?_⟩,aj (m:=13) (by omega) (by decide),l6⟩;rcases k3 r I with h|h
    ·exact W r h
    ·rw[h];exact⟨hx,U,X,Z⟩
   refine⟨.int k6,.int 0,rfl,rfl,av _,_,rfl,gK (λk=>?_) λk=>?_⟩
   ·refine⟨_,rfl,_,rfl,_,rfl,p,t,o,fx,sm,os,x,rfl,G.but b5 p5,hx,λd v L b6 p6 r6 U X Z=>?_⟩;obtain⟨z1,z2,z3⟩:=put H5 d v L (bC.refl _ _) p5 (λ_ e=>e) b6 p6 r6 U X Z;exact⟨_,rfl,_,rfl,l,_,rfl,ET.k (k:=Sum.inr x) z3 z2,z1⟩
   ·refine⟨_,rfl,_,rfl,_,rfl,_,rfl,p,7,rfl,p5,by decide,by decide,λm7 x7 y7 m70 m71=>?_⟩;have b7:bC p H5 (upd H5 p (.lst [.int x7,.int y7])):=bC.upd _ _ _;have p7:aZ (upd H5 p (.lst [.int x7,.int y7])) p:=⟨_,_,upd_same⟩
    have f7:∀a,upd H5 p (.lst [.int x7,.int y7]) a=none->H5 a=none:=λa e=>by
     by_cases z:a=p
     ·rw[z,upd_same]at e;cases e
     ·rw[aC z]at e;exact e
    generalize upd H5 p (.lst [.int x7,.int y7])=H7 at b7 p7 f7⊢;have e7:(1:Int)+m7=((1+m7.toNat:Nat):Int):=by omega
    refine .inl ⟨_,rfl,p,t,o,fx,sm,os,1+m7.toNat,8,by rw[←e7];rfl,G.but (b5.trans b7) p7,by omega,by omega,ac _,λd v H8 b8 p8 r8 tm8 lv8 dp8=>?_⟩;obtain⟨z1,z2,z3⟩:=put H7 d v H8 b7 p7 f7 b8 p8 r8 tm8 (by omega) dp8;exact⟨_,rfl,_,rfl,l,_,rfl,ET.k (k:=Sum.inr x) z3 z2,z1⟩
  ·rintro σ O ⟨fs,B,o5,o6,rfl,b3,p3,l3,rep,nd,ln,W⟩;exact⟨_,rfl,q l fs B O b3 p3 hl l3 rep nd (by omega) W⟩
end
section
variable {P:Program}{w:World}{K:PySem.W.Frag}{mg:fR}{base:Heap}
def yN:Sp:=λvs H Q _=>∃p:Addr,vs=[.ref p]/\aZ H p/\∀(o:Addr) (os:aQ) (H':Hp),bC p H H'->aZ H' p->o≠p->H' o=some (.lst (os.map V.str))->1<=os.length->os.length<=12->(∀x∈os,cK x)->Q (.ref o) H'
theorem P8:cK "?1":=⟨[49],by decide +kernel,by decide,by decide,λc hc=>by rw[cp.mp hc];exact .inr ⟨by decide,by decide⟩⟩
theorem P7:cK "?2":=⟨[50],by decide +kernel,by decide,by decide,λc hc=>by rw[cp.mp hc];exact .inr ⟨by decide,by decide⟩⟩
theorem CB {H:Hp}{a b:Addr}{xs ys:aQ}(d:H a=some (.lst (xs.map V.str)))(c:H b=some (.lst (ys.map V.str)))(h:xs.length+ys.length<=sizeLine):catO H (.ref a) (.ref b)=some (.lst ((xs++ys).map V.str)):=by unfold catO;simp only[d,c];rw[ay];exact ai (by rw[ae,ae];exact h)
theorem L6 {xs:List V}{n:Nat}(h:n<=xs.length):cutV xs none (some (n:Int))=xs.take n:=by unfold cutV;rw[HT.sIx_nat,HT.sIx_none,Nat.min_eq_left h,Nat.sub_zero,List.drop_zero]
theorem KR {f:Addr}{fd:FuncData}(F:fZ K "_law_more" "_law_more" fJ f fd)(T:Txt mg)(a:cC P w K mg base bA 2 "_law_wishes" yP)(b:cC P w K mg base bA 1 "_law_take" dB):bW P w K mg base bA 3 f fd mP yN:=by
 refine F.ok oU (λvs H Q E h=>?_) (λcdv A outer s H vs Q E l h=>?_)
 ·obtain⟨p,rfl,_⟩:=h;rfl
 ·obtain⟨p,rfl,hp,q⟩:=h;have hu:=l.units
  refine⟨_,(aE (aU (i:=1) oU.nd rfl (Or.inl rfl) (bP bJ (aL a (l.mono (by decide)) pass0 rfl (aA (pv 0) aB)) (aL a (l.mono (by decide)) pass0 rfl (aA (pv 0) aB))))
   (aG (aP (bP bJ (fX kR (pv 1) gF (fE (bP bJ aJ (aL b (l.mono (by decide)) pass0 rfl (aA (pv 0) (aA aJ aB)))))) (bR (aA dR (aA dR aB))))))),?_⟩
  clear l F T hu b a;refine⟨_,rfl,p,rfl,hp,λo1 xs H1 O b1 p1 h1 l1 w1=>?_⟩;refine⟨_,rfl,p,rfl,p1,λo2 ys H2 no2 X v h2 l2 Z=>?_⟩;have h1':=X _ _ O h1;refine .inr ⟨_,CB h1' h2 (ao (m:=10) (by omega) (by decide)),λj c=>?_⟩;have b3:=(b1.trans X).trans (bC.new (p:=p) (o:=.lst ((xs++ys).map V.str)) c);have p3:=v.but (o:=.lst ((xs++ys).map V.str)) (v.ne c);have W:upd H2 j (.lst ((xs++ys).map V.str)) j=some (.lst ((xs++ys).map V.str)):=upd_same;have N:j≠p:=(v.ne c).symm;have Y:∀x∈xs++ys,cK x:=λx R=>(cs.mp R).elim (w1 x) (Z x);have l3:(xs++ys).length=10:=by rw[ar];omega
  generalize upd H2 j (.lst ((xs++ys).map V.str))=H3 at b3 p3 W⊢;generalize xs++ys=zs at W Y l3;clear b1 X p1 v h1 h1' h2 w1 Z c;refine⟨_,rfl,_,rfl,p,10,rfl,p3,by decide,by decide,λk u t k0 k1=>?_⟩;have b4:bC p H (upd H3 p (.lst [.int u,.int t])):=b3.trans (bC.upd _ _ _);have J:aZ (upd H3 p (.lst [.int u,.int t])) p:=⟨_,_,upd_same⟩
  have C:upd H3 p (.lst [.int u,.int t]) j=some (.lst (zs.map V.str)):=by rw[aC N];exact W
  generalize upd H3 p (.lst [.int u,.int t])=H4 at b4 J C⊢;have e4:(1:Int)+k=((1+k.toNat:Nat):Int):=by omega
  refine .inl ⟨_,rfl,_,rfl,j,_,rfl,.inl C,λ⟨ys',z⟩=>(by rw[C]at z;cases z),λB ob r S=>?_⟩;have eb:ob = .lst ((zs.take (1+k.toNat)).map V.str):=by
   rcases S with⟨z,_⟩|⟨_,z⟩
   ·rw[z,e4,L6 (by rw[ae];omega),List.map_take]
   ·rw[C]at z;cases z
  subst eb;have b5:=b4.trans (bC.new (p:=p) (o:=.lst ((zs.take (1+k.toNat)).map V.str)) r);have I:=J.but (o:=.lst ((zs.take (1+k.toNat)).map V.str)) (J.ne r);have h5:upd H4 B (.lst ((zs.take (1+k.toNat)).map V.str)) B=some (.lst ((zs.take (1+k.toNat)).map V.str)):=upd_same;generalize upd H4 B (.lst ((zs.take (1+k.toNat)).map V.str))=H5 at b5 I h5⊢;refine⟨show 2<=sizeLine by decide,λL g=>?_⟩;have h6:upd H5 L (.lst ([("?1" : Str),"?2"].map V.str)) L=some (.lst ([("?1" : Str),"?2"].map V.str)):=upd_same;have U:upd H5 L (.lst ([("?1" : Str),"?2"].map V.str)) B=some (.lst ((zs.take (1+k.toNat)).map V.str)):=aH.upd g _ _ h5;have b6:=b5.trans (bC.new (p:=p) (o:=.lst ([("?1" : Str),"?2"].map V.str)) g);have G:=I.but (o:=.lst ([("?1" : Str),"?2"].map V.str)) (I.ne g);have lt:(zs.take (1+k.toNat)).length=1+k.toNat:=by rw[bq];omega
  refine .inr ⟨_,CB U h6 (ao (m:=12) (by rw[lt];show 1+k.toNat+2<=12;omega) (by decide)),λo7 d=>?_⟩;refine q o7 _ _ (b6.trans (bC.new d)) (G.but (G.ne d)) (G.ne d).symm upd_same (by rw[ar];show 1<=_+2;omega) (by rw[ar,lt];show 1+k.toNat+2<=12;omega) λx R=>?_;rcases cs.mp R with h|h
  ·exact Y x (List.mem_of_mem_take h)
  ·rcases cr.mp h with e|h
   ·rw[e];exact P8
   ·rw[cp.mp h];exact P7
def sN:Sp:=λvs H Q _=>∃(t a b c:Addr) (sm:bU) (sv:List V) (fs:List (Str×D)) (kvs:List (bE×V)),vs=[.ref t,.ref c]/\H t=some (.tup [.ref a,.ref b])/\H b=some (.lst sv)/\eG H sm sv/\(sm.map (·.1)).Nodup/\(∀r∈sm,r.2=("" : Str)∨Fl (.str r.2))/\sm.length<=3 /\
 H c=some (.dK kvs)/\cF H (kd fs) kvs/\(fs.map (·.1)).Nodup/\fs.length<=20/\(∀p∈fs,Tm p.2/\depD p.2<=11/\sz p.2<=64) /\
 ∀(l:Addr) (kvs':List (bE×V)) (H':Hp),aH H H'->H l=none->H' l=some (.dK kvs')->cF H' (kd (look sm fs)) kvs'->Q (.ref l) H'
structure UE (P:Program)(w:World)(t c l:Addr)(o:Obj)(kvs:List (bE×V))(fs:List (Str×D))(sm:bU)(H:Hp)(i:Nat)(σ:St)(H':Hp):Prop where
 st:∃o3 o4:Option V,σ=[some (.ref t),some (.ref c),some (.ref l),o3,o4]
 bt:MJ c l H H'
 wd:H' c=some (wD P w c o kvs)
 re:∃acc,H' l=some (.dK acc)/\cF H' (kd (idle (flatF sm (fs.take i)))) acc/\acc.length<=i
theorem CS {b:List (bE×V)}{i:Nat}{k:bE}{v:V}(nd:(b.map (·.1)).Nodup)(h:b[i]?=some (k,v)):valV b k=some v:=by
 match b,i,nd,h with
 | [],_,_,h=>simp at h
 | a::l,0,_,h =>
  simp at h;subst h;exact kC rfl
 | a::l,i+1,nd,h =>
  rw[List.getElem?_cons_succ]at h
  replace nd:=cx.mp (bc ▸ nd)
  rw[kD (λz=>nd.1 (by rw[z];exact List.mem_map_of_mem (f:=(·.1)) (bh h)))];exact CS nd.2 h
theorem zJ {α β:Type}{f:α->β}(c:∀x y,f x=f y->x=y):∀{l:List α},l.Nodup->(l.map f).Nodup
 | [],_=>List.nodup_nil
 | a::l,h=>by rw[cx]at h;rw[bc];refine cx.mpr ⟨λz=>?_,zJ c h.2⟩;obtain⟨b,d,e⟩:=cu.mp z;exact h.1 (by rw[←c b a e];exact d)
theorem KS {f:Addr}{fd:FuncData}(F:fZ K "_law_looked" "_law_looked" d8 f fd)(T:Txt mg)(g:cC P w K mg base bA 14 "_law_flat" (qA 11)):bW P w K mg base bA 15 f fd j9 sN:=by
 refine F.ok gY (λvs H Q E h=>?_) (λcdv A outer s H vs Q E hr h=>?_)
 ·obtain⟨t,a,b,c,sm,sv,fs,j,rfl,_⟩:=h;rfl
 ·obtain⟨t,a,b,c,sm,sv,fs,j,rfl,ht,hb,rs,smn,nf,s3,hc,rep,nd,l20,fok,q⟩:=h;have hu:=hr.units
  refine⟨_,(aE (aU (i:=2) gY.nd rfl (Or.inl rfl) oZ)
   (aE (FA (eV df rfl (FB (pv 1)) (bO (i:=3) gY.nd rfl (Or.inl rfl)) (aE (aU (i:=4) gY.nd rfl (Or.inl rfl) (aL g (hr.mono (by decide)) pass0 rfl (aA (pv 0) (aA (A5 (pv 1) (pv 3) (λ_ _=>rfl)) aB))))
   (aG (bN (aS (fC hu) (pv 4) (pv 3) (nomark _)) (aG (yX (aj (bx (by decide) _) hu) (pv 2) (pv 3) (pv 4) rfl)) aV)))))
   (aG (aP (pv 2))))),?_⟩
  clear hr F T hu g;simp only[oM];refine λl O=>?_;have C:c≠l:=aF hc O;have L:aH H (upd H l (.dK [])):=aH.upd O;have X:upd H l (.dK []) l=some (.dK []):=upd_same;generalize upd H l (.dK [])=H1 at L X⊢;have kl:=qP rep;have G:=L _ _ hc;refine⟨_,rfl,c,j,rfl,G,λo=>?_⟩;have knd:(j.map (·.1)).Nodup:=by
   rw[kL rep];unfold kd;rw[ci];have:((λx:bE×D=>x.1) ∘ λp:Str×D=>((Sum.inr p.1:bE),p.2))=λp=>Sum.inr p.1:=rfl;rw[this];have r:fs.map (λp=>(Sum.inr p.1:bE))=(fs.map (·.1)).map Sum.inr:=by rw[ci];rfl
   rw[r];exact zJ (λx y e=>Sum.inr.inj e) nd
  have n1:∀xs,H1 c≠some (.tup xs)/\H1 c≠some (.lst xs):=λxs=>⟨λz=>(by rw[G]at z;cases z),λz=>(by rw[G]at z;cases z)⟩
  have n2:∀xs,H1 l≠some (.tup xs)/\H1 l≠some (.lst xs):=λxs=>⟨λz=>(by rw[X]at z;cases z),λz=>(by rw[X]at z;cases z)⟩
  refine IJ (P:=P) (w:=w) (UE P w t c l o j fs sm H1) ⟨⟨_,_,rfl⟩,λd u n _ e=>by rw[aC n];exact e,upd_same,[],by rw[aC C.symm];exact X,.nil,av _⟩ (λi σ H' h=>h.wd) ?_ ?_
  ·rintro i k v σ Z hk ⟨⟨o3,o4,rfl⟩,bt,J,I,l2,ra,la⟩;obtain⟨x,d,Y,rfl,rd⟩:=qQ rep hk;have il:=(cm.mp Y).1;obtain⟨tmd,d11,s64⟩:Tm d/\depD d<=11/\sz d<=64:=fok _ (bh Y);have up:∀{z:Addr} {u:HO},H z=some u->z≠c->Z z=some u:=λ{z u} e n=>bt z u n (aF e O) (L _ _ e);have rd2:bD Z d v:=E9 bt n1 n2 (bD.same L rd);have ts:bG H Z:=λz xs e=>up e λy=>by rw[y,hc]at e;cases e
   refine⟨_,rfl,_,rfl,_,rfl,c,o,j,Sum.inr x,v,rfl,J,rfl,CS knd hk,?_⟩;refine⟨t,a,b,sm,sv,d,v,rfl,ts _ _ ht,up hb (λy=>by rw[y,hc]at hb;cases hb),rs.same ts,smn,nf,s3,rd2,tmd,d11,by omega,s64,λv' H3 U r4=>?_⟩;have W:=U _ _ l2;have S:MJ c l H1 H3:=λz u R r e=>U _ _ (bt z u R r e);have h3:=U _ _ J;have B:=ra.same U;have N:=qT (flatF sm (fs.take i)) x (flt sm d);rw[←uS,←aW Y]at N;have fd':=sU sm d;refine⟨_,rfl,_,rfl,flt sm d,.str x,r4,rfl,by omega,_,rfl,gK (λkk=>?_) λkk=>?_⟩
   ·have e:eqD (flt sm d) (.str x)=false:=by simpa using kk
    rw[e,ab (by decide)]at N
    have new:=sR nd Y (λp' hp'=>by
     obtain⟨q1,hq1,R⟩:=BW p' hp';obtain⟨q2,hq2,r⟩:=xI q1 hq1
     exact⟨q2,hq2,r.trans R⟩) B
    refine⟨_,rfl,_,rfl,_,rfl,l,_,rfl,ET.k (k:=Sum.inr x) W (aj (m:=20) (by omega) (by decide)),⟨_,_,rfl⟩,λz u R r e=>by rw[aC r];exact S z u R r e,by rw[aC C];exact h3,_,upd_same,?_,?_⟩
    ·rw[putK_new new,N,qR];exact cF.but (p:=l) (bC.upd _ _ _) (λxs z=>by rw[W]at z;cases z) (λxs z=>by rw[W]at z;cases z) (kK B r4)
    ·rw[putK_new new,ar,cg];omega
   ·have e:eqD (flt sm d) (.str x)=true:=by simpa using kk
    rw[e,ai rfl,bj]at N;exact⟨⟨_,_,rfl⟩,S,h3,I,W,by rw[N];exact B,by omega⟩
  ·rintro σ Z ⟨⟨o3,o4,rfl⟩,bt,J,I,l2,ra,la⟩;rw[kl,br]at ra;refine⟨_,.inr ⟨c,o,j,J,rfl⟩,_,rfl,?_⟩;refine q l I _ (λz u e=>?_) O (by rw[aC C.symm];exact l2) ?_
   ·by_cases y:z=c
    ·rw[y,upd_same,←hc,←y];exact e
    ·rw[aC y];exact bt z u y (aF e O) (L _ _ e)
   ·exact cF.but (p:=c) (bC.upd _ _ _) (λxs z=>by rw[J]at z;cases z) (λxs z=>by rw[J]at z;cases z) ra
end
section
variable {P:Program}{w:World}{K:PySem.W.Frag}{mg:fR}{base:Heap}
mutual
theorem JQ {g:cT}{sm:bU}{os:aQ}:∀{d:D},bT g sm os d->nds d<=lvs d * (depD d+1)
 | .str x,_=>by
  have j:lvs (.str x)=1:=by rw[lvs] <;> simp
  have i:nds (.str x)=1:=by unfold nds;rfl
  rw[j,i];omega
 | .tup (.str n::ds),h=>by
  have b:=CY h;unfold bT at h;have f:=x6 h.2;rw[lvs]at b;rw[lvs,nds,depD,depDs];show 1+ndss ds<=lvss ds * (max (depD (D.str n)) (depDs ds)+2);have a:depDs ds<=max (depD (D.str n)) (depDs ds):=Nat.le_max_right _ _;have e:=Nat.mul_le_mul_left (lvss ds) (Nat.add_le_add_right a 2);have c:lvss ds * (depDs ds+2)=lvss ds * (depDs ds+1)+lvss ds:=by rw[show depDs ds+2=(depDs ds+1)+1 from rfl,Nat.mul_succ]
  omega
 | .lst (.str n::ds),h=>by
  have b:=CY h;unfold bT at h;have f:=x6 h.2;rw[lvs]at b;rw[lvs,nds,depD,depDs];show 1+ndss ds<=lvss ds * (max (depD (D.str n)) (depDs ds)+2);have a:depDs ds<=max (depD (D.str n)) (depDs ds):=Nat.le_max_right _ _;have e:=Nat.mul_le_mul_left (lvss ds) (Nat.add_le_add_right a 2);have c:lvss ds * (depDs ds+2)=lvss ds * (depDs ds+1)+lvss ds:=by rw[show depDs ds+2=(depDs ds+1)+1 from rfl,Nat.mul_succ]
  omega
theorem x6 {a:cT}{sm:bU}{os:aQ}:∀{ds:List D},IsTms a sm os ds->ndss ds<=lvss ds * (depDs ds+1)
 | [],_=>by rw[ndss];omega
 | d::ds,h=>by have c:=JQ h.1;have b:=x6 h.2;rw[ndss,lvss,depDs,Nat.add_mul];have f:=Nat.mul_le_mul_left (lvs d) (Nat.add_le_add_right (Nat.le_max_left (depD d) (depDs ds)) 1);have e:=Nat.mul_le_mul_left (lvss ds) (Nat.add_le_add_right (Nat.le_max_right (depD d) (depDs ds)) 1);omega
end
theorem PQ {a:cT}{sm:bU}{os:aQ}{d:D}(tm:bT a sm os d)(l:lvs d<=7)(dp:depD d<=8):nds d<=63:=ao (JQ tm) (Nat.mul_le_mul l (Nat.add_le_add_right dp 1))
theorem SF {a:cT}{sm:bU}{os:aQ}{d:D}(so:cD a sm)(ho:∀x∈os,cK x)(tm:bT a sm os d)(l:lvs d<=7)(dp:depD d<=8):S5 a sm os d :=
 ⟨so,ho,tm,by omega,by have:=PQ tm l dp;omega,by omega⟩
theorem wL {b:cT}{sm:bU}{os:aQ}{fs:List (Str×D)}(so:cD b sm)(ho:∀x∈os,cK x)(nd:(fs.map (·.1)).Nodup)(ln:fs.length<=12)(s:rT b sm os fs):TB b sm os fs :=
 ⟨nd,λp a=>⟨ho _ (s p a).1,SF so ho (s p a).2.1 (s p a).2.2.1 (s p a).2.2.2⟩,by omega⟩
theorem BL {sm:bU}{fs:List (Str×D)}:∀p∈look sm fs,∃q∈fs,p=(q.1,flt sm q.2):=λp b=>by obtain⟨q,a,e⟩:=cu.mp (cy.mp b).1;exact⟨q,a,e.symm⟩
theorem uG {a:cT}{sm:bU}{os:aQ}{fs:List (Str×D)}(so:cD a sm)(ho:∀x∈os,cK x)(s:rT a sm os fs):rT a sm os (look sm fs):=λp d=>by obtain⟨q,c,rfl⟩:=BL p d;obtain⟨e,b,g,f⟩:=s q c;have tf:=LP so ho b;have:=(wH so ho tf).2;have:=(wH so ho b).2;have:=LQ sm q.2;have:=sU sm q.2;exact⟨e,tf,by show lvs (flt sm q.2)<=7;omega,by show depD (flt sm q.2)<=8;omega⟩
theorem HQ {sm:bU}{fs:List (Str×D)}(nd:(fs.map (·.1)).Nodup)(ln:fs.length<=12):((look sm fs).map (·.1)).Nodup/\(look sm fs).length<=12:=by have a:(look sm fs).Sublist (flatF sm fs):=List.filter_sublist;refine⟨?_,ao a.length_le (by unfold flatF;rw[ae];exact ln)⟩;have:=a.map (·.1);rw[n6]at this;exact nd.sublist this
theorem tP {j:cT}{sm:bU}{os:aQ}:∀{fs:List (Str×D)},cD j sm->(∀x∈os,cK x)->rT j sm os fs->SU (kd fs)/\PyData.leavesShortKv 13 (kvPd (kd fs))=true/\PyData.weightKv (kvPd (kd fs))<=2000 * fs.length
 | [],_,_,_=>⟨λp f=>(nomatch f),rfl,av _⟩
 | (x,d)::fs,so,ho,s=>by
  obtain⟨a,b,c⟩:=tP (fs:=fs) so ho λp f=>s p (az _ f);obtain⟨q,i,o,h⟩:=s (x,d) aw;have h4':depD d<=8:=h;obtain⟨t1,m,t3⟩:=x8 so ho i;obtain⟨t,g,l⟩:=x8 so ho (d:=.str x) (by unfold bT;exact .inl q);have n1:nds d<=63:=PQ i o h;have n2:nds (.str x)=1:=by unfold nds;rfl
  have t3':(pdOf d).weight+1<=30 * nds d:=t3;have e:kvPd (kd ((x,d)::fs))=(.str x,pdOf d)::kvPd (kd fs):=rfl;have r:pdOf (.str x) = .str x:=by unfold pdOf;rfl
  rw[r]at g l;refine⟨λp f=>?_,?_,?_⟩
  ·rcases cr.mp f with z|z
   ·subst z;exact⟨⟨x,rfl⟩,t1,by show depD d<=50;omega⟩
   ·exact a p z
  ·rw[e,PyData.leavesShortKv,g,b]
   simpa using m
  ·rw[e,PyData.weightKv,aq];omega
theorem GW {d:cT}{sm:bU}{os:aQ}{fs:List (Str×D)}(so:cD d sm)(ho:∀x∈os,cK x)(s:rT d sm os fs)(ln:fs.length<=12):(fU (kd fs)).length<=sizeLine:=by obtain⟨_,b,c⟩:=tP so ho s;have a:=PyData.shown_le 13 (by decide) (.dict (kvPd (kd fs))) (by rw[PyData.leavesShort];exact b);rw[PyData.shown,PyData.weight]at a;unfold fU;exact ao a (ao (m:=15 * 30000+13) (by omega) (by decide))
structure Ak (K:PySem.W.Frag)(C Pt g c:Addr)(fx:cT)(sm:bU)(fs:List (Str×D))(kvs:List (bE×V))(H:Hp):Prop where
 sg:iV K C fx sm (del H c) g
 hc:H c=some (.dK kvs)
 rep:cF H (kd fs) kvs
 lt:LT Pt H
theorem Ak.but {C Pt g c:Addr}{d:cT}{sm:bU}{fs:List (Str×D)}{a:List (bE×V)}{H H':Hp}(h:Ak K C Pt g c d sm fs a H)(b:bC Pt H H')(l:LT Pt H'):Ak K C Pt g c d sm fs a H':=by
 have n:c≠Pt:=h.lt.ne h.hc λ_=>by simp
 refine⟨(h.lt.butD (λx u n z=>fP z n) h.hc).sg (λx u n z=>?_) h.sg,b _ _ n h.hc,h.lt.krep b h.rep,l⟩;obtain⟨f,e⟩:=eC z;exact fP (b x u n f) e
theorem Ak.same {C Pt g c:Addr}{b:cT}{sm:bU}{fs:List (Str×D)}{a:List (bE×V)}{H H':Hp}(h:Ak K C Pt g c b sm fs a H)(s:aH H H'):Ak K C Pt g c b sm fs a H':=h.but s.but (h.lt.same s)
structure Td (ds:List (bE×D))(l:Addr)(kvs:List (bE×V))(H:Hp):Prop where
 at_:H l=some (.dK kvs)
 rep:cF H ds kvs
theorem Td.but {Pt l:Addr}{ds:List (bE×D)}{a:List (bE×V)}{H H':Hp}(h:Td ds l a H)(lt:LT Pt H)(b:bC Pt H H'):Td ds l a H':=⟨b _ _ (lt.ne h.at_ λ_=>by simp) h.at_,lt.krep b h.rep⟩
theorem Td.same {l:Addr}{ds:List (bE×D)}{a:List (bE×V)}{H H':Hp}(h:Td ds l a H)(s:aH H H'):Td ds l a H':=⟨s _ _ h.at_,h.rep.same s⟩
end
end Lw
namespace L2
open PySem PySem.Spec PyProof.Rows
noncomputable def numT (n:Int):Str:=Str.ofString (toString n)
theorem uA {n:Int}(c:1<=n)(b:n<=100000):n.natAbs.log2<1920/\(numT n).length<=100002:=by
 have a:n.natAbs<=100000:=by omega
 refine⟨(Nat.log2_lt (by omega)).mpr (aj a (bd (m:=2 ^ 17) (by decide) (Nat.pow_le_pow_right (by decide) (by decide)))),?_⟩;have:=len_str_of_int n;unfold numT;omega
theorem qW (x:Str):Str.empty++x=x:=by obtain⟨c⟩:=x;show Str.mk (#[]++c)=_;rw[Array.empty_append]
section
variable {X:Cx}
noncomputable def tFsX (x:Str)(a:TE):TE:=λσ H Q=>a σ H λy b=>∃n:Int,y = .int n/\1<=n/\n<=100000/\Q (.str (x++numT n)) b
theorem QY {x:Str}{v:Expr}{j:Nat}{o p d:Pos}{f:TE}(l:PE X v f)(c:decide (x.length<=1000)=true:=by decide +kernel):PE X (.JoinedStr [.Constant (.str x) j o,.FormattedValue v (-1) none p] d) (tFsX x f):=by
 intro a s σ H Q I h;have big:200000<=sizeLine:=by decide
 have C:x.length<=1000:=bp c;refine JoinedStr_many (joinParts_cons (thn (dR (x:=x) a s σ H (λu e=>u = .str x/\e=H) I ⟨rfl,rfl⟩) ?_));rintro u g ⟨_,e,t,r1,rfl,rfl⟩;obtain⟨t1,rfl⟩:=r1;have rest:wpAny (model X.prog X.w) X.A (joinParts (Str.empty++x) (evalEach [.FormattedValue v (-1) none p] X.env)) (EP X a σ Q) X.xe g:=by
  refine joinParts_cons (FormattedValue_plain (thn (l a g σ e _ t h) ?_));rintro u s2 ⟨_,z,r,i,n,rfl,n1,n2,q⟩;obtain⟨B,rfl⟩:=i;obtain⟨m,E⟩:=uA n1 n2;have b:((Str.empty++x)++numT n).length<=sizeLine:=by rw[strLen_append,qW];omega
  refine formatField_int_small m ⟨b,joinParts_nil ⟨.str (x++numT n),z,r.tok _,by rw[qW];exact⟨_,rfl⟩,q⟩ b⟩
 exact⟨by rw[qW];omega,rest⟩
theorem qZ:cL X (.type "str") (λxs H Q=>∃n:Int,xs=[.int n]/\1<=n/\n<=100000/\Q (.str (numT n)) H):=by rintro a s σ H xs us Q I r ⟨n,rfl,n1,n2,q⟩;obtain⟨u,rfl,b⟩:=r.one;obtain⟨t,rfl⟩:=b;refine str_of_int_fit (N:=100001) (by rw[ab (by omega)];omega) (by decide) λ_=>⟨.str (numT n),H,I.tok _,⟨_,rfl⟩,q⟩
end
def MA (P:Program)(w:World)(K:PySem.W.Frag)(mg:fR)(base:Heap)(CX:AO)(k:Nat)(x:Str)(sp:Sp):Prop :=
 ∃f a ps,sC P w K mg base CX k f a ps sp/\mg x=some (.ref f)/\PySem.W.keepIn K (.ref f)=true/\gA K a ps []
section
variable {X:Cx}{CX:AO}{k:Nat}{sp:Sp}{E:XK}{x:Str}{p pos:Pos}{e:Expr}{es:lR}{t:TA}
theorem FD (O:MA X.prog X.w X.K X.mg X.base CX k x sp)(P:X.A.guards=some [])(v:eX k X.A)(o:jY CX X E)(G:Gl X x)(N:PA X (e::es) t)(i:(x == ("__debug__" : Str))=false:=by decide)
  (J:starEach (e::es) X.env=(false,eval e X.env)::starEach es X.env:=by rfl) (g:(backTo pos (starEach es X.env)).any (·.1)=false:=by rfl):PE X (.Call (.Name x p) (e::es) [] pos) (tCall sp [] E t):=by
 obtain⟨f,S,ps,F,z,C,L⟩:=O;intro a s σ H Q I h;refine wpAny_Call_Name_kw (pE I G z ?_ i);refine PySem.W.callWith_K (h₀:=X.base) I.ok.mod.kin C (thn (N pos a s σ H _ I h) λus d ⟨vs,j,c,r,q⟩=>⟨c.kIn,?_⟩) J g;have B:(us++[]).length=ps.length:=by rw[bj,←r.length,←bj vs];exact F.len _ _ _ _ q
 have m:aY (vs++[]) (us++[]):=r.append .nil;refine wpAny_call (codeAny_mono (F.run X.A X.stack d j ⟨us,[]⟩ (us++[]) (vs++[]) Q E P v c.env0 (L d us c.kIn B) m q) λr l b=>?_);cases r with
 | error e=>exact o a σ j d e l c b
 | ok R =>
  cases R with
  | ret u=>exact c.after b
  | next=>exact False.elim b
  | brk=>exact False.elim b
  | cont=>exact False.elim b
end
end L2
namespace Lw
open PySem L2
section
variable {P:Program}{w:World}{K:PySem.W.Frag}{mg:fR}{base:Heap}
def jM (H:Hp)(v:V)(ss:aQ):Prop:=bD H (.lst (ss.map D.str)) v∨bD H (.tup (ss.map D.str)) v
theorem jM.same {H H':Hp}{v:V}{ss:aQ}(h:jM H v ss)(s:aH H H'):jM H' v ss:=h.imp (bD.same s) (bD.same s)
theorem jM.but {H H':Hp}{p:Addr}{v:V}{ss:aQ}(h:jM H v ss)(b:bC p H H')(n1:∀xs,H p≠some (.tup xs))(n2:∀xs,H p≠some (.lst xs)):jM H' v ss:=h.imp (bD.but b n1 n2) (bD.but b n1 n2)
theorem iU {x:Str}:∀{ss:aQ},inD (.str x) (ss.map D.str)=decide (x∈ss)
 | []=>rfl
 | y::ss=>by
  have e:eqD (.str y) (.str x)=decide (y=x):=by show(y == x)=_;rw[bS];simp
  have a:=iU (x:=x) (ss:=ss);unfold inD at *;rw[bc,List.any_cons,e,a];by_cases z:y=x
  ·subst z;simp
  ·rw[bi z,Bool.false_or];have:(x∈y::ss) ↔ x∈ss:=by simp[Ne.symm z]
   simp[this]
theorem dep_strs (ss:aQ):depDs (ss.map D.str)<=60:=by
 induction ss with
 | nil=>exact av _
 | cons a l b =>
  rw[bc,depDs];show max 0 _<=60;omega
noncomputable def keepF (ss:aQ)(fs:List (Str×D)):List (Str×D):=fs.filter λp=>decide (p.1∈ss)
theorem kZ (ss:aQ)(fs:List (Str×D))(x:Str)(d:D):keepF ss (fs++[(x,d)])=keepF ss fs++(if x∈ss then [(x,d)]else []):=by
 unfold keepF;rw[List.filter_append];congr 1;by_cases e:x∈ss
 ·rw[ai e,List.filter_cons_of_pos (by simpa using e),List.filter_nil]
 ·rw[ab e,List.filter_cons_of_neg (by simpa using e),List.filter_nil]
theorem IA {ss:aQ}{fs:List (Str×D)}:∀p∈keepF ss fs,∃q∈fs,q.1=p.1:=λp a=>⟨p,(cy.mp a).1,rfl⟩
def yO (K:PySem.W.Frag)(C Pt:Addr):Sp:=λvs H Q _=>∃(g a:Addr) (fx:cT) (sm:bU) (os:aQ) (fs:List (Str×D)) (kvs:List (bE×V)) (v:V) (ss:aQ),vs=[.ref g,.ref a,v]/\iV K C fx sm (del H a) g/\H a=some (.dK kvs)/\cF H (kd fs) kvs/\TB fx sm os fs/\LT Pt H/\jM H v ss /\
 ∀(l:Addr) (kvs':List (bE×V)) (H':Hp),bC Pt H H'->LT Pt H'->H l=none->H' l=some (.dK kvs')->cF H' (kd (keepF ss (look sm fs))) kvs'->Q (.ref l) H'
def UG (P:Program)(w:World)(a:Addr)(o:Obj)(c:List (bE×V))(fs:List (Str×D))(ss:aQ)(v:V)(H:Hp)(i:Nat)(b:List (bE×V))(σ:St)(H':Hp):Prop:=∃d o1:Option V,σ=[d,o1,some v]/\bC a H H'/\H' a=some (wD P w a o c)/\cF H' (kd (keepF ss (fs.take i))) b/\b.length<=i
theorem N6 {f C Pt:Addr}{fd:FuncData}(F:fZ K "kept" "kept" lZ f fd)(T:Txt mg)(b:cC P w K mg base bA 10 "looked_over" (tK K C Pt)):bW P w K mg base bA 11 f fd EO (yO K C Pt):=by
 refine F.ok E8 (λvs H Q E h=>?_) (λcdv A outer s H vs Q E hr h=>?_)
 ·obtain⟨g,a,fx,sm,os,fs,Y,v,ss,rfl,_⟩:=h;rfl
 ·obtain⟨g,a,fx,sm,os,fs,Y,v,ss,rfl,sg,ha,rep,O,lt,sq,q⟩:=h;have hu:=hr.units
  refine⟨_,(aE (aU (i:=3) E8.nd rfl (Or.inl rfl) (aL b (hr.mono (by decide)) pass0 rfl (aA (pv 0) (aA (pv 1) aB))))
   (aG (aP (sO (kW rfl (bF.by (N:=MC) (names:=(aD lZ).names) (N':=["wish","term","some"]) (src:=[none,none,some 2]) (by decide +kernel) rfl rfl) (m8 (pv 3)) (λ_ _ _ _=>(cJ K rfl (i:=0) (j:=1) rfl (show List.Nodup (["wish","term","some"]:aQ)by decide +kernel) rfl rfl rfl rfl)) (λ_ _ _ _=>(iD (aS (DO hu) (pv 0) (pv 2) (by with_unfolding_all rfl)))) (λ_ _ _ _=>(pv 0)) (λ_ _ _ _=>(pv 1))))))),?_⟩
  clear hr F T hu b;refine⟨_,rfl,_,rfl,g,a,fx,sm,os,fs,Y,rfl,sg,ha,rep,O,lt,λB r J b2 X hl2 G r2=>?_⟩;obtain⟨ps,eP⟩:=lt.tbl;have sq2:jM J v ss:=sq.but b2 (λxs z=>by rw[eP]at z;cases z) (λxs z=>by rw[eP]at z;cases z);have kl:=qP r2;have l20:(look sm fs).length<=20:=ao (ao (List.length_filter_le _ _) (by unfold flatF;rw[ae];exact ac _)) O.ln;have nd2:((look sm fs).map (·.1)).Nodup:=by have U:=(List.filter_sublist (p:=λp:Str×D=>!eqD p.2 (.str p.1)) (l:=flatF sm fs)).map (·.1);rw[n6]at U;exact O.nd.sublist U
  refine⟨_,rfl,B,r,rfl,G,λo=>?_⟩;have nt:∀xs,J B≠some (.tup xs):=λxs z=>by rw[G]at z;cases z
  have nl:∀xs,J B≠some (.lst xs):=λxs z=>by rw[G]at z;cases z
  refine kP (P:=P) (w:=w) (UG P w B o r (look sm fs) ss v J) ⟨_,_,rfl,bC.upd _ _ _,upd_same,.nil,av _⟩ (λi t σ H' ⟨_,_,_,_,e,_⟩=>e) ?_ ?_
  ·rintro i k u T0 t σ R hk ⟨o0,o1,rfl,bt,L,ra,la⟩ hT;obtain⟨x,d,hf,rfl,rd⟩:=qQ r2 hk;have il:=(cm.mp hf).1;have S:aH R (upd R T0 (.tup [kV (Sum.inr x),u])):=aH.upd hT;have gT:upd R T0 (.tup [kV (Sum.inr x),u]) T0=some (.tup [kV (Sum.inr x),u]):=upd_same;generalize upd R T0 (.tup [kV (Sum.inr x),u])=H4 at S gT⊢;refine⟨T0,_,rfl,iE.of gT,rfl,_,_,rfl,_,_,rfl,rfl,?_⟩;have I:bC B J H4:=bt.trans S.but;have rd4:=bD.but I nt nl rd;refine⟨_,rfl,_,rfl,.inl ⟨.str x,ss.map D.str,rfl,sq2.but I nt nl,dep_strs ss,_,rfl,gK (λkk=>?_) λkk=>?_⟩⟩
   ·have e:x∈ss:=by have:inD (.str x) (ss.map D.str)=true:=kk;rw[iU]at this;exact bp this
    have Z:=kZ ss ((look sm fs).take i) x d;rw[←aW hf,ai e]at Z;have new:=sR nd2 hf IA ra;refine⟨_,rfl,_,rfl,Sum.inr x,rfl,aj (m:=20) (by omega) (by decide),_,_,rfl,I,S _ _ L,?_,?_⟩
    ·rw[putK_new new,Z,qR];exact kK (ra.same S) rd4
    ·rw[putK_new new,ar,cg];omega
   ·have e:x∉ss:=by have:inD (.str x) (ss.map D.str)=false:=kk;rw[iU]at this;exact of_decide_eq_false this
    have Z:=kZ ss ((look sm fs).take i) x d;rw[←aW hf,ab e,bj]at Z;exact⟨_,_,rfl,I,S _ _ L,by rw[Z];exact ra.same S,by omega⟩
  ·rintro t σ R ⟨o0,o1,rfl,bt,L,ra,la⟩ p hp;rw[kl,br]at ra;have W:B≠p:=aF L hp;refine⟨_,.inr ⟨B,o,r,by rw[aC W];exact L,rfl⟩,?_⟩;have s1:aH J (upd (upd R p (.dK t)) B (.dK r)):=qJ G (bt.trans (bC.new hp));have hp2:J p=none:=by
    cases z:J p with
    | none=>rfl
    | some u =>
     by_cases e:p=B
     ·exact absurd e.symm W
     ·rw[bt p u e z]at hp;cases hp
   refine q p t _ (λc u n z=>s1 _ _ (b2 c u n z)) (X.same s1) (kI b2 (λ_=>by obtain⟨ps',e'⟩:=X.tbl;rw[e'];simp) hp2) (by rw[aC W.symm];exact upd_same) ?_;refine cF.but (p:=B) (H:=upd R p (.dK t)) (bC.upd _ _ _) (λxs z=>?_) (λxs z=>?_) (ra.same (aH.upd hp))
   ·rw[aC W,L]at z;cases z
   ·rw[aC W,L]at z;cases z
end
noncomputable def wishN (k:Nat):Str:=("?" : Str)++numT ((k:Int)+1)
noncomputable def nums (n:Nat):aQ:=(List.range n).map wishN
theorem OE:(nums 300).Nodup:=by decide +kernel
theorem wS (n:Nat):nums (n+1)=nums n++[wishN n]:=by unfold nums;rw[List.range_succ,ay];rfl
noncomputable def fresh (ss:aQ)(n:Nat):aQ:=(nums n).filter λx=>decide (x∉ss)
theorem n5 (ss:aQ)(n:Nat):fresh ss (n+1)=fresh ss n++(if wishN n∈ss then []else [wishN n]):=by
 unfold fresh;rw[wS,List.filter_append];congr 1;by_cases e:wishN n∈ss
 ·rw[ai e,List.filter_cons_of_neg (by simpa using e),List.filter_nil]
 ·rw[ab e,List.filter_cons_of_pos (by simpa using e),List.filter_nil]
theorem E2 {α:Type}[DecidableEq α]:∀{l m:List α},l.Nodup->(∀x∈l,x∈m)->l.length<=m.length
 | [],_,_,_=>av _
 | a::l,m,nd,h=>by have nd':=cx.mp nd;have c:=E2 (l:=l) (m:=m.erase a) nd'.2 λx b=>(List.mem_erase_of_ne (λz=>nd'.1 (by rw[←z];exact b))).mpr (h x (az _ b));have:=List.length_erase_of_mem (h a aw);have:=List.length_pos_of_mem (h a aw);rw[aq];omega
theorem pJ {α:Type}(p:α->Bool):∀l:List α,(l.filter p).length+(l.filter λx=>!p x).length=l.length
 | []=>rfl
 | a::l=>by
  have b:=pJ p l;cases e:p a with
  | true=>rw[List.filter_cons_of_pos e,List.filter_cons_of_neg (by simp[e]),aq,aq];omega
  | false=>rw[List.filter_cons_of_neg (by simp[e]),List.filter_cons_of_pos (by simp[e]),aq,aq];omega
theorem xG (ss:aQ):300<=(fresh ss 300).length+ss.length:=by
 have h:=pJ (λx=>decide (x∉ss)) (nums 300);have e:(nums 300).length=300:=by unfold nums;rw[ae,List.length_range]
 have k:((nums 300).filter λx=>!decide (x∉ss)).length<=ss.length:=E2 (OE.sublist List.filter_sublist) λx a=>by simpa using (cy.mp a).2
 unfold fresh;omega
theorem IF (ss:aQ){j n:Nat}(h:j<=n):∃r,fresh ss n=fresh ss j++r:=by
 induction n with
 | zero=>exact⟨[],by rw[Nat.le_zero.mp h,bj]⟩
 | succ n a =>
  by_cases e:j=n+1
  ·exact⟨[],by rw[e,bj]⟩
  ·obtain⟨r,b⟩:=a (by omega);exact⟨r++_,by rw[n5,b,cj]⟩
noncomputable def newW (a:Nat)(ss:aQ):aQ:=(fresh ss 300).take a
theorem OF {a j:Nat}{ss:aQ}(h:j<=300)(e:(fresh ss j).length=a):newW a ss=fresh ss j:=by obtain⟨r,b⟩:=IF ss h;unfold newW;rw[b,←e,List.take_left]
section
variable {P:Program}{w:World}{K:PySem.W.Frag}{mg:fR}{base:Heap}
def spNew:Sp:=λvs H Q _=>∃(a:Nat) (v:V) (ss:aQ),vs=[.int a,v]/\jM H v ss/\a<=40/\ss.length<=260/\∀(l:Addr) (H':Hp),aH H H'->H l=none->H' l=some (.lst ((newW a ss).map V.str))->Q (.ref l) H'
def T8 (a:Nat)(v:V)(ss:aQ)(l:Addr)(H:Hp)(σ:St)(b:Hp):Prop:=∃(j:Nat) (o4:Option V),σ=[some (.int a),some v,some (.ref l),some (.int ((j:Int)+1)),o4]/\j<=300/\(fresh ss j).length<=a/\aH H b/\b l=some (.lst ((fresh ss j).map V.str))
noncomputable def wnMu (σ:St)(_:Hp):Nat:=match σ with
 | [_,_,_,some (.int k),_]=>400 - k.toNat
 | _=>0
theorem K3 {n:Int}(b:1<=n)(a:n<=100000):(("?" : Str).length+(numT n).length)<=sizeLine:=ao (bx (uA b a).2 _) (by decide +kernel)
theorem RA {f:Addr}{G:FuncData}(F:fZ K "new_wishes" "new_wishes" eQ f G)(T:Txt mg):bW P w K mg base bA 1 f G lH spNew:=by
 refine F.ok fW (λvs H Q E h=>?_) (λO A outer s H vs Q E C h=>?_)
 ·obtain⟨a,v,ss,rfl,_⟩:=h;rfl
 ·obtain⟨a,v,ss,rfl,sq,J,x,q⟩:=h;have p:=C.units
  refine⟨_,(aE (aU (i:=2) fW.nd rfl (Or.inl rfl) (bR aB))
   (aE (aU (i:=3) fW.nd rfl (Or.inl rfl) aJ)
   (aE (mE df (aS (jA p) (aK bM rfl T.n_len rfl (aA (pv 2) aB)) (pv 0) (nomark _)) (aE (aU (i:=4) fW.nd rfl (Or.inl rfl) (QY (pv 3)))
   (aE (bN (aS (qI p) (pv 4) (pv 1) (by with_unfolding_all rfl)) (aG (cN (iT db de dc eF (pv 2) (aA (pv 4) aB)))) aV)
   (aG (QT (i:=3) fW.nd rfl (Or.inl rfl) aJ RT)))))
   (aG (aP (pv 2)))))),?_⟩
  clear C F T p;refine⟨av _,λl r=>?_⟩;refine JH (T8 a v ss l H) wnMu ⟨0,_,rfl,by omega,av _,aH.upd r,upd_same⟩ ?_;rintro σ I ⟨j,S,rfl,c,L,g,d⟩;have W:=xG ss;refine⟨decide ((fresh ss j).length<a),λR N=>?_,λt=>?_,λt=>?_⟩
  ·refine⟨_,rfl,_,_,rfl,by show(Option.map _ ((lenV I (.ref l)).bind _))=_;rw[lenV_l d,ae];rfl,_,rfl,.inl (.inl ⟨_,_,rfl,rfl,_,rfl,?_⟩)⟩;have e:(decide (((fresh ss j).length:Int)<(a:Int)))=decide ((fresh ss j).length<a):=by rw[bS];simp
   rw[e];exact N
  ·have lt:(fresh ss j).length<a:=bp t;have B:j<300:=by
    rcases Nat.lt_or_ge j 300 with h|h
    ·exact h
    ·have e:j=300:=by omega
     rw[e]at lt;omega
   have fs:=n5 ss j;refine⟨_,rfl,_,rfl,by omega,by omega,?_⟩;have X:("?" : Str)++numT ((j:Int)+1)=wishN j:=rfl;refine⟨_,rfl,_,rfl,.inl ⟨.str (wishN j),ss.map D.str,rfl,sq.same g,dep_strs ss,_,rfl,gK (λo=>?_) λo=>?_⟩⟩
   ·have e:wishN j∉ss:=by
     have:(!inD (.str (wishN j)) (ss.map D.str))=true:=o;rw[iU]at this
     simpa using this
    rw[ab e]at fs;refine⟨_,rfl,tyL d,_,rfl,l,_,_,rfl,rfl,d,aj (m:=40) (by rw[ae];omega) (by decide),_,rfl,_,_,rfl,rfl,⟨j+1,_,rfl,by omega,?_,?_,?_⟩,?_⟩
    ·rw[fs,ar,cg];omega
    ·intro b u z;rw[aC (aF z r)];exact g _ _ z
    ·rw[upd_same,fs,ay];rfl
    ·show 400 - ((j:Int)+1+1).toNat<400 - ((j:Int)+1).toNat;omega
   ·have e:wishN j∈ss:=by
     have:(!inD (.str (wishN j)) (ss.map D.str))=false:=o;rw[iU]at this
     simpa using this
    rw[ai e,bj]at fs;refine⟨_,rfl,_,_,rfl,rfl,⟨j+1,_,rfl,by omega,by rw[fs];exact L,g,by rw[fs];exact d⟩,?_⟩;show 400 - ((j:Int)+1+1).toNat<400 - ((j:Int)+1).toNat;omega
  ·have U:¬(fresh ss j).length<a:=of_decide_eq_false t;refine⟨_,rfl,q l I g r ?_⟩;rw[OF c (by omega)];exact d
def C1:Sp:=λvs H Q _=>∃(a:Nat) (v:V) (ss:aQ),vs=[.int a,v]/\jM H v ss/\a<=40/\ss.length<=260/\∀(l:Addr) (H':Hp),aH H H'->H l=none->H' l=some (.lst ((newW a ss).map V.str))->Q (.ref l) H'
def UC (H:Hp)(i:Nat)(a:List V)(σ:St)(c:Hp):Prop:=∃b:Option V,σ=[b]/\c=H/\a=(nums i).map V.str
def UB (ss:aQ)(v:V)(H:Hp)(i:Nat)(a:List V)(σ:St)(c:Hp):Prop:=∃b:Option V,σ=[b,some v]/\c=H/\a=(fresh ss i).map V.str
theorem K2 {i:Nat}(h:i<300):(nums 300)[i]?=some (wishN i):=by unfold nums;rw[bw,List.getElem?_range h];rfl
theorem pC (n:Nat):(nums n).length=n:=by unfold nums;rw[ae,List.length_range]
theorem SR {n:Int}(b:1<=n)(a:n<=100000):addV (.str "?") (.str (numT n))=some (.str (("?" : Str)++numT n)):=by unfold addV;dsimp only;rw[ai (K3 b a)]
theorem N0 {f:Addr}{W:FuncData}(F:fZ K "_law_new" "_law_new" eS f W)(T:Txt mg):bW P w K mg base bA 1 f W oH C1:=by
 refine F.ok rK (λvs H Q E h=>?_) (λcdv A outer s H vs Q E O h=>?_)
 ·obtain⟨b,v,ss,rfl,_⟩:=h;rfl
 ·obtain⟨b,v,ss,rfl,sq,Y,G,q⟩:=h;have L:=O.units
  refine⟨_,(aE (gE (i:=2) rK.nd rfl rfl rfl rfl (bF.by (N:=oI) (names:=(aD eS).names) (N':=["_law_k"]) (src:=[none]) (by decide +kernel) rfl rfl) (dS rfl T.n_range (aA aJ aB)) (λ_ _ _ _=>(bO (i:=0) (show List.Nodup (["_law_k"]:aQ)by decide +kernel) rfl (Or.inl rfl))) (λ_ _ _ _=>eB) (λ_ _ _ _=>(bP bJ dR (bH qZ rfl T.n_str rfl (aA (bP bJ (pv 0) aJ) aB)))))
   (aG (aP (fX kR (g9 rfl (bF.by (N:=oI) (names:=(aD eS).names) (N':=["_law_wish","_law_beside"]) (src:=[none,some 1]) (by decide +kernel) rfl rfl) (dQ K rfl (pv 2)) (λ_ _ _ _=>(bO (i:=0) (show List.Nodup (["_law_wish","_law_beside"]:aQ)by decide +kernel) rfl (Or.inl rfl))) (λ_ _ _ _=>(iD (aS (qI L) (pv 0) (pv 1) (by with_unfolding_all rfl)))) (λ_ _ _ _=>(pv 0))) gF (fE (pv 0)))))),?_⟩
  clear O F T L;simp only[lT];refine⟨300,rfl,by decide,by decide,?_⟩;refine jT (UC H) ⟨_,rfl,rfl,rfl⟩ ?_ ?_
  ·rintro i a σ c R ⟨r,rfl,rfl,rfl⟩;have e1:(0+(i:Int)+1)=(i:Int)+1:=by omega
   refine⟨_,rfl,.inl ⟨_,rfl,0+(i:Int)+1,rfl,by omega,by omega,?_⟩⟩;rw[e1];refine .inl ⟨_,SR (by omega) (by omega),?_⟩;refine⟨aj (m:=300) (by rw[ae,pC];omega) (by decide),_,rfl,rfl,?_⟩;rw[wS,ay];rfl
  ·rintro a σ c ⟨r,rfl,rfl,ea⟩ l hl;obtain rfl:a=(nums 300).map V.str:=ea;have s2:aH c (upd c l (.lst ((nums 300).map V.str))):=aH.upd hl;have I:upd c l (.lst ((nums 300).map V.str)) l=some (.lst ((nums 300).map V.str)):=upd_same;have U:∀{x:Addr},upd c l (.lst ((nums 300).map V.str)) x=none->c x=none:=λ{x} e=>s2.free e;refine⟨_,rfl,l,_,rfl,.inl I,λJ S=>?_⟩;generalize upd c l (.lst ((nums 300).map V.str))=H2 at s2 I U S⊢;refine dA S (UB ss v H2) ⟨_,rfl,rfl,rfl⟩ (λi a σ H' _ ⟨_,_,e,_⟩=>by rw[e]) ?_ ?_
   ·rintro i x a σ j u ⟨r,rfl,rfl,rfl⟩;have R:i<300:=by have:=(cm.mp u).1;rw[ae,pC]at this;exact this
    rw[bw,K2 R]at u;cases u;have fs:=n5 ss i;refine⟨_,rfl,_,rfl,.inl ⟨.str (wishN i),ss.map D.str,rfl,sq.same s2,dep_strs ss,_,rfl,gK (λt=>?_) λt=>?_⟩⟩
    ·have e:wishN i∉ss:=by
      have:(!inD (.str (wishN i)) (ss.map D.str))=true:=t;rw[iU]at this
      simpa using this
     rw[ab e]at fs;refine⟨_,rfl,aj (m:=300) ?_ (by decide),_,rfl,rfl,?_⟩
     ·rw[ae];unfold fresh;exact ao (List.length_filter_le _ _) (by rw[pC];omega)
     ·rw[fs,ay];rfl
    ·have e:wishN i∈ss:=by
      have:(!inD (.str (wishN i)) (ss.map D.str))=false:=t;rw[iU]at this
      simpa using this
     rw[ai e,bj]at fs;exact⟨_,rfl,rfl,by rw[fs]⟩
   ·rintro a σ j ⟨r,rfl,rfl,rfl⟩ d C;rw[ae,pC];have p:aH j (upd j d (.lst ((fresh ss 300).map V.str))):=aH.upd C;have o:upd j d (.lst ((fresh ss 300).map V.str)) d=some (.lst ((fresh ss 300).map V.str)):=upd_same;generalize upd j d (.lst ((fresh ss 300).map V.str))=H4 at p o⊢;have fl:=xG ss;refine⟨_,rfl,_,rfl,d,_,rfl,.inl o,λ⟨ys,z⟩=>(by rw[o]at z;cases z),λZ X g B=>?_⟩;have eb:X = .lst ((newW b ss).map V.str):=by
     rcases B with⟨z,_⟩|⟨_,z⟩
     ·rw[z,L6 (by rw[ae];omega)];unfold newW;rw[List.map_take]
     ·rw[o]at z;cases z
    subst eb;exact q Z _ (s2.trans (p.trans (aH.upd g))) (U (p.free g)) upd_same
end
section
variable {P:Program}{w:World}{K:PySem.W.Frag}{mg:fR}{base:Heap}
theorem RF {H:Hp}{a:Addr}{xs:List V}(h:H a=some (.lst xs)):(Option.map (λn:Int=>V.int n) ((lenV H (.ref a)).bind λn=>some (n:Int)))=some (.int xs.length):=by rw[lenV_l h];rfl
theorem kE {H:Hp}:∀ss:aQ,Reps H (ss.map D.str) (ss.map V.str)
 | []=>rfl
 | _::ss=>⟨_,_,rfl,rfl,kE ss⟩
def yH:Sp:=λvs H Q _=>∃(p o:Addr) (os:aQ),vs=[.ref p,.ref o]/\aZ H p/\JB p o os H/\1<=os.length/\os.length<=12/\∀(v:V) (ss:aQ) (H':Hp),bC p H H'->aZ H' p->jM (nw H H') v ss->(∀x∈ss,x∈os)->ss.length<=8->Q v H'
def T2 (p o:Addr)(os:aQ)(H:Hp)(i:Nat)(a:List V)(σ:St)(b:Hp):Prop:=∃(c:Option V) (ss:aQ),σ=[c,some (.ref p),some (.ref o)]/\bC p H b/\aZ b p/\a=ss.map V.str/\ss.length=i/\∀x∈ss,x∈os
theorem A4 {K0:PySem.W.Frag}{Q:VK}{σ:St}{a H:Hp}{p l:Addr}{i j:Nat}{ss:aQ}{D0:iJ}(C:σ[i]?=some (some (.ref l)))(I:σ[j]?=some (some (.ref p)))(b:bC p a H)(g:aZ H p)(G:a p≠none)(t:H l=some (.lst (ss.map V.str)))(nl:a l=none)(s:l≠p)
  (q:∀(v:V) (H':Hp),bC p a H'->aZ H' p->jM (nw a H') v ss->Q v H'):tRet (tOp (λx y H Q=>∃v,ixV H x y=some v/\Q v H) (tLst (tCons (tVar i) (tCons (tCB rTupU (tCons (tVar i) tNil)) tNil))) (tCall dB [] E0 (tCons (tVar j) (tCons (tC (V.int 2)) tNil)))) {D0 with rt:=Q} σ H:=by
 refine⟨_,C,_,C,l,_,rfl,.inl t,λtp c hc=>?_⟩;rcases hc with⟨z,_⟩|⟨_,f,rfl⟩
 ·rw[t]at z;cases z
 have h:=g.but (o:=.tup (ss.map V.str)) (g.ne f);refine⟨show 2<=sizeLine by decide,λu e=>⟨_,I,p,2,rfl,h.but (h.ne e),by decide,by decide,λd x y O N=>?_⟩⟩;have s2:aH H (upd (upd H tp (.tup (ss.map V.str))) u (.lst [.ref l,.ref tp])):=(aH.upd f).trans (aH.upd e);have B:upd (upd H tp (.tup (ss.map V.str))) u (.lst [.ref l,.ref tp]) tp=some (.tup (ss.map V.str)):=by rw[aC (aF upd_same e)];exact upd_same
 have A:upd (upd H tp (.tup (ss.map V.str))) u (.lst [.ref l,.ref tp]) u=some (.lst [.ref l,.ref tp]):=upd_same;have m:u≠p:=(h.ne e).symm;have r:tp≠p:=(g.ne f).symm;generalize upd (upd H tp (.tup (ss.map V.str))) u (.lst [.ref l,.ref tp])=c at s2 B A⊢;have E:bC p a (upd c p (.lst [.int x,.int y])):=(b.trans s2.but).trans (bC.upd _ _ _);have F:upd c p (.lst [.int x,.int y]) l=some (.lst (ss.map V.str)):=by rw[aC s];exact s2 _ _ t
 have t3:upd c p (.lst [.int x,.int y]) tp=some (.tup (ss.map V.str)):=by rw[aC r];exact B
 have w:upd c p (.lst [.int x,.int y]) u=some (.lst [.ref l,.ref tp]):=by rw[aC m];exact A
 have nt:a tp=none:=kI b (λ_=>by obtain⟨L,K,J⟩:=g;rw[J];simp) f;have:d=0∨d=1:=by omega
 rcases this with rfl|rfl
 ·exact⟨.ref l,by rw[ixV_l w];rfl,q _ _ E ⟨_,_,upd_same⟩ (.inl ⟨l,_,rfl,eW.mpr ⟨nl,F⟩,kE ss⟩)⟩
 ·exact⟨.ref tp,by rw[ixV_l w];rfl,q _ _ E ⟨_,_,upd_same⟩ (.inr ⟨tp,_,rfl,eW.mpr ⟨nt,t3⟩,kE ss⟩)⟩
theorem KL {f:Addr}{W:FuncData}(F:fZ K "_law_some" "_law_some" eJ f W)(T:Txt mg)(a:cC P w K mg base bA 1 "_law_take" dB):bW P w K mg base bA 2 f W mN yH:=by
 refine F.ok oT (λvs H Q E h=>?_) (λcdv A outer s H vs Q E c h=>?_)
 ·obtain⟨p,o,os,rfl,_⟩:=h;rfl
 ·obtain⟨p,o,os,rfl,R,ol,o1,o2,q⟩:=h;have hu:=c.units
  refine⟨_,(aE (gE (i:=2) oT.nd rfl rfl rfl rfl (bF.by (N:=sA) (names:=(aD eJ).names) (N':=["_law_k","_law_pot_here","_law_own_here"]) (src:=[none,some 0,some 1]) (by decide +kernel) rfl rfl) (dS rfl T.n_range (aA (aL a (c.mono (by decide)) pass0 rfl (aA (pv 0) (aA aJ aB))) aB)) (λ_ _ _ _=>(bO (i:=0) (show List.Nodup (["_law_k","_law_pot_here","_law_own_here"]:aQ)by decide +kernel) rfl (Or.inl rfl))) (λ_ _ _ _=>eB) (λ_ _ _ _=>(bQ cU (pv 2) (aL a (c.mono (by decide)) pass0 rfl (aA (pv 1) (aA (aK bM rfl T.n_len rfl (aA (pv 2) aB)) aB))) (λ_ _=>rfl))))
   (aG (aP (bQ cU (bR (aA (pv 2) (aA (bH dY rfl T.n_tuple rfl (aA (pv 2) aB)) aB))) (aL a (c.mono (by decide)) pass0 rfl (aA (pv 0) (aA aJ aB))) (λ_ _=>rfl))))),?_⟩
  clear c F T hu a;simp only[lT];have G:H p≠none:=λz=>by obtain⟨r,g,e⟩:=R;rw[z]at e;cases e
  refine⟨_,rfl,p,9,rfl,R,by decide,by decide,λm r g m0 m9=>⟨m,rfl,by omega,by omega,?_⟩⟩;have X:bC p H (upd H p (.lst [.int r,.int g])):=bC.upd _ _ _;have O:aZ (upd H p (.lst [.int r,.int g])) p:=⟨_,_,upd_same⟩
  generalize upd H p (.lst [.int r,.int g])=H1 at X O⊢;refine jT (T2 p o os H) ⟨_,[],rfl,X,O,rfl,rfl,λx B=>(nomatch B)⟩ ?_ ?_
  ·rintro i I σ Y hi ⟨o0,ss,rfl,d,b,rfl,ls,C⟩;have U:=d _ _ ol.2 ol.1;refine⟨_,rfl,_,rfl,_,rfl,_,_,rfl,RF U,p,os.length,by rw[ae];rfl,b,by omega,by omega,λj L J j0 j1=>?_⟩;have S:j.toNat<os.length:=by omega
   have h3:upd Y p (.lst [.int L,.int J]) o=some (.lst (os.map V.str)):=by rw[aC ol.2];exact U
   refine⟨.str os[j.toNat],by rw[ixV_l h3,jD j0 (by rw[ae];exact j1),bw,ax S];rfl,?_⟩;refine⟨aj (m:=9) (by rw[ae];omega) (by decide),_,ss++[os[j.toNat]],rfl,d.trans (bC.upd _ _ _),⟨_,_,upd_same⟩,by rw[ay];rfl,by rw[ar,ls];rfl,λx B=>?_⟩;rcases cs.mp B with z|z
   ·exact C x z
   ·rw[cp.mp z];exact List.getElem_mem S
  ·rintro I σ Y ⟨o0,ss,rfl,d,b,rfl,ls,C⟩ l t;have nl:H l=none:=kI d (λ_=>by obtain⟨L,J,e3⟩:=b;rw[e3];simp) t;have u:l≠p:=(b.ne t).symm;exact A4 (K0:=K) (i:=2) (j:=0) (ss:=ss) (D0:={nx:=λ_ H'=>Q .non H',rt:=Q}) rfl rfl (d.trans (bC.new t)) (b.but (b.ne t)) G upd_same nl u λv H' b3 Z sq=>q v ss H' b3 Z sq C (by omega)
end
section
variable {P:Program}{w:World}{K:PySem.W.Frag}{mg:fR}{base:Heap}
def Sh (n:Nat)(x:Str):Prop:=x.cps.size<=n/\(x.cps.toList.all λc=>decide (c<16 ^ 8))=true
theorem DA {a b:Nat}{x y:Str}(h:Sh a x)(k:Sh b y):Sh (a+b) (x++y):=by
 obtain⟨x⟩:=x;obtain⟨y⟩:=y;obtain⟨f,e⟩:=h;obtain⟨d,c⟩:=k;refine⟨?_,?_⟩
 ·show(x++y).size<=_;rw[Array.size_append];exact Nat.add_le_add f d
 ·show((x++y).toList.all _)=true;rw[Array.toList_append,List.all_append,Bool.and_eq_true];exact⟨e,c⟩
theorem QO:((List.range 300).all λk=>decide ((numT ((k:Int)+1)).cps.size<=5) && ((numT ((k:Int)+1)).cps.toList.all λc=>decide (c<16 ^ 8)))=true:=by decide +kernel
theorem JX {n:Int}(b:1<=n)(a:n<=300):Sh 5 (numT n):=by
 have h:=List.all_eq_true.mp QO (n.toNat - 1) (List.mem_range.mpr (by omega));have e:(((n.toNat - 1:Nat):Int)+1)=n:=by omega
 rw[e,Bool.and_eq_true]at h;exact⟨bp h.1,h.2⟩
theorem MV:Sh 1 "?":=⟨by decide +kernel,by decide +kernel⟩
theorem Sh.le {a b:Nat}{x:Str}(h:Sh a x)(k:a<=b):Sh b x:=⟨ao h.1 k,h.2⟩
theorem vC {x y:Str}{a b:Nat}(h:Sh a x)(k:Sh b y)(l:a+b<=100):addV (.str x) (.str y)=some (.str (x++y)):=by unfold addV;dsimp only;exact ai (ao (ao (Nat.add_le_add h.1 k.1) l) (by decide))
def C2:Sp:=λvs H Q _=>∃p:Addr,vs=[.ref p]/\aZ H p/\∀(v:V) (ss:aQ) (H':Hp),bC p H H'->aZ H' p->jM (nw H H') v ss->ss.length<=220->(∀x∈ss,Sh 20 x)->Q v H'
def UA (H:Hp)(i:Nat)(a:List V)(σ:St)(c:Hp):Prop:=∃(b:Option V) (ss:aQ),σ=[b]/\c=H/\a=ss.map V.str/\ss.length=i/\∀x∈ss,Sh 20 x
def T9 (p l:Addr)(n:Nat)(H:Hp)(i:Nat)(σ:St)(a:Hp):Prop:=∃(o2 b:Option V) (ss:aQ),σ=[some (.ref p),some (.ref l),o2,b]/\bC p H a/\aZ a p/\a l=some (.lst (ss.map V.str))/\ss.length=n+i/\∀x∈ss,Sh 20 x
theorem QU {H:Hp}{u:Addr}{k:Int}(h:H u=some (.lst [.str "",.str "",.str "",.str "0",.str "a"]))(b:0<=k)(a:k<5):∃x:Str,ixV H (.ref u) (.int k)=some (.str x)/\Sh 1 x:=by
 have:k=0∨k=1∨k=2∨k=3∨k=4:=by omega
 rcases this with rfl|rfl|rfl|rfl|rfl
 ·exact⟨"",by rw[ixV_l h];rfl,by decide +kernel,by decide +kernel⟩
 ·exact⟨"",by rw[ixV_l h];rfl,by decide +kernel,by decide +kernel⟩
 ·exact⟨"",by rw[ixV_l h];rfl,by decide +kernel,by decide +kernel⟩
 ·exact⟨"0",by rw[ixV_l h];rfl,by decide +kernel,by decide +kernel⟩
 ·exact⟨"a",by rw[ixV_l h];rfl,by decide +kernel,by decide +kernel⟩
theorem BD {K0:PySem.W.Frag}{Q:VK}{g H:Hp}{p l:Addr}{ss:aQ}{D0:iJ}(b:bC p g H)(hp:aZ H p)(U:g p≠none)(hl:H l=some (.lst (ss.map V.str)))(nl:g l=none)(a:l≠p)(ln:ss.length<=199)(sh:∀x∈ss,Sh 20 x){o2 R:Option V}
  (q:∀(v:V) (ss:aQ) (H':Hp),bC p g H'->aZ H' p->jM (nw g H') v ss->ss.length<=220->(∀x∈ss,Sh 20 x)->Q v H') :
  (λD σ H=>iRng1 (tCons (tCall dB [] E0 (tCons (tVar 0) (tCons (tC (V.int 13)) tNil))) tNil) σ H λJ H1=>rH J (gName 2)
   (tSeq (tAsg (tCB (λxs H Q=>∃n:Int,xs=[.int n]/\1<=n/\n<=100000/\Q (.str (numT n)) H) (tCons (tOp rAddF (tC (V.int 1)) (tCall dB [] E0 (tCons (tVar 0) (tCons (tOp (λx y H Q=>∃v,ixV H x y=some v/\Q v H) (tLst (tCons (tC (V.int 4)) (tCons (tC (V.int 60)) tNil))) (tCall dB [] E0 (tCons (tVar 0) (tCons (tC (V.int 2)) tNil)))) tNil)))) tNil)) (gName 3))
    (tDrop (tBM K0 "list" rAppend (tVar 1) (tCons (tOp rAddF (tOp rAddF (tC (V.str (Str.ofString "?"))) (tOp (λx y H Q=>∃v,ixV H x y=some v/\Q v H) (tLst (tCons (tC (V.str (Str.ofString ""))) (tCons (tC (V.str (Str.ofString ""))) (tCons (tC (V.str (Str.ofString ""))) (tCons (tC (V.str (Str.ofString "0"))) (tCons (tC (V.str (Str.ofString "a"))) tNil)))))) (tCall dB [] E0 (tCons (tVar 0) (tCons (tC (V.int 5)) tNil))))) (tVar 3)) tNil))))
   D σ H1)
  {nx:=tRet (tOp (λx y H Q=>∃v,ixV H x y=some v/\Q v H) (tLst (tCons (tVar 1) (tCons (tCB rTupU (tCons (tVar 1) tNil)) tNil))) (tCall dB [] E0 (tCons (tVar 0) (tCons (tC (V.int 2)) tNil)))) {D0 with rt:=Q},rt:=Q} [some (.ref p),some (.ref l),o2,R] H:=by
 refine⟨_,rfl,p,13,rfl,hp,by decide,by decide,λm G C m0 m1=>⟨m,rfl,by omega,by omega,?_⟩⟩;have b1:bC p g (upd H p (.lst [.int G,.int C])):=b.trans (bC.upd _ _ _);have p1:aZ (upd H p (.lst [.int G,.int C])) p:=⟨_,_,upd_same⟩
 have l1:upd H p (.lst [.int G,.int C]) l=some (.lst (ss.map V.str)):=by rw[aC a];exact hl
 generalize upd H p (.lst [.int G,.int C])=H1 at b1 p1 l1⊢;refine fM (T9 p l ss.length g) ⟨_,_,ss,rfl,b1,p1,l1,rfl,sh⟩ ?_ ?_
 ·rintro i σ c hi ⟨o2,R,t,rfl,Z,r,L,lz,sz⟩;have i13:i<13:=by omega
  refine⟨_,rfl,show 2<=sizeLine by decide,λu T=>?_⟩;have s3:aH c (upd c u (.lst [.int 4,.int 60])):=aH.upd T;have u3:upd c u (.lst [.int 4,.int 60]) u=some (.lst [.int 4,.int 60]):=upd_same;have K:aZ (upd c u (.lst [.int 4,.int 60])) p:=r.but (r.ne T);have S:u≠p:=(r.ne T).symm;generalize upd c u (.lst [.int 4,.int 60])=H3 at s3 u3 K⊢;refine⟨_,rfl,p,2,rfl,K,by decide,by decide,λd F A d0 d1=>?_⟩;have P:upd H3 p (.lst [.int F,.int A]) u=some (.lst [.int 4,.int 60]):=by rw[aC S];exact u3
  have b4:bC p c (upd H3 p (.lst [.int F,.int A])):=s3.but.trans (bC.upd _ _ _);have p4:aZ (upd H3 p (.lst [.int F,.int A])) p:=⟨_,_,upd_same⟩
  generalize upd H3 p (.lst [.int F,.int A])=H4 at P b4 p4⊢;obtain⟨B,hB,B0,B1⟩:∃B:Int,ixV H4 (.ref u) (.int d)=some (.int B)/\0<B/\B<=60:=by
   have:d=0∨d=1:=by omega
   rcases this with rfl|rfl
   ·exact⟨4,by rw[ixV_l P];rfl,by decide,by decide⟩
   ·exact⟨60,by rw[ixV_l P];rfl,by decide,by decide⟩
  refine⟨.int B,hB,p,B,rfl,p4,B0,by omega,λk O N k0 k1=>.inl ⟨_,rfl,1+k,rfl,by omega,by omega,?_⟩⟩;have Y:bC p c (upd H4 p (.lst [.int O,.int N])):=b4.trans (bC.upd _ _ _);have I:aZ (upd H4 p (.lst [.int O,.int N])) p:=⟨_,_,upd_same⟩
  generalize upd H4 p (.lst [.int O,.int N])=H5 at Y I⊢;have sn:Sh 5 (numT (1+k)):=JX (by omega) (by omega);have l5:=Y _ _ a L;refine⟨_,rfl,tyL l5,show 5<=sizeLine by decide,λe f=>?_⟩;have s6:aH H5 (upd H5 e (.lst [.str "",.str "",.str "",.str "0",.str "a"])):=aH.upd f;have e6:upd H5 e (.lst [.str "",.str "",.str "",.str "0",.str "a"]) e=some (.lst [.str "",.str "",.str "",.str "0",.str "a"]):=upd_same;have p6:aZ (upd H5 e (.lst [.str "",.str "",.str "",.str "0",.str "a"])) p:=I.but (I.ne f);have s:e≠p:=(I.ne f).symm;generalize upd H5 e (.lst [.str "",.str "",.str "",.str "0",.str "a"])=H6 at s6 e6 p6⊢;refine⟨_,rfl,p,5,rfl,p6,by decide,by decide,λj E w j0 j1=>?_⟩;have e7:upd H6 p (.lst [.int E,.int w]) e=some (.lst [.str "",.str "",.str "",.str "0",.str "a"]):=by rw[aC s];exact e6
  have X:bC p c (upd H6 p (.lst [.int E,.int w])):=(Y.trans s6.but).trans (bC.upd _ _ _);have p7:aZ (upd H6 p (.lst [.int E,.int w])) p:=⟨_,_,upd_same⟩
  generalize upd H6 p (.lst [.int E,.int w])=H7 at e7 X p7⊢;obtain⟨x,hx,sx⟩:=QU e7 j0 j1;have l7:=X _ _ a L;have o:=DA MV sx;have h:=DA o sn;refine⟨.str x,hx,.inl ⟨_,vC MV sx (by decide),_,rfl,.inl ⟨_,vC o sn (by decide),?_⟩⟩⟩;refine⟨l,_,_,rfl,rfl,l7,aj (m:=220) (by rw[ae];omega) (by decide),_,_,t++[("?" : Str)++x++numT (1+k)],rfl,?_,p7.but a.symm,by rw[upd_same,ay];rfl,by rw[ar,lz];rfl,λy hy=>?_⟩
  ·exact u8 (Z.trans X) nl
  ·rcases cs.mp hy with z|z
   ·exact sz y z
   ·rw[cp.mp z];exact h.le (by decide)
 ·rintro σ c ⟨o2,R,t,rfl,Z,r,L,lz,sz⟩;exact A4 (K0:=K0) (i:=1) (j:=0) (ss:=t) (D0:=D0) rfl rfl Z r U L nl a λv H' b3 K sq=>q v t H' b3 K sq (by omega) sz
theorem N1 {f:Addr}{Z:FuncData}(F:fZ K "_law_near" "_law_near" eK f Z)(T:Txt mg)(a:cC P w K mg base bA 1 "_law_take" dB):bW P w K mg base bA 2 f Z mO C2:=by
 refine F.ok gX (λvs H Q E h=>?_) (λcdv A outer s H vs Q E b h=>?_)
 ·obtain⟨p,rfl,_⟩:=h;rfl
 ·obtain⟨p,rfl,u,q⟩:=h;have Y:=b.units
  refine⟨_,(aE (aU (i:=1) gX.nd rfl (Or.inl rfl) (bR aB))
   (aE (bN (aS (d9 Y) (aL a (b.mono (by decide)) pass0 rfl (aA (pv 0) (aA aJ aB))) aJ (nomark _)) (aG (gE (i:=1) gX.nd rfl rfl rfl rfl (bF.by (N:=sB) (names:=(aD eK).names) (N':=["_law_k"]) (src:=[none]) (by decide +kernel) rfl rfl) (dS rfl T.n_range (aA (aL a (b.mono (by decide)) pass0 rfl (aA (pv 0) (aA aJ aB))) aB)) (λ_ _ _ _=>(bO (i:=0) (show List.Nodup (["_law_k"]:aQ)by decide +kernel) rfl (Or.inl rfl))) (λ_ _ _ _=>eB) (λ_ _ _ _=>(bP bJ dR (bH qZ rfl T.n_str rfl (aA (bP bJ (pv 0) aJ) aB)))))) aV)
   (aE (eV df rfl (dS rfl T.n_range (aA (aL a (b.mono (by decide)) pass0 rfl (aA (pv 0) (aA aJ aB))) aB)) (bO (i:=2) gX.nd rfl (Or.inl rfl)) (aE (aU (i:=3) gX.nd rfl (Or.inl rfl) (bH qZ rfl T.n_str rfl (aA (bP bJ aJ (aL a (b.mono (by decide)) pass0 rfl (aA (pv 0) (aA (bQ cU (bR (aA aJ (aA aJ aB))) (aL a (b.mono (by decide)) pass0 rfl (aA (pv 0) (aA aJ aB))) (λ_ _=>rfl)) aB)))) aB)))
   (aG (cN (iT db de dc eF (pv 1) (aA (bP bJ (bP bJ dR (bQ cU (bR (aA dR (aA dR (aA dR (aA dR (aA dR aB)))))) (aL a (b.mono (by decide)) pass0 rfl (aA (pv 0) (aA aJ aB))) (λ_ _=>rfl))) (pv 3)) aB))))))
   (aG (aP (bQ cU (bR (aA (pv 1) (aA (bH dY rfl T.n_tuple rfl (aA (pv 1) aB)) aB))) (aL a (b.mono (by decide)) pass0 rfl (aA (pv 0) (aA aJ aB))) (λ_ _=>rfl))))))),?_⟩
  clear b F T Y a;simp only[lT,oM];have o:H p≠none:=λz=>by obtain⟨x1,y1,e⟩:=u;rw[z]at e;cases e
  refine⟨av _,λl v=>?_⟩;have g:l≠p:=(u.ne v).symm;have b1:bC p H (upd H l (.lst [])):=bC.new v;have U:aZ (upd H l (.lst [])) p:=u.but (u.ne v);have X:upd H l (.lst []) l=some (.lst (([]:aQ).map V.str)):=upd_same;generalize upd H l (.lst [])=H1 at b1 U X⊢;refine⟨_,rfl,p,3,rfl,U,by decide,by decide,λk t r _ _=>?_⟩;have O:bC p H (upd H1 p (.lst [.int t,.int r])):=b1.trans (bC.upd _ _ _);have G:aZ (upd H1 p (.lst [.int t,.int r])) p:=⟨_,_,upd_same⟩
  have W:upd H1 p (.lst [.int t,.int r]) l=some (.lst (([]:aQ).map V.str)):=by rw[aC g];exact X
  generalize upd H1 p (.lst [.int t,.int r])=H2 at O G W⊢;refine⟨.int k,.int 0,rfl,rfl,av _,_,rfl,gK (λkk=>?_) λkk=>?_⟩
  ·refine⟨_,rfl,p,200,rfl,G,by decide,by decide,λm C B m0 m1=>⟨m,rfl,by omega,by omega,?_⟩⟩;have L:bC p H (upd H2 p (.lst [.int C,.int B])):=O.trans (bC.upd _ _ _);have d:aZ (upd H2 p (.lst [.int C,.int B])) p:=⟨_,_,upd_same⟩
   generalize upd H2 p (.lst [.int C,.int B])=H3 at L d⊢;refine jT (UA H3) ⟨_,[],rfl,rfl,rfl,rfl,λx j=>(nomatch j)⟩ ?_ ?_
   ·rintro i R σ H4 hi ⟨o0,ss,rfl,rfl,rfl,ls,J⟩;have S:Sh 5 (numT (0+(i:Int)+1)):=JX (by omega) (by omega);refine⟨_,rfl,.inl ⟨_,rfl,0+(i:Int)+1,rfl,by omega,by omega,.inl ⟨_,vC MV S (by decide),?_⟩⟩⟩;refine⟨aj (m:=200) (by rw[ae];omega) (by decide),_,ss++[("?" : Str)++numT (0+(i:Int)+1)],rfl,rfl,by rw[ay];rfl,by rw[ar,ls];rfl,λx j=>?_⟩;rcases cs.mp j with z|z
    ·exact J x z
    ·rw[cp.mp z];exact(DA MV S).le (by decide)
   ·rintro R σ H4 ⟨o0,ss,rfl,rfl,rfl,ls,J⟩ l4 c;have I:H l4=none:=kI L (λ_=>by obtain⟨x9,y9,e9⟩:=d;rw[e9];simp) c;exact BD (D0:={nx:=λ_ H'=>Q .non H',rt:=Q}) (L.trans (bC.new c)) (d.but (d.ne c)) o upd_same I (d.ne c).symm (by omega) J q
  ·exact BD (D0:={nx:=λ_ H'=>Q .non H',rt:=Q}) O G o W v g (by decide) (λx j=>(nomatch j)) q
end
section
variable {P:Program}{w:World}{K:PySem.W.Frag}{mg:fR}{base:Heap}
theorem qX:∀ss:aQ,depDs (ss.map D.str)=0
 | []=>rfl
 | a::l=>by rw[bc,depDs,qX l];rfl
theorem wJ:∀{ss:aQ},(∀x∈ss,Sh 20 x)->Txs (ss.map D.str)/\PyData.leavesShortAll 13 (pdsOf (ss.map D.str))=true/\PyData.weightAll (pdsOf (ss.map D.str))<=30 * ss.length
 | [],_=>⟨trivial,rfl,av _⟩
 | x::ss,h=>by
  obtain⟨a,b,c⟩:=wJ (ss:=ss) λy d=>h y (az _ d);obtain⟨g,f⟩:=h x aw;have e:pdsOf ((x::ss).map D.str) = .str x::pdsOf (ss.map D.str):=by rw[bc,pdsOf,pdOf]
  refine⟨⟨by unfold Tx;trivial,a⟩,?_,?_⟩
  ·rw[e,PyData.leavesShortAll,b,PyData.leavesShort]
   simpa using f
  ·rw[e,PyData.weightAll,PyData.weight,aq];have:x.length<=20:=g;omega
theorem wM {H:Hp}{v:V}{ss:aQ}(h:jM H v ss)(e:∀x∈ss,Sh 20 x)(ln:ss.length<=220):∃d,(d = .lst (ss.map D.str)∨d = .tup (ss.map D.str))/\bD H d v/\Tx d/\depD d<=50/\(pdOf d).shown.length<=sizeLine:=by
 obtain⟨a,b,c⟩:=wJ e;have dp:=qX ss;rcases h with h|h
 ·refine⟨_,.inl rfl,h,by unfold Tx;exact a,by rw[depD,dp];decide,?_⟩;have k:=PyData.shown_le 13 (by decide) (pdOf (.lst (ss.map D.str))) (by rw[pdOf,PyData.leavesShort];exact b);refine ao k (ao (m:=15 * 30000+13) ?_ (by decide));rw[pdOf,PyData.weight];omega
 ·refine⟨_,.inr rfl,h,by unfold Tx;exact a,by rw[depD,dp];decide,?_⟩;have k:=PyData.shown_le 13 (by decide) (pdOf (.tup (ss.map D.str))) (by rw[pdOf,PyData.leavesShort];exact b);refine ao k (ao (m:=15 * 30000+13) ?_ (by decide));rw[pdOf,PyData.weight];omega
def tN:Sp:=λvs H Q _=>∃(a:Nat) (v:V) (ss:aQ),vs=[.int a,v]/\jM H v ss/\a<=40/\ss.length<=220/\(∀x∈ss,Sh 20 x)/\∀H',aH H H'->Q (.bl true) H'
theorem OO {H:Hp}{q:Addr}{xs:List V}(h:H q=some (.lst xs)):isV H (.ref q) (.ty "list")=some true:=by
 have e:tyN H (.ref q)=some "list":=by unfold tyN;dsimp only;rw[h]
 unfold isV;rw[e];rfl
theorem HG {f:Addr}{Y:FuncData}(F:fZ K "_law_are_new" "_law_are_new" dN f Y)(T:Txt mg)(a:cC P w K mg base bA 1 "new_wishes" spNew)(e:cC P w K mg base bA 1 "_law_new" C1):sC P w K mg base bA 2 f Y jH tN:=by
 refine fZ.okG F gC (λvs H Q E h=>?_) (λcdv A outer s H vs Q E L r h=>?_)
 ·obtain⟨c,v,ss,rfl,_⟩:=h;rfl
 ·obtain⟨c,v,ss,rfl,sq,g,ln,sh,q⟩:=h;have o:=r.units
  refine⟨_,(aE (aU (i:=2) gC.nd rfl (Or.inl rfl) (aK (lC L o) rfl T.n_repr rfl (aA (pv 1) aB)))
   (aE (aU (i:=3) gC.nd rfl (Or.inl rfl) (aL a (r.mono (by decide)) pass0 rfl (aA (pv 0) (aA (pv 1) aB))))
   (aE (aU (i:=4) gC.nd rfl (Or.inl rfl) (aL e (r.mono (by decide)) pass0 rfl (aA (pv 0) (aA (pv 1) aB))))
   (aE (bN (PW.pt (i9 (cR (a0 K rfl (aK aM rfl T.n_isinstance rfl (aA (pv 3) (aA (bV (v:=V.ty "list") rfl T.n_list rfl rfl) aB))) (λ_=>rfl))) (i9 (aS (fC o) (pv 3) (pv 4) (nomark _)) (iK (aS (fC o) (aK (lC L o) rfl T.n_repr rfl (aA (pv 1) aB)) (pv 2) (nomark _)))))) (aG (aP lP)) aV)
   (aE (cN (iT db de dc eF (pv 3) (aA dR aB)))
   (aG (aP (dX (d9 o) (aL a (r.mono (by decide)) pass0 rfl (aA (pv 0) (aA (pv 1) aB))) (pv 4) (nomark _))))))))),?_⟩
  clear r F T o a e L;obtain⟨d,hd,S,O,t,p⟩:=wM sq sh ln;have x:∀{H':Hp} {l:Addr},H' l=some (.lst ((newW c ss).map V.str))->bD H' (.lst ((newW c ss).map D.str)) (.ref l):=λ{H' l} h=>⟨l,_,rfl,h,kE _⟩
  have Z:depD (.lst ((newW c ss).map D.str))<=60:=by rw[depD,qX];decide
  refine⟨_,rfl,d,v,rfl,S,O,t,p,?_⟩;refine⟨_,rfl,_,rfl,c,v,ss,rfl,sq,g,by omega,λB H1 G J X=>?_⟩;refine⟨_,rfl,_,rfl,c,v,ss,rfl,sq.same G,g,by omega,λl2 N s2 I W=>?_⟩;have j:=s2 _ _ X;refine⟨_,rfl,_,_,true,rfl,OO j,true,rfl,?_⟩;refine⟨_,rfl,_,rfl,_,_,x j,x W,Z,_,rfl,gK (λk=>?_) λ_=>?_⟩
  ·rw[fN]at k;cases k
  refine⟨_,rfl,d,v,rfl,bD.same (G.trans s2) S,O,t,p,_,rfl,.str _,.str _,rfl,rfl,av _,_,rfl,gK (λk=>?_) λ_=>?_⟩
  ·rw[fN]at k;cases k
  have lw:(newW c ss).length<=40:=by unfold newW;exact ao (List.length_take_le _ _) g
  refine⟨_,rfl,tyL j,B,_,_,rfl,rfl,j,aj (m:=40) (by rw[ae];exact lw) (by decide),?_⟩;have C:aH H (upd N B (.lst ((newW c ss).map V.str++[.str "?a"]))):=λb u z=>by rw[aC (aF z J)];exact s2 _ _ (G _ _ z)
  have U:upd N B (.lst ((newW c ss).map V.str++[.str "?a"])) l2=some (.lst ((newW c ss).map V.str)):=by rw[aC (aF X I).symm];exact W
  generalize upd N B (.lst ((newW c ss).map V.str++[.str "?a"]))=H3 at C U⊢;refine⟨_,rfl,_,rfl,c,v,ss,rfl,sq.same C,g,by omega,λl4 H4 R hl4 g4=>?_⟩;refine⟨_,rfl,_,_,x g4,x (R _ _ U),Z,?_⟩;rw[fN];exact q _ (C.trans R)
end
section
variable {P:Program}{w:World}{K:PySem.W.Frag}{mg:fR}{base:Heap}
theorem G6 (P0:Program)(w0:World){X:Cx}(f:X.prog=P0)(c:X.w=w0){o i:Expr}{a:Pos}{b ty:TE}(ho:PE X o b)(e:PE X i ty)(d:PB i):PE X (.Subscript o i a) (JT P0 w0 b ty):=by subst f c;exact A5 ho e d
theorem EI {P0:Program}{w0:World}{g:TG}{d:TT}{f:TE}{Q:VK}{σ:St}{H:Hp}{a:Addr}{o:Obj}{c:List (bE×V)}(Pv:Nat->List V->St->Hp->Prop)(l:Pv 0 [] σ H)(h:∀i b σ H,Pv i b σ H->H a=some (wD P0 w0 a o c))
  (j:∀i k v b σ H,c[i]?=some (k,v)->Pv i b σ H->CStep g d f (kV k) b σ H (Pv (i+1))) (hd:∀b σ H,Pv c.length b σ H->∀p,H p=none->Q (.ref p) (upd H p (.lst b))):nR (S8 P0 w0 a o c) g d f Q σ H :=
 mH (n:=c.length) Pv l (λi b σ H lt p=>⟨⟨h i b σ H p,lt⟩,λx H' y=>by
  obtain⟨k,v,e,rfl,rfl⟩:=y
  exact j i k v b σ _ e p⟩) λb σ H p=>⟨⟨h _ b σ H p,ac _⟩,hd b σ H p⟩
theorem wW:∀(more a:List (bE×V)),(more.map (·.1)).Nodup->(∀p∈a,∀q∈more,p.1≠q.1)->iL a more=a++more
 | [],a,_,_=>(bj _).symm
 | m::more,a,nd,h=>by
  rw[bc]at nd;have nd':=cx.mp nd;show iL (putK a m.1 m.2) more=_;rw[putK_new λp b=>h p b m aw,wW more _ nd'.2 λp b q c=>?_,cj]
  ·rfl
  ·rcases cs.mp b with z|z
   ·exact h p z q (az _ c)
   ·rw[cp.mp z];exact λe=>nd'.1 (by show m.1∈_;rw[show m.1=q.1 from e];exact List.mem_map_of_mem (f:=(·.1)) c)
def rA (H:Hp)(a:List V)(ps:List (bE×V)):Prop:=Paired (λ(v:V) (p:bE×V)=>∃tr,v = .ref tr/\H tr=some (.tup [kV p.1,p.2])) a ps
theorem rA.same {H H':Hp}{c:List V}{ps:List (bE×V)}(h:rA H c ps)(s:bG H H'):rA H' c ps:=Paired.mapP h λ_ _ ⟨tr,a,b⟩=>⟨tr,a,s _ _ b⟩
theorem DL {H:Hp}{b:List V}{ps:List (bE×V)}(h:rA H b ps):b.map (prV H)=ps.map (λc=>some (kV c.1,c.2)):=by
 unfold rA at h
 induction h with
 | nil=>rfl
 | cons a _ d =>
  obtain⟨tr,rfl,e⟩:=a;rw[bc,bc,d];congr 1;unfold prV;dsimp only;rw[e]
structure UH (P:Program)(w:World)(l:Addr)(o:Obj)(kvs:List (bE×V))(fs:List (Str×D))(ss:aQ)(v:V)(H:Hp)(i:Nat)(acc:List V)(σ:St)(H':Hp):Prop where
 st:∃o0:Option V,σ=[o0,some v,some (.ref l)]
 bt:bC l H H'
 wd:H' l=some (wD P w l o kvs)
 re:∃ps,rA H' acc ps/\cF H' (kd (keepF ss (fs.take i))) ps
 la:acc.length<=i
theorem LT.seqS {Pt:Addr}{H H':Hp}(h:LT Pt H)(b:bC Pt H H'){v:V}{ss:aQ}(s:jM H v ss):jM H' v ss:=by obtain⟨ps,e⟩:=h.tbl;exact s.but b (λxs z=>by rw[e]at z;cases z) (λxs z=>by rw[e]at z;cases z)
theorem QD {H:Hp}{v:V}{ss:aQ}{Q:VK}(h:jM H v ss)(q:∀(l:Addr) (H':Hp),aH H H'->jM H' (.ref l) ss->Q (.ref l) H'):rTupU [v] H Q:=by
 rcases h with⟨p,vs,rfl,a,r⟩|⟨p,vs,rfl,a,r⟩
 ·refine⟨p,vs,rfl,.inl a,λl H' hc=>?_⟩;rcases hc with⟨z,_⟩|⟨_,b,rfl⟩
  ·rw[a]at z;cases z
  ·exact q l _ (aH.upd b) (.inr ⟨l,vs,rfl,upd_same,Reps.same (aH.upd b) r⟩)
 ·refine⟨p,vs,rfl,.inr a,λl H' hc=>?_⟩;rcases hc with⟨_,rfl,rfl⟩|⟨z,_⟩
  ·exact q _ _ (aH.refl _) (.inr ⟨_,vs,rfl,a,r⟩)
  ·rw[a]at z;cases z
theorem IB (fs:List (Str×D)):keepF [] fs=[]:=by unfold keepF;exact List.filter_eq_nil_iff.mpr λp _=>by simp
def tL (K:PySem.W.Frag)(C Pt:Addr):Sp:=λvs H Q _=>∃(g t c a b:Addr) (fx:cT) (sm:bU) (os:aQ) (sv:List V) (fs:List (Str×D)) (kvs:List (bE×V)) (v:V) (ss:aQ),vs=[.ref g,.ref t,.ref c,v]/\Ak K C Pt g c fx sm fs kvs H /\
 H t=some (.tup [.ref a,.ref b])/\H b=some (.lst sv)/\eG H sm sv/\cD fx sm/\(∀x∈os,cK x)/\(fs.map (·.1)).Nodup/\fs.length<=12/\rT fx sm os fs/\jM H v ss/\ss.length<=220/\(∀x∈ss,Sh 20 x)/\∀H',bC Pt H H'->LT Pt H'->Q (.bl true) H'
theorem HE {f C Pt:Addr}{fd:FuncData}(F:fZ K "_law_is_kept" "_law_is_kept" cQ f fd)(T:Txt mg)(j:cC P w K mg base bA 15 "_law_looked" sN)(r:cC P w K mg base bA 11 "kept" (yO K C Pt)):sC P w K mg base bA 16 f fd jF (tL K C Pt):=by
 refine fZ.okG F eY (λvs H Q E h=>?_) (λcdv A outer s H vs Q E hG hr h=>?_)
 ·obtain⟨g,t,c,a,b,fx,sm,os,sv,fs,J,v,ss,rfl,_⟩:=h;rfl
 ·obtain⟨g,t,c,a,b,fx,sm,os,sv,fs,J,v,ss,rfl,ak,ht,hb,rs,so,ho,nd,ln,Y,sq,lss,shs,q⟩:=h;have U:=hr.units
  refine⟨_,(aE (aU (i:=4) eY.nd rfl (Or.inr rfl) (aL j (hr.mono (by decide)) pass0 rfl (aA (pv 1) (aA (pv 2) aB))))
   (aE (aU (i:=5) eY.nd rfl (Or.inl rfl) (bH (lE rfl) rfl T.n_dict rfl (aA (sO (g9 rfl (bF.by (N:=mW) (names:=(aD cQ).names) (N':=["_law_wish","_law_some_here","_law_known"]) (src:=[none,some 3,some 4]) (by decide +kernel) rfl rfl) (FB (pv 4)) (λ_ _ _ _=>(bO (i:=0) (show List.Nodup (["_law_wish","_law_some_here","_law_known"]:aQ)by decide +kernel) rfl (Or.inl rfl))) (λ_ _ _ _=>(iD (aS (DO U) (pv 0) (pv 1) (by with_unfolding_all rfl)))) (λ_ _ _ _=>(fL (aA (pv 0) (aA (G6 P w rfl rfl (pv 2) (pv 0) (λ_ _=>rfl)) aB)))))) aB)))
   (aE (aU (i:=6) eY.nd rfl (Or.inl rfl) (bR (aA (aK (uY hG U) rfl T.n_repr rfl (aA (pv 2) aB)) (aA (aK (lC hG U) rfl T.n_repr rfl (aA (pv 3) aB)) aB))))
   (aE (aU (i:=7) eY.nd rfl (Or.inl rfl) (aL r (hr.mono (by decide)) pass0 rfl (aA (pv 0) (aA (pv 2) (aA (pv 3) aB)))))
   (aE (bN (PW.pt (i9 (cR (a0 K rfl (aK aM rfl T.n_isinstance rfl (aA (pv 7) (aA (bV (v:=V.ty "dict") rfl T.n_dict rfl rfl) aB))) (λ_=>rfl))) (i9 (aS (zG U) (pv 7) (pv 5) (nomark _)) (iK (aS (fC U) (bR (aA (aK (uY hG U) rfl T.n_repr rfl (aA (pv 2) aB)) (aA (aK (lC hG U) rfl T.n_repr rfl (aA (pv 3) aB)) aB))) (pv 6) (nomark _)))))) (aG (aP lP)) aV)
   (aE (cN (zA PySem.F.plainAttrs_dict PySem.F.slot_dict_clear PySem.F.type_dict_clear HP (pv 7)))
   (aE (bN (aS (zG U) (aL r (hr.mono (by decide)) pass0 rfl (aA (pv 0) (aA (pv 2) (aA (bH dY rfl T.n_tuple rfl (aA (pv 3) aB)) aB)))) (pv 5) (nomark _)) (aG (aP lP)) aV)
   (aG (aP (DK (dX (FF U) (aL r (hr.mono (by decide)) pass0 rfl (aA (pv 0) (aA (pv 2) (aA (pv 3) aB)))) (pv 5) (nomark _)) (y0 (dX (FF U) (aL r (hr.mono (by decide)) pass0 rfl (aA (pv 0) (aA (pv 2) (aA (bR aB) aB)))) oZ (nomark _))))))))))))),?_⟩
  clear hr F T U j r hG;simp only[lT];have smn:(sm.map (·.1)).Nodup:=(List.nodup_append.mp so.nd).2.1;have fil:=wL so ho nd ln Y;have sml2:=uG (fs:=fs) so ho Y;obtain⟨nd2,ln2⟩:=HQ (sm:=sm) nd ln;obtain⟨txk,_,_⟩:=tP so ho Y;have shk:=GW so ho Y ln;have d50:∀d∈kd (keepF ss (look sm fs)),depD d.2<=50:=λd hd=>by obtain⟨p,hp,rfl⟩:=cu.mp hd;have:depD p.2<=8:=(sml2 p (cy.mp hp).1).2.2.2;show depD p.2<=50;omega
  refine⟨_,rfl,_,rfl,t,a,b,c,sm,sv,fs,J,rfl,ht,hb,rs,smn,jB so,so.s2,ak.hc,ak.rep,nd,by omega,λp hp=>?_,λS l H1 s1 hl1 gl1 r1=>?_⟩
  ·obtain⟨_,W,h3,h4⟩:=Y p hp;have z:=wH so ho W;have h3':lvs p.2<=7:=h3;exact⟨z.1,by omega,by have:=z.2;omega⟩
  have ak1:=ak.same s1;have sq1:=sq.same s1;have kl:=qP r1;have knd:(l.map (·.1)).Nodup:=by
   rw[kL r1];unfold kd;rw[ci];have e2:(look sm fs).map ((λx:bE×D=>x.1) ∘ λp:Str×D=>((Sum.inr p.1:bE),p.2))=((look sm fs).map (·.1)).map Sum.inr:=by rw[ci];rfl
   rw[e2];exact zJ (λx y e=>Sum.inr.inj e) nd2
  have nt:∀xs,H1 S≠some (.tup xs):=λxs z=>by rw[gl1]at z;cases z
  have nl:∀xs,H1 S≠some (.lst xs):=λxs z=>by rw[gl1]at z;cases z
  refine⟨_,rfl,S,l,rfl,gl1,λo=>?_⟩;refine EI (P0:=P) (w0:=w) (UH P w S o l (look sm fs) ss v H1) ⟨⟨_,rfl⟩,bC.upd _ _ _,upd_same,⟨[],.nil,.nil⟩,av _⟩ (λi G σ H' h=>h.wd) ?_ ?_
  ·rintro i k u G σ H2 hk ⟨⟨o0,rfl⟩,bt,W,⟨ps,pl,ra⟩,la⟩;obtain⟨x,d,hf,rfl,rd⟩:=qQ r1 hk;have il:=(cm.mp hf).1;have rd2:=bD.but bt nt nl rd;refine⟨_,rfl,_,rfl,.inl ⟨.str x,ss.map D.str,rfl,sq1.but bt nt nl,dep_strs ss,_,rfl,gK (λkk=>?_) λkk=>?_⟩⟩
   ·have e:x∈ss:=by have:inD (.str x) (ss.map D.str)=true:=kk;rw[iU]at this;exact bp this
    have hs:=kZ ss ((look sm fs).take i) x d;rw[←aW hf,ai e]at hs;refine⟨_,rfl,_,rfl,_,rfl,S,o,l,Sum.inr x,u,rfl,W,rfl,CS knd hk,show 2<=sizeLine by decide,λn hn=>⟨aj (m:=20) (by omega) (by decide),⟨_,rfl⟩,bt.trans (bC.new hn),aH.upd hn _ _ W,⟨ps++[(Sum.inr x,u)],?_,?_⟩,by rw[ar,cg];omega⟩⟩
    ·exact Paired.snoc (pl.same (bG.of (aH.upd hn))) ⟨n,rfl,upd_same⟩
    ·rw[hs,qR];exact kK (ra.same (aH.upd hn)) (bD.same (aH.upd hn) rd2)
   ·have e:x∉ss:=by have:inD (.str x) (ss.map D.str)=false:=kk;rw[iU]at this;exact of_decide_eq_false this
    have hs:=kZ ss ((look sm fs).take i) x d;rw[←aW hf,ab e,bj]at hs;exact⟨⟨_,rfl⟩,bt,W,⟨ps,pl,by rw[hs];exact ra⟩,by omega⟩
  ·rintro G σ H2 ⟨⟨o0,rfl⟩,bt,W,⟨ps,pl,ra⟩,la⟩ p hp;rw[kl,br]at ra;have np:S≠p:=aF W hp;refine⟨_,.inr ⟨S,o,l,by rw[aC np];exact W,rfl⟩,?_⟩;have s3:aH H1 (upd (upd H2 p (.lst G)) S (.dK l)):=qJ gl1 (bt.trans (bC.new hp));have g3:upd (upd H2 p (.lst G)) S (.dK l) p=some (.lst G):=by rw[aC np.symm];exact upd_same
   have ts:bG H2 (upd (upd H2 p (.lst G)) S (.dK l)):=λx xs e=>by rw[aC (λz=>by rw[z,W]at e;cases e)];exact aH.upd hp _ _ e
   have pl3:=pl.same ts;have ra3:cF (upd (upd H2 p (.lst G)) S (.dK l)) (kd (keepF ss (look sm fs))) ps:=by
    refine cF.but (p:=S) (H:=upd H2 p (.lst G)) (bC.upd _ _ _) (λxs z=>?_) (λxs z=>?_) (ra.same (aH.upd hp))
    ·rw[aC np,W]at z;cases z
    ·rw[aC np,W]at z;cases z
   generalize upd (upd H2 p (.lst G)) S (.dK l)=H3 at s3 g3 pl3 ra3⊢;have pnd:(ps.map (·.1)).Nodup:=by
    rw[kL ra3];unfold kd;rw[ci];have e2:(keepF ss (look sm fs)).map ((λx:bE×D=>x.1) ∘ λp:Str×D=>((Sum.inr p.1:bE),p.2))=((keepF ss (look sm fs)).map (·.1)).map Sum.inr:=by rw[ci];rfl
    rw[e2];refine zJ (λx y e=>Sum.inr.inj e) (nd2.sublist ?_);exact List.Sublist.map _ List.filter_sublist
   refine⟨p,G,ps,rfl,g3,DL pl3,λd2 hd2=>?_⟩;rw[wW ps [] pnd (λp hp=>(nomatch hp)),List.nil_append];have s4:aH H3 (upd H3 d2 (.dK ps)):=aH.upd hd2;have t2:Td (kd (keepF ss (look sm fs))) d2 ps (upd H3 d2 (.dK ps)):=⟨upd_same,ra3.same s4⟩
   generalize upd H3 d2 (.dK ps)=H4 at s4 t2⊢;have ak4:=(ak1.same s3).same s4;have sq4:=(sq1.same s3).same s4;have b04:bC Pt H H4:=λx u _ z=>s4 _ _ (s3 _ _ (s1 _ _ z));clear pl ra pl3 ra3 ts W bt np hp g3 hd2 s3 s4 pnd;obtain⟨d,hd,rd,tx,dd50,shw⟩:=wM sq4 shs lss;refine⟨_,rfl,c,J,kd fs,rfl,ak4.hc,ak4.rep,txk,shk,_,rfl,d,v,rfl,rd,tx,dd50,shw,show 2<=sizeLine by decide,λhh hhn=>?_⟩;have s5:aH H4 (upd H4 hh (.lst [.str (fU (kd fs)),.str (pdOf d).shown])):=aH.upd hhn;have h5:upd H4 hh (.lst [.str (fU (kd fs)),.str (pdOf d).shown]) hh=some (.lst [.str (fU (kd fs)),.str (pdOf d).shown]):=upd_same;generalize upd H4 hh (.lst [.str (fU (kd fs)),.str (pdOf d).shown])=H5 at s5 h5⊢;have B:=ak4.same s5;have sq5:=sq4.same s5;have t2_5:=t2.same s5;have rd5:=bD.same s5 rd;refine⟨_,rfl,_,rfl,_,rfl,g,c,fx,sm,os,fs,J,v,ss,rfl,B.sg,B.hc,B.rep,fil,B.lt,sq5,λl6 Z H6 b6 lt6 hl6 gl6 r6=>?_⟩;have ak6:=B.but b6 lt6;have t2_6:=t2_5.but B.lt b6;have rd6:=B.lt.rep b6 rd5;have h6:H6 hh=some (.lst [.str (fU (kd fs)),.str (pdOf d).shown]):=b6 _ _ (B.lt.ne h5 λ_=>by simp) h5;refine⟨_,rfl,_,_,true,rfl,LJ gl6,true,rfl,?_⟩;refine⟨_,rfl,_,rfl,l6,d2,Z,ps,_,rfl,rfl,gl6,t2_6.at_,r6,t2_6.rep,d50,_,rfl,?_⟩;refine⟨_,rfl,c,J,kd fs,rfl,ak6.hc,ak6.rep,txk,shk,_,rfl,d,v,rfl,rd6,tx,dd50,shw,show 2<=sizeLine by decide,λh7 h7n=>?_⟩;have s7:aH H6 (upd H6 h7 (.lst [.str (fU (kd fs)),.str (pdOf d).shown])):=aH.upd h7n;have g7:upd H6 h7 (.lst [.str (fU (kd fs)),.str (pdOf d).shown]) h7=some (.lst [.str (fU (kd fs)),.str (pdOf d).shown]):=upd_same;generalize upd H6 h7 (.lst [.str (fU (kd fs)),.str (pdOf d).shown])=H7 at s7 g7⊢;have two:∀{x:Addr},H7 x=some (.lst [.str (fU (kd fs)),.str (pdOf d).shown])->bD H7 (.lst [.str (fU (kd fs)),.str (pdOf d).shown]) (.ref x):=λ{x} e=>⟨x,_,rfl,e,_,_,rfl,rfl,_,_,rfl,rfl,rfl⟩
   refine⟨_,rfl,_,_,two g7,two (s7 _ _ h6),by simp[depD,depDs],_,rfl,gK (λk=>?_) λ_=>?_⟩
   ·rw[fN]at k;cases k
   have gl7:=s7 _ _ gl6;refine⟨_,rfl,.inr (.inr (.inl ⟨rfl,.inl ⟨Z,gl7⟩⟩)),l6,Z,rfl,rfl,gl7,?_⟩;have b58:bC Pt H5 (upd H7 l6 (.dK [])):=λx u n z=>by rw[aC (aF z hl6)];exact s7 _ _ (b6 x u n z)
   have lt8:LT Pt (upd H7 l6 (.dK [])):=(lt6.same s7).butD (bC.upd _ _ _) gl7;generalize upd H7 l6 (.dK [])=H8 at b58 lt8⊢;have ak8:=B.but b58 lt8;have t2_8:=t2_5.but B.lt b58;have sq8:=B.lt.seqS b58 sq5;refine⟨_,rfl,_,rfl,_,rfl,?_⟩;dsimp only[tNil];refine QD sq8 λl9 H9 s9 sq9=>?_;have O:=ak8.same s9;have t2_9:=t2_8.same s9;refine⟨g,c,fx,sm,os,fs,J,.ref l9,ss,rfl,O.sg,O.hc,O.rep,fil,O.lt,sq9,λl10 kvs10 H10 b10 lt10 hl10 gl10 r10=>?_⟩;have I:=O.but b10 lt10;have L:=t2_9.but O.lt b10;have sq10:=O.lt.seqS b10 (sq8.same s9);refine⟨_,rfl,l10,d2,kvs10,ps,_,rfl,rfl,gl10,L.at_,r10,L.rep,d50,_,rfl,?_⟩;refine⟨_,rfl,_,rfl,_,rfl,g,c,fx,sm,os,fs,J,v,ss,rfl,I.sg,I.hc,I.rep,fil,I.lt,sq10,λl11 kvs11 H11 b11 lt11 hl11 gl11 r11=>?_⟩;have ak11:=I.but b11 lt11;have X:=L.but I.lt b11;refine⟨_,rfl,l11,d2,kvs11,ps,_,rfl,rfl,gl11,X.at_,r11,X.rep,d50,true,rfl,?_⟩;refine⟨_,rfl,_,rfl,av _,λu U=>?_⟩;have s12:aH H11 (upd H11 u (.lst [])):=aH.upd U;have g12:upd H11 u (.lst []) u=some (.lst []):=upd_same;generalize upd H11 u (.lst [])=H12 at s12 g12⊢;have R:=ak11.same s12;refine⟨g,c,fx,sm,os,fs,J,.ref u,[],rfl,R.sg,R.hc,R.rep,fil,R.lt,.inl ⟨u,[],rfl,g12,rfl⟩,λl13 kvs13 H13 b13 lt13 hl13 gl13 r13=>?_⟩;rw[IB]at r13;have r13':cF H13 [] kvs13:=r13;cases r13';refine λe he=>⟨l13,e,[],[],[],rfl,rfl,aH.upd he _ _ gl13,upd_same,.nil,.nil,λd hd=>(nomatch hd),?_⟩
   refine q _ (λx u n z=>aH.upd he _ _ (b13 x u n (s12 _ _ (b11 x u n (b10 x u n (s9 _ _ (b58 x u n (s5 _ _ (b04 x u n z)))))))))  (lt13.same (aH.upd he))
end
section
variable {P:Program}{w:World}{K:PySem.W.Frag}{mg:fR}{base:Heap}
structure Bs (K:PySem.W.Frag)(C g t o:Addr)(fx:cT)(sm:bU)(os:aQ)(H:Hp):Prop where
 sg:iV K C fx sm H g
 ex:∃a b fv sv,H t=some (.tup [.ref a,.ref b])/\H a=some (.lst fv)/\H b=some (.lst sv)/\eA H fx fv/\eG H sm sv
 so:cD fx sm
 ol:H o=some (.lst (os.map V.str))
 o1:1<=os.length
 o2:os.length<=12
 ho:∀x∈os,cK x
theorem Bs.lt {C g t o Pt:Addr}{d:cT}{sm:bU}{os:aQ}{H H':Hp}(h:Bs K C g t o d sm os H)(l:LT Pt H)(b:bC Pt H H'):Bs K C g t o d sm os H':=by
 obtain⟨sg,⟨a,s,m,f,r,q,p,j,i⟩,so,ol,o1,o2,ho⟩:=h;have ne:∀{c:Addr} {u:HO},H c=some u->(∀ps,u≠.tbl ps)->H' c=some u:=λ{c u} e n=>b c u (l.ne e n) e;have ts:bG H H':=λc xs e=>ne e λ_=>by simp
 exact⟨l.sg b sg,⟨a,s,m,f,ts _ _ r,ne q λ_=>by simp,ne p λ_=>by simp,j.same ts,i.same ts⟩,so,ne ol λ_=>by simp,o1,o2,ho⟩
theorem MT {H H':Hp}{a p:Addr}{xs:List V}(h:fQ K H a xs)(b:bC p H H')(n:∀o,H p≠some (.frz o (.lst xs)))(n2:H p≠some (.lst xs)):fQ K H' a xs:=by
 rcases h with(h|⟨o,h⟩)|h
 ·exact .inl (.inl (b _ _ (λz=>n2 (z ▸ h)) h))
 ·exact .inl (.inr ⟨o,b _ _ (λz=>n o (z ▸ h)) h⟩)
 ·exact .inr h
def spLaw (K:PySem.W.Frag)(Pt:Addr):Sp:=λvs H Q _=>∃(a:Addr) (ns:List Int),vs=[.ref a]/\fQ K H a (ns.map V.int)/\(∀xs,H a≠some (.lst xs))/\ns.length<=63/\LT Pt H/\∀H',Q (.bl true) H'
def TH (a g t o Pt:Addr)(Hb:Hp)(_:Nat)(σ:St)(H:Hp):Prop:=∃o1 c b:Option V,σ=[some (.ref a),o1,some (.ref t),some (.ref g),some (.ref o),c,b]/\bC Pt Hb H/\LT Pt H
theorem LT.other {Pt p:Addr}{H H':Hp}(h:LT Pt H)(b:bC p H H'){xs:List V}(e:H p=some (.lst xs)):LT Pt H':=by
 rcases h with h|⟨j,c,a,g,f,d,i⟩
 ·exact .inl (b _ _ (λz=>by rw[z,e]at h;cases h) h)
 ·exact .inr ⟨j,c,a,g,b _ _ (λz=>by rw[z,e]at f;cases f) f,b _ _ (λz=>by rw[z,e]at d;cases d) d,i⟩
theorem HY {H:Hp}{fs:List (Str×D)}{a:List (bE×V)}(h:cF H (kd fs) a):a.map (λp=>kV p.1)=(fs.map (·.1)).map V.str:=by have e:=congrArg (List.map kV) (kL h);rw[ci]at e;refine Eq.trans e ?_;unfold kd;rw[ci,ci,ci];rfl
theorem LD {fs:List (Str×D)}{sm:bU}:keepF (fs.map (·.1)) (look sm fs)=look sm fs:=by unfold keepF;refine List.filter_eq_self.mpr (λp b=>?_);obtain⟨q,a,rfl⟩:=BL p b;exact bg (List.mem_map_of_mem (f:=(·.1)) a)
theorem RB {f C Pt:Addr}{fd:FuncData}(F:fZ K "law" "law" nH f fd)(T:Txt mg)(G:cC P w K mg base bA 2 "_law_pot" (spPot K))(J:cC P w K mg base bA 3 "_law_signs" yI)(Y:R4 P w K mg base bA 3 "Signs" C (C7 K C))(R:cC P w K mg base bA 3 "_law_more" yN)(b:cC P w K mg base bA 1 "_law_take" dB)
  (r:cC P w K mg base bA 13 "_law_filling" qB) (N:cC P w K mg base bA 2 "_law_some" yH) (j:MA P w K mg base bA 16 "_law_is_kept" (tL K C Pt)) (O_kept:cC P w K mg base bA 11 "kept" (yO K C Pt)) (I:cC P w K mg base bA 15 "_law_looked" sN) (O:cC P w K mg base bA 2 "_law_near" C2) (B:MA P w K mg base bA 2 "_law_are_new" tN):sC P w K mg base bA 17 f fd PZ (spLaw K Pt):=by
 refine fZ.okG F lV (λvs H Q E h=>?_) (λcdv A outer s H vs Q E hG hr h=>?_)
 ·obtain⟨a,ns,rfl,_⟩:=h;rfl
 ·obtain⟨a,ns,rfl,hs,na,n63,lt,q⟩:=h;have hu:=hr.units
  refine⟨_,(aE (aU (i:=1) lV.nd rfl (Or.inl rfl) (aL G (hr.mono (by decide)) pass0 rfl (aA (pv 0) (aA aJ aB))))
   (aE (aU (i:=2) lV.nd rfl (Or.inl rfl) (aL J (hr.mono (by decide)) pass0 rfl (aA (pv 1) aB)))
   (aE (aU (i:=3) lV.nd rfl (Or.inl rfl) (SH Y (hr.mono (by decide)) pass0 rfl (aA (bQ cU (pv 2) aJ (λ_ _=>rfl)) (aA (bQ cU (pv 2) aJ (λ_ _=>rfl)) aB))))
   (aE (aU (i:=4) lV.nd rfl (Or.inl rfl) (aL R (hr.mono (by decide)) pass0 rfl (aA (pv 1) aB)))
   (aE (eV df rfl (dS rfl T.n_range (aA (aK (IU rfl) rfl T.n_max rfl (aA aJ (aA (aK (xT rfl) rfl T.n_min rfl (aA aJ (aA (aK lD rfl T.n_len rfl (aA (pv 0) aB)) aB))) aB))) aB)) (bO (i:=5) lV.nd rfl (Or.inl rfl)) (aE (aU (i:=1) lV.nd rfl (Or.inl rfl) (aL G (hr.mono (by decide)) pass0 rfl (aA (pv 0) (aA (pv 5) aB))))
   (aE (aU (i:=6) lV.nd rfl (Or.inl rfl) (aL r (hr.mono (by decide)) pass0 rfl (aA (pv 1) (aA (pv 2) (aA (pv 4) aB)))))
   (aE (bN (cR (a0 K rfl (FD j hG (hr.mono (by decide)) pass0 rfl (aA (pv 3) (aA (pv 2) (aA (pv 6) (aA (aL N (hr.mono (by decide)) pass0 rfl (aA (pv 1) (aA (pv 4) aB))) aB))))) (λ_=>rfl))) (aG (aP lP)) aV)
   (aE (bN (aS (zG hu) (aL O_kept (hr.mono (by decide)) pass0 rfl (aA (pv 3) (aA (pv 6) (aA (bH (EL rfl) rfl T.n_list rfl (aA (pv 6) aB)) aB)))) (aL I (hr.mono (by decide)) pass0 rfl (aA (pv 2) (aA (pv 6) aB))) (nomark _)) (aG (aP lP)) aV)
   (aG (bN (cR (a0 K rfl (FD B hG (hr.mono (by decide)) pass0 rfl (aA (bQ cU (bR (aA (aL b (hr.mono (by decide)) pass0 rfl (aA (pv 1) (aA aJ aB))) (aA aJ (aA aJ aB)))) (aL b (hr.mono (by decide)) pass0 rfl (aA (pv 1) (aA aJ aB))) (λ_ _=>rfl)) (aA (aL O (hr.mono (by decide)) pass0 rfl (aA (pv 1) aB)) aB))) (λ_=>rfl))) (aG (aP lP)) aV)))))))
   (aG (aP lP))))))),?_⟩
  clear hr F T hu G J Y R b r N j O_kept I O B hG;simp only[oM];refine⟨_,rfl,a,0,ns,rfl,hs,by omega,by omega,λp x y hp=>?_⟩;have s1:aH H (upd H p (.lst [.int x,.int y])):=aH.upd hp;refine⟨_,rfl,p,rfl,⟨x,y,upd_same⟩,λt a1 a2 fx sm fv sv H2 b2 p2 ht ha hb rf rs so na1 nb1=>?_⟩;refine⟨_,rfl,.ref a1,by rw[ixV_t ht];rfl,_,rfl,.ref a2,by rw[ixV_t ht];rfl,λg dx hg hdx ng=>?_⟩;have s2:aH H2 (upd (upd H2 dx (.own g)) g (.ins C dx [])):=(aH.upd hdx).trans (aH.upd (by rw[aC (Ne.symm ng)];exact hg));refine⟨g,dx,a1,a2,fx,sm,fv,sv,rfl,upd_same,s2 _ _ ha,s2 _ _ hb,rf.same (bG.of s2),rs.same (bG.of s2),so,λH3 b3 sg=>⟨rfl,?_⟩⟩;have s3:aH H2 H3:=λc ob e=>b3 c ob (aF e hg) (s2 _ _ e);have p3:aZ H3 p:=by obtain⟨x',y',e⟩:=p2;exact⟨x',y',s3 _ _ e⟩
  refine⟨_,rfl,p,rfl,p3,λo os H6 b6 p6 no ho o1 o2 hw=>?_⟩;have s6:aH H H6:=λc ob e=>b6 c ob (aF e hp) (s3 _ _ (b2 c ob (aF e hp) (s1 _ _ e)));have ts:=bG.ofBut b6 p3;have bs:Bs K C g t o fx sm os H6:=by
   obtain⟨x',y',ep⟩:=p3;obtain⟨c1,c2,c3,dx',fs,dm,dn,h1,h2,h3,h4,h5,h6,h7⟩:=sg
   exact⟨⟨c1,c2,c3,dx',fs,dm,dn,b6 _ _ (λz=>by rw[z,ep]at h1;cases h1) h1,h2,h3,h4,h5,b6 _ _ (λz=>by rw[z,ep]at h6;cases h6) h6,b6 _ _ (λz=>by rw[z,ep]at h7;cases h7) h7⟩,
    ⟨a1,a2,fv,sv,ts _ _ (s3 _ _ ht),b6 _ _ na1 (s3 _ _ ha),b6 _ _ nb1 (s3 _ _ hb),(rf.same (bG.of s3)).same ts,(rs.same (bG.of s3)).same ts⟩,so,ho,o1,o2,hw⟩
  have lt6:LT Pt H6:=lt.same s6;have sq6:fQ K H6 a (ns.map V.int):=aH.seq s6 hs;clear b6 p6 sg ho o1 o2 hw no rf rs so ts ha hb ht na1 nb1 b2 p2 p3 s1 hp s6 hs lt na hg hdx ng s3 s2 b3;obtain⟨ps,hps⟩:=lt6.tbl;have hlen:((ns.map V.int).length:Int)<=63:=by rw[ae];omega
  refine⟨_,rfl,a,_,rfl,.inl sq6,10,_,rfl,4,_,rfl,_,rfl,by split <;> split <;> omega,by split <;> split <;> omega,?_⟩;generalize hm:(if (if ((ns.map V.int).length:Int)<10 then((ns.map V.int).length:Int)else 10) > 4 then(if ((ns.map V.int).length:Int)<10 then((ns.map V.int).length:Int)else 10)else 4)=m;have hm10:m.toNat<=10:=by rw[←hm];split <;> split <;> omega
  clear hm hlen;refine fM (TH a g t o Pt H6) ⟨_,_,_,rfl,bC.refl _ _,lt6⟩ ?_ ?_
  ·rintro i σ H7 hi ⟨o1,o5,o6,rfl,b7,lt7⟩;have U:=bs.lt lt6 b7;have sq7:fQ K H7 a (ns.map V.int):=MT sq6 b7 (λo' z=>by rw[hps]at z;cases z) (λz=>by rw[hps]at z;cases z);refine⟨_,rfl,_,rfl,a,(0+i:Int),ns,rfl,sq7,by omega,by omega,λp x y hp=>?_⟩;have s8:aH H7 (upd H7 p (.lst [.int x,.int y])):=aH.upd hp;have p8:aZ (upd H7 p (.lst [.int x,.int y])) p:=⟨x,y,upd_same⟩
   generalize upd H7 p (.lst [.int x,.int y])=H8 at s8 p8⊢;obtain⟨ta,tb,fv,sv,f1,f2,f3,f4,f5⟩:=U.ex;have npo:=aF U.ol hp;refine⟨_,rfl,_,rfl,_,rfl,p,t,o,fx,sm,os,rfl,⟨p8,⟨ta,tb,fv,sv,s8 _ _ f1,s8 _ _ f2,s8 _ _ f3,f4.same (bG.of s8),f5.same (bG.of s8),aF f2 hp,aF f3 hp⟩,⟨s8 _ _ U.ol,npo⟩,U.so,U.o1,U.o2⟩,λl fs X H9 b9 p9 hl gl repN nd ln sml=>?_⟩;have s79:aH H7 H9:=λc u e=>b9 c u (aF e hp) (s8 _ _ e);have hl7:H7 l=none:=s8.free hl;have nlp:l≠p:=λz=>by obtain⟨x1,y1,e⟩:=p8;rw[←z,hl]at e;cases e
   have repL:cF H9 (kd fs) X:=repN.same λc u e=>(fS.mp e).2;have repB:cF (del H9 p) (kd fs) X:=repN.same λc u e=>by obtain⟨⟨g1,g2⟩,g3⟩:=fS.mp e;exact fP g3 λz=>by obtain⟨x1,y1,e⟩:=p8;rw[←z,g1]at e;cases e
   have lt9:=lt7.same s79;have so:=U.so;have ho:=U.ho;have smn:(sm.map (·.1)).Nodup:=(List.nodup_append.mp so.nd).2.1;have fil:=wL so ho nd ln sml;have sml2:=uG (fs:=fs) so ho sml;refine⟨_,rfl,_,rfl,_,rfl,_,rfl,_,rfl,p,o,os,rfl,p9,⟨s79 _ _ U.ol,npo⟩,U.o1,U.o2,λv ss H10 b10 p10 sqN hss l8=>?_⟩;have W:aH H7 H10:=λc u e=>b10 c u (aF e hp) (s79 _ _ e);have lt10:=lt7.same W;have ak10:Ak K C Pt g l fx sm fs X H10:=⟨U.sg.same (L3 hl7 W),b10 _ _ nlp gl,repB.same (GE b10),lt10⟩
   have sq10:jM H10 v ss:=sqN.same λc u e=>(eW.mp e).2;refine⟨g,t,l,ta,tb,fx,sm,os,sv,fs,X,v,ss,rfl,ak10,W _ _ f1,W _ _ f3,f5.same (bG.of W),so,ho,nd,ln,sml,sq10,by omega,λx hx=>⟨(nS (ho x (hss x hx))).1,(nS (ho x (hss x hx))).2⟩,λH11 b11 lt11=>⟨true,rfl,?_⟩⟩;have ak11:=ak10.but b11 lt11;have p11:aZ H11 p:=by obtain⟨x1,y1,e⟩:=p10;exact⟨x1,y1,b11 _ _ (lt10.ne e λ_=>by simp) e⟩
   refine⟨_,rfl,_,rfl,_,rfl,l,X,rfl,ak11.hc,λL hL=>?_⟩;have s12:aH H11 (upd H11 L (.lst (X.map λp=>kV p.1))):=aH.upd hL;have g12:upd H11 L (.lst (X.map λp=>kV p.1)) L=some (.lst ((fs.map (·.1)).map V.str)):=by rw[upd_same,HY ak11.rep]
   generalize upd H11 L (.lst (X.map λp=>kV p.1))=H12 at s12 g12⊢;have S:=ak11.same s12;refine⟨g,l,fx,sm,os,fs,X,.ref L,fs.map (·.1),rfl,S.sg,S.hc,S.rep,fil,S.lt,.inl ⟨L,_,rfl,g12,kE _⟩,λl13 kvs13 H13 b13 lt13 hl13 gl13 r13=>?_⟩;rw[LD]at r13;have ak13:=S.but b13 lt13;have k713:∀{c:Addr} {u:HO},H7 c=some u->(∀ps,u≠.tbl ps)->H13 c=some u:=λ{c u} e n=>by have e10:=W _ _ e;have e11:=b11 _ _ (lt10.ne e10 n) e10;have e12:=s12 _ _ e11;exact b13 _ _ (S.lt.ne e12 n) e12
   have ts13:bG H7 H13:=λc xs e=>k713 e λ_=>by simp
   have p13:aZ H13 p:=by obtain⟨x1,y1,e⟩:=p11;have e12:=s12 _ _ e;exact⟨x1,y1,b13 _ _ (S.lt.ne e12 λ_=>by simp) e12⟩
   refine⟨_,rfl,_,rfl,t,ta,tb,l,sm,sv,fs,X,rfl,ts13 _ _ f1,k713 f3 (λ_=>by simp),f5.same ts13,smn,jB so,so.s2,ak13.hc,ak13.rep,nd,by omega,λp' hp'=>?_,λl14 kvs14 Z s14 hl14 gl14 r14=>?_⟩
   ·obtain⟨_,h2,h3,h4⟩:=sml p' hp';have z:=wH so ho h2;have h3':lvs p'.2<=7:=h3;exact⟨z.1,by omega,by have:=z.2;omega⟩
   refine⟨l13,l14,kvs13,kvs14,kd (look sm fs),rfl,rfl,s14 _ _ gl13,gl14,r13.same s14,r14,λd hd=>?_,_,rfl,?_⟩
   ·obtain⟨p',hp',rfl⟩:=cu.mp hd;have:depD p'.2<=8:=(sml2 p' hp').2.2.2;show depD p'.2<=50;omega
   have p14:aZ Z p:=by obtain⟨x1,y1,e⟩:=p13;exact⟨x1,y1,s14 _ _ e⟩
   have lt14:=lt13.same s14;have b714:bC Pt H7 Z:=λc u n e=>s14 _ _ (b13 c u n (s12 _ _ (b11 c u n (W _ _ e))));clear ak10 ak11 S ak13 r13 r14 gl13 gl14 sq10 sqN g12 k713 ts13 b13 b11 p13 p11 p10 p9;refine⟨_,rfl,p,41,rfl,p14,by decide,by decide,λd x3 y3 d0 d1=>?_⟩;have b15:bC p Z (upd Z p (.lst [.int x3,.int y3])):=bC.upd _ _ _;have p15:aZ (upd Z p (.lst [.int x3,.int y3])) p:=⟨_,_,upd_same⟩
   generalize upd Z p (.lst [.int x3,.int y3])=H15 at b15 p15⊢;refine⟨show 3<=sizeLine by decide,λu hu=>?_⟩;have b16:=b15.trans (bC.new (p:=p) (o:=.lst [.int d,.int 40,.int 0]) hu);have u16:upd H15 u (.lst [.int d,.int 40,.int 0]) u=some (.lst [.int d,.int 40,.int 0]):=upd_same;have p16:aZ (upd H15 u (.lst [.int d,.int 40,.int 0])) p:=p15.but (p15.ne hu);have nup:u≠p:=(p15.ne hu).symm;generalize upd H15 u (.lst [.int d,.int 40,.int 0])=H16 at b16 u16 p16⊢;refine⟨_,rfl,p,3,rfl,p16,by decide,by decide,λe x4 y4 e0 e1=>?_⟩;have b17:bC p Z (upd H16 p (.lst [.int x4,.int y4])):=b16.trans (bC.upd _ _ _);have u17:upd H16 p (.lst [.int x4,.int y4]) u=some (.lst [.int d,.int 40,.int 0]):=by rw[aC nup];exact u16
   have p17:aZ (upd H16 p (.lst [.int x4,.int y4])) p:=⟨_,_,upd_same⟩
   generalize upd H16 p (.lst [.int x4,.int y4])=H17 at b17 u17 p17⊢;obtain⟨M,hM,M40⟩:∃M:Nat,ixV H17 (.ref u) (.int e)=some (.int (M:Int))/\M<=40:=by
    have:e=0∨e=1∨e=2:=by omega
    rcases this with rfl|rfl|rfl
    ·exact⟨d.toNat,by rw[ixV_l u17,Int.toNat_of_nonneg d0];rfl,by omega⟩
    ·exact⟨40,by rw[ixV_l u17];rfl,by decide⟩
    ·exact⟨0,by rw[ixV_l u17];rfl,by decide⟩
   refine⟨.int M,hM,_,rfl,p,rfl,p17,λv2 ss2 H18 b18 p18 sq18 l18 sh18=>?_⟩;refine⟨M,v2,ss2,rfl,sq18.same (λc u e=>(eW.mp e).2),M40,l18,sh18,λH19 s19=>⟨true,rfl,?_⟩⟩;have k19:∀c u,H7 c=some u->c≠Pt->H19 c=some u:=λc u z n=>s19 _ _ (b18 c u (aF z hp) (b17 c u (aF z hp) (b714 c u n z)));refine⟨_,_,_,rfl,λc u n z=>k19 c u (b7 c u n z) n,?_⟩;have lt17:bC p Z H18:=b17.trans b18;obtain⟨x1,y1,e14⟩:=p14;exact(lt14.other lt17 e14).same s19
  ·rintro σ H7 ⟨o1,o5,o6,rfl,b7,lt7⟩;exact q _
end
end Lw
namespace Lw
open PySem PySem.Spec PyProof.Rows PySem.W L2
theorem EJ {K:Frag}{h:Heap}{x:Str}{c Pt:Addr}(X:K.In h)(a:tabIn K x=some (c,Pt))(C:CodeHd h c Pt):∀h',K.In h'->CodeHd h' c Pt:=by
 have b:∃o,K.lookup c=some o:=by
  unfold tabIn at a;split at a
  ·split at a
   ·split at a
    ·split at a
     ·rename_i s _ _ _ _ _ hc;split at a
      ·cases a;exact⟨_,hc⟩
      ·cases a
     ·cases a
    ·cases a
   ·cases a
  ·cases a
 obtain⟨o,b⟩:=b;obtain⟨q,vs,r1,m,l,j,i,g,f,e,r⟩:=C;intro h' p;have d:=X _ _ b;rw[e]at d;cases d;exact⟨_,vs,r1,m,l,j,i,g,f,p _ _ b,r⟩
theorem HX {P:Program}{w:World}{K:Frag}{mg S:fR}{k:Nat}{X a c Pt:Addr}{fd:FuncData}{x:Str}{sp:Sp}{f:Shared}{vs:bX}{ns:List Int}
  (KX:K.In f.heap) (G:f.heap.Ns mainGlobals mg) (g:f.heap.Ns builtinsNs S) (U:∀x:Str,x≠"__name__"->S x=bootBuiltins x) (I:f.heap.NoLimit) (hg:f.gens = #[])
  (C:f.heap.get? a=some {cls:=.type "list",data:=.seq vs.toArray}) (hi:IntsAre vs ns) (hl:ns.length<=sizeLine) (hr:eX k callerA)
  (hT:CodeHd f.heap c Pt) (B:f.heap.get? Pt=some (tabObj #[])) (W:K.lookup Pt=none) (hB:Bm mg f.heap)
  (F:∀base:Heap,K.In base->base.Ns mainGlobals mg->Bm mg base->sC P w K mg base bA k X fd [x] sp) (A:∀(s:Shared) (u:Value),BindsTo s fd ⟨[u],[]⟩ [(x,u)])
  (T:∀H:Hp,(∀xs,H a≠some (.lst xs))->H Pt=some (.tbl #[])->fQ K H a (ns.map V.int)->sp [.ref a] H (λv _=>v = .bl true) λ_ _ _=>False) :
  codeAny (model P w) callerA (.call (.ref X) ⟨[.ref a],[]⟩) (λr i=>r = .ok (.ret (.bool true))/\OldK f.heap i.heap/\i.os=f.os/\AllBare i.gens) f:=by
 have rv:=wE hi;have lenV:=hi.length;have t:Pt≠a:=λz=>by rw[z,C]at B;cases B
 have p:∀H:Hp,H Pt=some (.tbl #[])->(∀b,b≠Pt->H b≠none->b=a/\K.lookup a=none/\∃o xs,H a=some (.frz o (.lst xs)))->fQ K H a (ns.map V.int)->hV P w H f.heap ->
   codeAny (model P w) callerA (.call (.ref X) ⟨[.ref a],[]⟩) (λr i=>r = .ok (.ret (.bool true))/\OldK f.heap i.heap/\i.os=f.os/\AllBare i.gens) f:=by
  intro H hH N hS hok;have free:∀{b:Addr} {o:Obj},f.heap.get? b=some o->o≠tabObj #[]->(b=a->K.lookup a=none->False)->H b=none:=λ{b o} e n n2=>by
   cases q:H b with
   | none=>rfl
   | some u =>
    by_cases z:b=Pt
    ·rw[z,B]at e;exact absurd (Option.some.inj e).symm n
    ·obtain⟨R,E,_⟩:=N b z (by rw[q];simp);exact(n2 R E).elim
  have j:∀{b:Addr} {m:fR},f.heap.Ns b m->(hidT f.heap H).Ns b m:=λ{b m} ⟨o,es,ep,e,d,r⟩=>⟨o,es,ep,uQ e (free e (λz=>by rw[z]at d;cases d) (λz _=>by rw[z,C]at e;cases e;cases d)),d,r⟩
  have J:K.In (hidT f.heap H):=λb o e=>uQ (KX b o e) (by
   cases q:H b with
   | none=>rfl
   | some u =>
    by_cases z:b=Pt
    ·rw[z,W]at e;cases e
    ·obtain⟨R,E,_⟩:=N b z (by rw[q];simp)
     rw[R,E]at e;cases e)
  have hM:Mod K mg (hidT f.heap H):=⟨J,j G,⟨S,j g,U⟩,let⟨mc,h1,h2⟩:=I;⟨mc,j h1,h2⟩⟩
  have hB':Bm mg (hidT f.heap H):=by obtain⟨bm,o,Q,Z,e3,O,Y,e6,e7⟩:=hB;exact⟨bm,o,Q,Z,e3,uQ O (free O (λz=>by rw[z]at Y;cases Y) (λz _=>by rw[z,C]at O;cases O;cases e7)),Y,e6,e7⟩
  have e0:vZ P w K mg (hidT f.heap H) callerA [] f H:=⟨rfl,hM,λb o e=>OC e,Nat.le_of_eq (IC _ _),trivial,λb g=>absurd (show b∈([]:List Addr)from g) (by simp),hok,.of_eq hg⟩
  have nl:∀xs,H a≠some (.lst xs):=λxs z=>by obtain⟨_,_,o,ys,e⟩:=N a (Ne.symm t) (by rw[z];simp);rw[z]at e;cases e
  refine codeAny_mono ((F _ J (j G) hB').run callerA [] f H ⟨[.ref a],[]⟩ [.ref a] [.ref a] _ _ rfl hr e0 (A f (.ref a)) (.cons rfl .nil) (T H nl hH hS)) λr i h=>?_;cases r with
  | error e=>exact False.elim h
  | ok fl =>
   cases fl with
   | next=>exact False.elim h
   | brk=>exact False.elim h
   | cont=>exact False.elim h
   | ret u =>
    obtain⟨v,H',os,bare,un,l,r',q⟩:=h;have q':v = .bl true:=q;subst q';obtain rfl:u=Value.bool true:=r';have keep:∀b o,b≠Pt->f.heap.get? b=some o->i.heap.get? b=some o:=λb o n e=>by
     cases q:H b with
     | none=>exact un.keep b o e q (by intro z;exact absurd (show b∈([]:List Addr)from z) (by simp)) (by simp)
     | some u =>
      obtain⟨rfl,_,ob,xs,z⟩:=N b n (by rw[q];simp);have E:=un.frzs b ob _ z;obtain⟨Q,_⟩:=hok b _ z;obtain⟨Z,_⟩:=l b _ E;rw[e]at Q;cases Q;exact Z
    obtain⟨more,hm⟩:=un.tbls Pt #[] hH;have gP:i.heap.get? Pt=some (tabObj (#[]++more)):=l Pt _ hm;refine⟨rfl,⟨λb o e=>?_,λb o e=>?_⟩,os,bare⟩
    ·by_cases z:b=Pt
     ·subst z;rw[B]at e;cases e;exact .inr (.inl ⟨(hT.tab B).isCodeTable,rfl,#[],more,rfl,gP⟩)
     ·exact .inl (keep b o z e)
    ·by_cases z:b=Pt
     ·subst z;exact⟨_,gP⟩
     ·exact⟨o,keep b o z e⟩
 cases hk:K.lookup a with
 | some o =>
  have e:=KX a o hk;rw[C]at e;cases e;refine p (λb=>if b=Pt then some (.tbl #[])else none) (ai rfl) (λb n z=>absurd (ab n) z) (.inr ⟨_,vs.toArray,_,hk,rfl,rfl,rfl,by rw[ag,lenV];exact hl,by simpa using rv⟩) λb u z=>?_;by_cases g:b=Pt
  ·have z':=(ai g).symm.trans z;cases z';subst g;exact B
  ·have z':=(ab g).symm.trans z;cases z'
 | none =>
  refine p (λb=>if b=Pt then some (.tbl #[])else if b=a then some (.frz {cls:=.type "list",data:=.seq vs.toArray} (.lst (ns.map V.int)))else none) (ai rfl) (λb n z=>?_) (.inl (.inr ⟨{cls:=.type "list",data:=.seq vs.toArray},(ab (Ne.symm t)).trans (ai rfl)⟩)) (λb u z=>?_)
  ·by_cases g:b=a
   ·exact⟨g,hk,_,_,(ab (Ne.symm t)).trans (ai rfl)⟩
   ·exact absurd ((ab n).trans (ab g)) z
  ·by_cases L:b=Pt
   ·have z':=(ai L).symm.trans z;cases z';subst L;exact B
   ·by_cases g:b=a
    ·have z':=((ab L).trans (ai g)).symm.trans z;cases z';subst g;exact⟨C,by rw[ae];exact hl,vs,_,rv,C⟩
    ·have z':=((ab L).trans (ab g)).symm.trans z;cases z'
theorem walkT {l:PySem.W.OpenLaw}{q:Program}{loose:aQ}{XP:(fR)->Heap->Prop}{YP:World->Heap->Prop}{d dp:DefRec}{K:Params->PySem.W.Frag}(P:l.most=some 63)(t:d.params.defaults=[])
  (U:∀(w:World) (h:Heap),YP w h->(K w.params).In h) (O:(recsOf q).find? (λe=>e.name == ("put_in" : Str))=some dp)
  (F:∀(w:World) (mg:fR) (p:Addr) (h:Heap),(K w.params).In h->h.Ns mainGlobals mg->mg d.name=some (.ref p) ->
   ∃(x:FuncData) (c Pt:Addr),tabIn (K w.params) "put_in" = some (c,Pt)/\(K w.params).lookup Pt=none/\(∀(s:Shared) (u:Value),BindsTo s x ⟨[u],[]⟩ [("_law_script",u)]) /\
    ∀base:Heap,(K w.params).In base->base.Ns mainGlobals mg->Bm mg base->(∀h,(K w.params).In h->CodeHd h c Pt)->sC l.prog w (K w.params) mg base bA 17 p x ["_law_script"] (spLaw (K w.params) Pt)) :
  PySem.W.WalkO q loose XP YP l.row.toRowW d [] (λf vs=>PySem.call f vs):=by
 refine Att.CC P t λw s0 J mg mb p o pm cd doc a vs ns G Y ho hd R r m j i Q=>?_;have KX:=U w _ Y;obtain⟨x,c,Pt,B,v,S,hF⟩:=F w mg p _ KX G.T.g r;obtain⟨C,Z⟩:=tab_of G.T KX O B;have hB:Bm mg J.heap:=by obtain⟨bm,L,e1,e2,A,e4,e5,I⟩:=G.T.bmain;refine⟨bm,L,e1,e2,λz=>?_,A,e4,e5,I⟩;obtain⟨o',es,ep,g1,E,_⟩:=G.T.g;rw[z,g1]at A;cases A;rw[I]at E;cases E
 exact HX KX G.T.g G.T.b G.T.builtins G.T.nolimit Q m j (ao i (by decide)) ⟨rfl,by decide,by decide⟩ C Z v hB (λbase kb N bb=>hF base kb N bb (EJ KX B C)) S
  λH nl hH X=>⟨a,ns,rfl,X,nl,i,.inl hH,λ_=>rfl⟩
theorem lenS {n:Nat}{us:bX}{P:bX->Prop}(h:us.length=n+1)(k:∀a t,t.length=n->P (a::t)):P us:=by
 cases us
 ·cases h
 ·exact k _ _ (Nat.succ.inj h)
theorem len1 {us:bX}{P:bX->Prop}(h:us.length=1)(k:∀a,P [a]):P us:=lenS h λa t h=>by cases t;exact k a;cases h
theorem len2 {us:bX}{P:bX->Prop}(h:us.length=2)(k:∀a b,P [a,b]):P us:=lenS h λa _ h=>len1 (P:=λt=>P (a::t)) h (k a)
theorem len3 {us:bX}{P:bX->Prop}(h:us.length=3)(k:∀a b c,P [a,b,c]):P us:=lenS h λa _ h=>len2 (P:=λt=>P (a::t)) h (k a)
theorem len4 {us:bX}{P:bX->Prop}(h:us.length=4)(k:∀a b c d,P [a,b,c,d]):P us:=lenS h λa _ h=>len3 (P:=λt=>P (a::t)) h (k a)
theorem len5 {us:bX}{P:bX->Prop}(h:us.length=5)(k:∀a b c d e,P [a,b,c,d,e]):P us:=lenS h λa _ h=>len4 (P:=λt=>P (a::t)) h (k a)
theorem RW {l:PySem.W.OpenLaw}{w:World}{K:PySem.W.Frag}{h:Heap}{mg:fR}{fa C cc Pt f1 f2 f3 f4 f5 f6 f7 f8 f9 f10 f11 f12 f13 f14 f15 f16 f17 f18 f19 f20 f21 f22 f23 f24 f25 f26 f27 f28 f29 f30 f31 f32 f33 f34 f35 f36 f37 f38 f39 f40 f41 f42 f43 f44 f45 f46 f47 f48 f49 f50:Addr}(X:K.In h)(G:h.Ns mainGlobals mg)(hfa:mg "law" = some (.ref fa))
  {od1 an1 od2 an2 od3 an3 od4 an4 od5 an5 od6 an6 od7 an7 od8 an8 od9 an9 od10 an10 od11 an11 od12 an12 od13 an13 od14 an14 od15 an15 od16 an16 od17 an17 od18 an18 od19 an19 od20 an20 od21 an21 od22 an22 od23 an23 od24 an24 od25 an25 od26 an26 od27 an27 od28 an28 od29 an29 od30 an30 od31 an31 od32 an32 od33 an33 od34 an34 od35 an35 od36 an36 od37 an37 od38 an38 od39 an39 od40 an40 od41 an41 od42 an42 od43 an43 od44 an44 od45 an45 od46 an46 od47 an47 od48 an48 od49 an49 od50 an50:Option Addr} {sl1 sl2 sl3 sl4 sl5 sl6 sl7 sl8 sl9 sl10 sl11 sl12 sl13 sl14 sl15 sl16 sl17 sl18 sl19 sl20 sl21 sl22 sl23 sl24 sl25 sl26 sl27 sl28 sl29 sl30 sl31 sl32 sl33 sl34 sl35 sl36 sl37 sl38 sl39 sl40 sl41 sl42 sl43 sl44 sl45 sl46 sl47 sl48 sl49 sl50:Array (Option Value)} {oc1 kV1 dc1 pm1 ct1 cd1 oc2 kV2 dc2 pm2 ct2 cd2 oc3 kV3 dc3 pm3 ct3 cd3 oc4 kV4 dc4 pm4 ct4 cd4 oc5 kV5 dc5 pm5 ct5 cd5 oc6 kV6 dc6 pm6 ct6 cd6 oc7 kV7 dc7 pm7 ct7 cd7 oc8 kV8 dc8 pm8 ct8 cd8 oc9 kV9 dc9 pm9 ct9 cd9 oc10 kV10 dc10 pm10 ct10 cd10 oc11 kV11 dc11 pm11 ct11 cd11 oc12 kV12 dc12 pm12 ct12 cd12 oc13 kV13 dc13 pm13 ct13 cd13 oc14 kV14 dc14 pm14 ct14 cd14 oc15 kV15 dc15 pm15 ct15 cd15 oc16 kV16 dc16 pm16 ct16 cd16 oc17 kV17 dc17 pm17 ct17 cd17 oc18 kV18 dc18 pm18 ct18 cd18 oc19 kV19 dc19 pm19 ct19 cd19 oc20 kV20 dc20 pm20 ct20 cd20 oc21 kV21 dc21 pm21 ct21 cd21 oc22 kV22 dc22 pm22 ct22 cd22 oc23 kV23 dc23 pm23 ct23 cd23 oc24 kV24 dc24 pm24 ct24 cd24 oc25 kV25 dc25 pm25 ct25 cd25 oc26 kV26 dc26 pm26 ct26 cd26 oc27 kV27 dc27 pm27 ct27 oc28 kV28 dc28 pm28 ct28 cd28 oc29 kV29 dc29 pm29 ct29 cd29 oc30 kV30 dc30 pm30 ct30 cd30 oc31 kV31 dc31 pm31 ct31 cd31 oc32 kV32 dc32 pm32 ct32 cd32 oc33 kV33 dc33 pm33 ct33 cd33 oc34 kV34 dc34 pm34 ct34 cd34 oc35 kV35 dc35 pm35 ct35 cd35 oc36 kV36 dc36 pm36 ct36 cd36 oc37 kV37 dc37 pm37 ct37 cd37 oc38 kV38 dc38 pm38 ct38 cd38 oc39 kV39 dc39 pm39 ct39 cd39 oc40 kV40 dc40 pm40 ct40 cd40 oc41 kV41 dc41 pm41 ct41 cd41 oc42 kV42 dc42 pm42 ct42 cd42 oc43 kV43 dc43 pm43 ct43 cd43 oc44 kV44 dc44 pm44 ct44 cd44 oc45 kV45 dc45 pm45 ct45 cd45 oc46 kV46 dc46 pm46 ct46 cd46 oc47 kV47 dc47 pm47 ct47 cd47 oc48 kV48 dc48 pm48 ct48 cd48 oc49 kV49 dc49 pm49 ct49 cd49 oc50 kV50 dc50 pm50 ct50 cd50:Value} {tk0 tk1 tk2 tk3 tk4 tk5 tk6 tk7:Tok} {odq:Option Addr} {ocq:Value} {vq:jK} {slq:Array (Option Value)}
  (m0:nsIn K mainGlobals "Signs" = some (some (.ref C)))
  (a1:nsIn K mainGlobals "_law_cell" = some (some (.ref f1)))
  (l1:K.lookup f1=some ⟨oc1,od1,.func (PySem.W.fnOf "_law_cell" "_law_cell" (aO fK) (aN fK) (aD fK) .none kV1 dc1 pm1 an1 cd1 ct1),sl1⟩)
  (c1:codeIn K cd1 "_law_cell" = true)
  (k1:keepIn K (.ref f1)=true)
  (a2:nsIn K mainGlobals "_law_pot" = some (some (.ref f2)))
  (l2:K.lookup f2=some ⟨oc2,od2,.func (PySem.W.fnOf "_law_pot" "_law_pot" (aO gJ) (aN gJ) (aD gJ) .none kV2 dc2 pm2 an2 cd2 ct2),sl2⟩)
  (c2:codeIn K cd2 "_law_pot" = true)
  (k2:keepIn K (.ref f2)=true)
  (a3:nsIn K mainGlobals "_law_take" = some (some (.ref f3)))
  (l3:K.lookup f3=some ⟨oc3,od3,.func (PySem.W.fnOf "_law_take" "_law_take" (aO fG) (aN fG) (aD fG) .none kV3 dc3 pm3 an3 cd3 ct3),sl3⟩)
  (c3:codeIn K cd3 "_law_take" = true)
  (k3:keepIn K (.ref f3)=true)
  (a4:nsIn K mainGlobals "_law_word" = some (some (.ref f4)))
  (l4:K.lookup f4=some ⟨oc4,od4,.func (PySem.W.fnOf "_law_word" "_law_word" (aO fF) (aN fF) (aD fF) .none kV4 dc4 pm4 an4 cd4 ct4),sl4⟩)
  (c4:codeIn K cd4 "_law_word" = true)
  (k4:keepIn K (.ref f4)=true)
  (a5:nsIn K mainGlobals "_law_names" = some (some (.ref f5)))
  (l5:K.lookup f5=some ⟨oc5,od5,.func (PySem.W.fnOf "_law_names" "_law_names" (aO eT) (aN eT) (aD eT) .none kV5 dc5 pm5 an5 cd5 ct5),sl5⟩)
  (c5:codeIn K cd5 "_law_names" = true)
  (k5:keepIn K (.ref f5)=true)
  (a6:nsIn K mainGlobals "_law_signs" = some (some (.ref f6)))
  (l6:K.lookup f6=some ⟨oc6,od6,.func (PySem.W.fnOf "_law_signs" "_law_signs" (aO dD) (aN dD) (aD dD) .none kV6 dc6 pm6 an6 cd6 ct6),sl6⟩)
  (c6:codeIn K cd6 "_law_signs" = true)
  (k6:keepIn K (.ref f6)=true)
  (a7:nsIn K mainGlobals "_law_wishes" = some (some (.ref f7)))
  (l7:K.lookup f7=some ⟨oc7,od7,.func (PySem.W.fnOf "_law_wishes" "_law_wishes" (aO dZ) (aN dZ) (aD dZ) .none kV7 dc7 pm7 an7 cd7 ct7),sl7⟩)
  (c7:codeIn K cd7 "_law_wishes" = true)
  (k7:keepIn K (.ref f7)=true)
  (a8:nsIn K mainGlobals "_law_leaf" = some (some (.ref f8)))
  (l8:K.lookup f8=some ⟨oc8,od8,.func (PySem.W.fnOf "_law_leaf" "_law_leaf" (aO eL) (aN eL) (aD eL) .none kV8 dc8 pm8 an8 cd8 ct8),sl8⟩)
  (c8:codeIn K cd8 "_law_leaf" = true)
  (k8:keepIn K (.ref f8)=true)
  (a9:nsIn K mainGlobals "_law_heads" = some (some (.ref f9)))
  (l9:K.lookup f9=some ⟨oc9,od9,.func (PySem.W.fnOf "_law_heads" "_law_heads" (aO dE) (aN dE) (aD dE) .none kV9 dc9 pm9 an9 cd9 ct9),sl9⟩)
  (c9:codeIn K cd9 "_law_heads" = true)
  (k9:keepIn K (.ref f9)=true)
  (a10:nsIn K mainGlobals "_law_term" = some (some (.ref f10)))
  (l10:K.lookup f10=some ⟨oc10,od10,.func (PySem.W.fnOf "_law_term" "_law_term" (aO dW) (aN dW) (aD dW) .none kV10 dc10 pm10 an10 cd10 ct10),sl10⟩)
  (c10:codeIn K cd10 "_law_term" = true)
  (k10:keepIn K (.ref f10)=true)
  (a11:nsIn K mainGlobals "_law_sort" = some (some (.ref f11)))
  (l11:K.lookup f11=some ⟨oc11,od11,.func (PySem.W.fnOf "_law_sort" "_law_sort" (aO fH) (aN fH) (aD fH) .none kV11 dc11 pm11 an11 cd11 ct11),sl11⟩)
  (c11:codeIn K cd11 "_law_sort" = true)
  (k11:keepIn K (.ref f11)=true)
  (a12:nsIn K mainGlobals "_law_ahead" = some (some (.ref f12)))
  (l12:K.lookup f12=some ⟨oc12,od12,.func (PySem.W.fnOf "_law_ahead" "_law_ahead" (aO dF) (aN dF) (aD dF) .none kV12 dc12 pm12 an12 cd12 ct12),sl12⟩)
  (c12:codeIn K cd12 "_law_ahead" = true)
  (k12:keepIn K (.ref f12)=true)
  (a13:nsIn K mainGlobals "_law_opened" = some (some (.ref f13)))
  (l13:K.lookup f13=some ⟨oc13,od13,.func (PySem.W.fnOf "_law_opened" "_law_opened" (aO d5) (aN d5) (aD d5) .none kV13 dc13 pm13 an13 cd13 ct13),sl13⟩)
  (c13:codeIn K cd13 "_law_opened" = true)
  (k13:keepIn K (.ref f13)=true)
  (a14:nsIn K mainGlobals "_law_flat" = some (some (.ref f14)))
  (l14:K.lookup f14=some ⟨oc14,od14,.func (PySem.W.fnOf "_law_flat" "_law_flat" (aO dJ) (aN dJ) (aD dJ) .none kV14 dc14 pm14 an14 cd14 ct14),sl14⟩)
  (c14:codeIn K cd14 "_law_flat" = true)
  (k14:keepIn K (.ref f14)=true)
  (a15:findIn K (.ref C) "many" = some (some (.ref f15)))
  (l15:K.lookup f15=some ⟨oc15,od15,.func (PySem.W.fnOf "many" "Signs.many" (aO eU) (aN eU) (aD eU) .none kV15 dc15 pm15 an15 cd15 ct15),sl15⟩)
  (c15:codeIn K cd15 "Signs.many" = true)
  (k15:keepIn K (.ref f15)=true)
  (n15:isFn K (.ref f15)=true)
  (a16:findIn K (.ref C) "nought" = some (some (.ref f16)))
  (l16:K.lookup f16=some ⟨oc16,od16,.func (PySem.W.fnOf "nought" "Signs.nought" (aO dP) (aN dP) (aD dP) .none kV16 dc16 pm16 an16 cd16 ct16),sl16⟩)
  (c16:codeIn K cd16 "Signs.nought" = true)
  (k16:keepIn K (.ref f16)=true)
  (n16:isFn K (.ref f16)=true)
  (a17:nsIn K mainGlobals "is_wish" = some (some (.ref f17)))
  (l17:K.lookup f17=some ⟨oc17,od17,.func (PySem.W.fnOf "is_wish" "is_wish" (aO gL) (aN gL) (aD gL) .none kV17 dc17 pm17 an17 cd17 ct17),sl17⟩)
  (c17:codeIn K cd17 "is_wish" = true)
  (k17:keepIn K (.ref f17)=true)
  (a18:nsIn K mainGlobals "is_built" = some (some (.ref f18)))
  (l18:K.lookup f18=some ⟨oc18,od18,.func (PySem.W.fnOf "is_built" "is_built" (aO gH) (aN gH) (aD gH) .none kV18 dc18 pm18 an18 cd18 ct18),sl18⟩)
  (c18:codeIn K cd18 "is_built" = true)
  (k18:keepIn K (.ref f18)=true)
  (a19:nsIn K mainGlobals "check_term" = some (some (.ref f19)))
  (l19:K.lookup f19=some ⟨oc19,od19,.func (PySem.W.fnOf "check_term" "check_term" (aO dU) (aN dU) (aD dU) .none kV19 dc19 pm19 an19 cd19 ct19),sl19⟩)
  (c19:codeIn K cd19 "check_term" = true)
  (k19:keepIn K (.ref f19)=true)
  (a20:nsIn K mainGlobals "walked" = some (some (.ref f20)))
  (l20:K.lookup f20=some ⟨oc20,od20,.func (PySem.W.fnOf "walked" "walked" (aO i5) (aN i5) (aD i5) .none kV20 dc20 pm20 an20 cd20 ct20),sl20⟩)
  (c20:codeIn K cd20 "walked" = true)
  (k20:keepIn K (.ref f20)=true)
  (a21:nsIn K mainGlobals "order_mark" = some (some (.ref f21)))
  (l21:K.lookup f21=some ⟨oc21,od21,.func (PySem.W.fnOf "order_mark" "order_mark" (aO eN) (aN eN) (aD eN) .none kV21 dc21 pm21 an21 cd21 ct21),sl21⟩)
  (c21:codeIn K cd21 "order_mark" = true)
  (k21:keepIn K (.ref f21)=true)
  (a22:nsIn K mainGlobals "order_key" = some (some (.ref f22)))
  (l22:K.lookup f22=some ⟨oc22,od22,.func (PySem.W.fnOf "order_key" "order_key" (aO eI) (aN eI) (aD eI) .none kV22 dc22 pm22 an22 cd22 ct22),sl22⟩)
  (c22:codeIn K cd22 "order_key" = true)
  (k22:keepIn K (.ref f22)=true)
  (a23:nsIn K mainGlobals "opened" = some (some (.ref f23)))
  (l23:K.lookup f23=some ⟨oc23,od23,.func (PySem.W.fnOf "opened" "opened" (aO i8) (aN i8) (aD i8) .none kV23 dc23 pm23 an23 cd23 ct23),sl23⟩)
  (c23:codeIn K cd23 "opened" = true)
  (k23:keepIn K (.ref f23)=true)
  (a24:nsIn K mainGlobals "flat_sum" = some (some (.ref f24)))
  (l24:K.lookup f24=some ⟨oc24,od24,.func (PySem.W.fnOf "flat_sum" "flat_sum" (aO gI) (aN gI) (aD gI) .none kV24 dc24 pm24 an24 cd24 ct24),sl24⟩)
  (c24:codeIn K cd24 "flat_sum" = true)
  (k24:keepIn K (.ref f24)=true)
  (a25:nsIn K mainGlobals "flat_of_parts" = some (some (.ref f25)))
  (l25:K.lookup f25=some ⟨oc25,od25,.func (PySem.W.fnOf "flat_of_parts" "flat_of_parts" (aO cV) (aN cV) (aD cV) .none kV25 dc25 pm25 an25 cd25 ct25),sl25⟩)
  (c25:codeIn K cd25 "flat_of_parts" = true)
  (k25:keepIn K (.ref f25)=true)
  (a26:nsIn K mainGlobals "from_within" = some (some (.ref f26)))
  (l26:K.lookup f26=some ⟨oc26,od26,.func (PySem.W.fnOf "from_within" "from_within" (aO dH) (aN dH) (aD dH) .none kV26 dc26 pm26 an26 cd26 ct26),sl26⟩)
  (c26:codeIn K cd26 "from_within" = true)
  (k26:keepIn K (.ref f26)=true)
  (a27:nsIn K mainGlobals "put_in" = some (some (.ref f27)))
  (l27:K.lookup f27=some ⟨oc27,od27,.func (PySem.W.fnOf "put_in" "put_in" (aO cZ) (aN cZ) (aD cZ) .none kV27 dc27 pm27 an27 (.ref cc) ct27),sl27⟩)
  (c27:codeIn K (.ref cc) "put_in" = true)
  (k27:keepIn K (.ref f27)=true)
  (t2:K.lookup cc=some ⟨ocq,odq,.fields vq,slq⟩)
  (t3:vq[11]?=some (.ref Pt))
  (t0:tabIn K "put_in" = some (cc,Pt))
  (t1:K.lookup Pt=none)
  (a28:nsIn K mainGlobals "is_term" = some (some (.ref f28)))
  (l28:K.lookup f28=some ⟨oc28,od28,.func (PySem.W.fnOf "is_term" "is_term" (aO h8) (aN h8) (aD h8) .none kV28 dc28 pm28 an28 cd28 ct28),sl28⟩)
  (c28:codeIn K cd28 "is_term" = true)
  (k28:keepIn K (.ref f28)=true)
  (a29:nsIn K mainGlobals "check_filling" = some (some (.ref f29)))
  (l29:K.lookup f29=some ⟨oc29,od29,.func (PySem.W.fnOf "check_filling" "check_filling" (aO cW) (aN cW) (aD cW) .none kV29 dc29 pm29 an29 cd29 ct29),sl29⟩)
  (c29:codeIn K cd29 "check_filling" = true)
  (k29:keepIn K (.ref f29)=true)
  (a30:nsIn K mainGlobals "without_idle" = some (some (.ref f30)))
  (l30:K.lookup f30=some ⟨oc30,od30,.func (PySem.W.fnOf "without_idle" "without_idle" (aO cP) (aN cP) (aD cP) .none kV30 dc30 pm30 an30 cd30 ct30),sl30⟩)
  (c30:codeIn K cd30 "without_idle" = true)
  (k30:keepIn K (.ref f30)=true)
  (a31:nsIn K mainGlobals "looked_over" = some (some (.ref f31)))
  (l31:K.lookup f31=some ⟨oc31,od31,.func (PySem.W.fnOf "looked_over" "looked_over" (aO dG) (aN dG) (aD dG) .none kV31 dc31 pm31 an31 cd31 ct31),sl31⟩)
  (c31:codeIn K cd31 "looked_over" = true)
  (k31:keepIn K (.ref f31)=true)
  (a32:nsIn K mainGlobals "is_name" = some (some (.ref f32)))
  (l32:K.lookup f32=some ⟨oc32,od32,.func (PySem.W.fnOf "is_name" "is_name" (aO gM) (aN gM) (aD gM) .none kV32 dc32 pm32 an32 cd32 ct32),sl32⟩)
  (c32:codeIn K cd32 "is_name" = true)
  (k32:keepIn K (.ref f32)=true)
  (a33:nsIn K mainGlobals "is_whole" = some (some (.ref f33)))
  (l33:K.lookup f33=some ⟨oc33,od33,.func (PySem.W.fnOf "is_whole" "is_whole" (aO gG) (aN gG) (aD gG) .none kV33 dc33 pm33 an33 cd33 ct33),sl33⟩)
  (c33:codeIn K cd33 "is_whole" = true)
  (k33:keepIn K (.ref f33)=true)
  (a34:nsIn K mainGlobals "checked_pairs" = some (some (.ref f34)))
  (l34:K.lookup f34=some ⟨oc34,od34,.func (PySem.W.fnOf "checked_pairs" "checked_pairs" (aO cG) (aN cG) (aD cG) .none kV34 dc34 pm34 an34 cd34 ct34),sl34⟩)
  (c34:codeIn K cd34 "checked_pairs" = true)
  (k34:keepIn K (.ref f34)=true)
  (a35:nsIn K mainGlobals "check_names" = some (some (.ref f35)))
  (l35:K.lookup f35=some ⟨oc35,od35,.func (PySem.W.fnOf "check_names" "check_names" (aO cM) (aN cM) (aD cM) .none kV35 dc35 pm35 an35 cd35 ct35),sl35⟩)
  (c35:codeIn K cd35 "check_names" = true)
  (k35:keepIn K (.ref f35)=true)
  (a36:nsIn K mainGlobals "check_parts" = some (some (.ref f36)))
  (l36:K.lookup f36=some ⟨oc36,od36,.func (PySem.W.fnOf "check_parts" "check_parts" (aO dI) (aN dI) (aD dI) .none kV36 dc36 pm36 an36 cd36 ct36),sl36⟩)
  (c36:codeIn K cd36 "check_parts" = true)
  (k36:keepIn K (.ref f36)=true)
  (a37:nsIn K mainGlobals "check_noughts" = some (some (.ref f37)))
  (l37:K.lookup f37=some ⟨oc37,od37,.func (PySem.W.fnOf "check_noughts" "check_noughts" (aO cH) (aN cH) (aD cH) .none kV37 dc37 pm37 an37 cd37 ct37),sl37⟩)
  (c37:codeIn K cd37 "check_noughts" = true)
  (k37:keepIn K (.ref f37)=true)
  (a38:findIn K (.ref C) "__init__" = some (some (.ref f38)))
  (l38:K.lookup f38=some ⟨oc38,od38,.func (PySem.W.fnOf "__init__" "Signs.__init__" (aO cA) (aN cA) (aD cA) .none kV38 dc38 pm38 an38 cd38 ct38),sl38⟩)
  (c38:codeIn K cd38 "Signs.__init__" = true)
  (k38:keepIn K (.ref f38)=true)
  (n38:isFn K (.ref f38)=true)
  (a39:nsIn K mainGlobals "kept" = some (some (.ref f39)))
  (l39:K.lookup f39=some ⟨oc39,od39,.func (PySem.W.fnOf "kept" "kept" (aO lZ) (aN lZ) (aD lZ) .none kV39 dc39 pm39 an39 cd39 ct39),sl39⟩)
  (c39:codeIn K cd39 "kept" = true)
  (k39:keepIn K (.ref f39)=true)
  (a40:nsIn K mainGlobals "new_wishes" = some (some (.ref f40)))
  (l40:K.lookup f40=some ⟨oc40,od40,.func (PySem.W.fnOf "new_wishes" "new_wishes" (aO eQ) (aN eQ) (aD eQ) .none kV40 dc40 pm40 an40 cd40 ct40),sl40⟩)
  (c40:codeIn K cd40 "new_wishes" = true)
  (k40:keepIn K (.ref f40)=true)
  (a41:nsIn K mainGlobals "_law_own" = some (some (.ref f41)))
  (l41:K.lookup f41=some ⟨oc41,od41,.func (PySem.W.fnOf "_law_own" "_law_own" (aO fI) (aN fI) (aD fI) .none kV41 dc41 pm41 an41 cd41 ct41),sl41⟩)
  (c41:codeIn K cd41 "_law_own" = true)
  (k41:keepIn K (.ref f41)=true)
  (a42:nsIn K mainGlobals "_law_filling" = some (some (.ref f42)))
  (l42:K.lookup f42=some ⟨oc42,od42,.func (PySem.W.fnOf "_law_filling" "_law_filling" (aO dM) (aN dM) (aD dM) .none kV42 dc42 pm42 an42 cd42 ct42),sl42⟩)
  (c42:codeIn K cd42 "_law_filling" = true)
  (k42:keepIn K (.ref f42)=true)
  (a43:nsIn K mainGlobals "_law_more" = some (some (.ref f43)))
  (l43:K.lookup f43=some ⟨oc43,od43,.func (PySem.W.fnOf "_law_more" "_law_more" (aO fJ) (aN fJ) (aD fJ) .none kV43 dc43 pm43 an43 cd43 ct43),sl43⟩)
  (c43:codeIn K cd43 "_law_more" = true)
  (k43:keepIn K (.ref f43)=true)
  (a44:nsIn K mainGlobals "_law_looked" = some (some (.ref f44)))
  (l44:K.lookup f44=some ⟨oc44,od44,.func (PySem.W.fnOf "_law_looked" "_law_looked" (aO d8) (aN d8) (aD d8) .none kV44 dc44 pm44 an44 cd44 ct44),sl44⟩)
  (c44:codeIn K cd44 "_law_looked" = true)
  (k44:keepIn K (.ref f44)=true)
  (a45:nsIn K mainGlobals "_law_some" = some (some (.ref f45)))
  (l45:K.lookup f45=some ⟨oc45,od45,.func (PySem.W.fnOf "_law_some" "_law_some" (aO eJ) (aN eJ) (aD eJ) .none kV45 dc45 pm45 an45 cd45 ct45),sl45⟩)
  (c45:codeIn K cd45 "_law_some" = true)
  (k45:keepIn K (.ref f45)=true)
  (a46:nsIn K mainGlobals "_law_near" = some (some (.ref f46)))
  (l46:K.lookup f46=some ⟨oc46,od46,.func (PySem.W.fnOf "_law_near" "_law_near" (aO eK) (aN eK) (aD eK) .none kV46 dc46 pm46 an46 cd46 ct46),sl46⟩)
  (c46:codeIn K cd46 "_law_near" = true)
  (k46:keepIn K (.ref f46)=true)
  (a47:nsIn K mainGlobals "_law_new" = some (some (.ref f47)))
  (l47:K.lookup f47=some ⟨oc47,od47,.func (PySem.W.fnOf "_law_new" "_law_new" (aO eS) (aN eS) (aD eS) .none kV47 dc47 pm47 an47 cd47 ct47),sl47⟩)
  (c47:codeIn K cd47 "_law_new" = true)
  (k47:keepIn K (.ref f47)=true)
  (a48:nsIn K mainGlobals "_law_are_new" = some (some (.ref f48)))
  (l48:K.lookup f48=some ⟨oc48,od48,.func (PySem.W.fnOf "_law_are_new" "_law_are_new" (aO dN) (aN dN) (aD dN) .none kV48 dc48 pm48 an48 cd48 ct48),sl48⟩)
  (c48:codeIn K cd48 "_law_are_new" = true)
  (k48:keepIn K (.ref f48)=true)
  (a49:nsIn K mainGlobals "_law_is_kept" = some (some (.ref f49)))
  (l49:K.lookup f49=some ⟨oc49,od49,.func (PySem.W.fnOf "_law_is_kept" "_law_is_kept" (aO cQ) (aN cQ) (aD cQ) .none kV49 dc49 pm49 an49 cd49 ct49),sl49⟩)
  (c49:codeIn K cd49 "_law_is_kept" = true)
  (k49:keepIn K (.ref f49)=true)
  (a50:nsIn K mainGlobals "law" = some (some (.ref f50)))
  (l50:K.lookup f50=some ⟨oc50,od50,.func (PySem.W.fnOf "law" "law" (aO nH) (aN nH) (aD nH) .none kV50 dc50 pm50 an50 cd50 ct50),sl50⟩)
  (c50:codeIn K cd50 "law" = true)
  (k50:keepIn K (.ref f50)=true)
  (g1:plainGet K C Str.empty=true)
  (g2:hasDictIn K C=true)
  (g3:plainOver K C=true)
  (g4:findIn K (.ref C) "__setattr__" = some (some (.builtin "object.__setattr__")))
  (h0:findIn K (.ref C) "fixed_rows" = some none)
  (h1:findIn K (.ref C) "sum_rows" = some none)
  (h2:findIn K (.ref C) "many_by_name" = some none)
  (h3:findIn K (.ref C) "nought_by_name" = some none)
  (g5:makesIn K C=true)
  (g6:keepIn K (.ref C)=true)
  (v0:nsIn K mainGlobals "WISH_SIGNS" = some (some (.str "abcdefghijklmnopqrstuvwxyz0123456789" tk0)))
  (v1:nsIn K mainGlobals "LETTERS" = some (some (.str "abcdefghijklmnopqrstuvwxyz" tk1)))
  (v2:nsIn K mainGlobals "LONGEST_WISH" = some (some (.int 9 tk2)))
  (v3:nsIn K mainGlobals "DEEPEST" = some (some (.int 1000 tk3)))
  (v4:nsIn K mainGlobals "LONGEST_NAME" = some (some (.int 6 tk4)))
  (v5:nsIn K mainGlobals "MOST_FIXED" = some (some (.int 12 tk5)))
  (v6:nsIn K mainGlobals "MOST_SUMS" = some (some (.int 3 tk6)))
  (v7:nsIn K mainGlobals "MOST_PARTS" = some (some (.int 3 tk7)))
  (z0:nsIn K mainGlobals "len" = some none)
  (z1:nsIn K mainGlobals "range" = some none)
  (z2:nsIn K mainGlobals "int" = some none)
  (z3:nsIn K mainGlobals "abs" = some none)
  (z4:nsIn K mainGlobals "min" = some none)
  (z5:nsIn K mainGlobals "max" = some none)
  (z6:nsIn K mainGlobals "tuple" = some none)
  (z7:nsIn K mainGlobals "list" = some none)
  (z8:nsIn K mainGlobals "dict" = some none)
  (z9:nsIn K mainGlobals "set" = some none)
  (z10:nsIn K mainGlobals "isinstance" = some none)
  (z11:nsIn K mainGlobals "str" = some none)
  (z12:nsIn K mainGlobals "bool" = some none)
  (z13:nsIn K mainGlobals "sorted" = some none)
  (z14:nsIn K mainGlobals "reversed" = some none)
  (z15:nsIn K mainGlobals "all" = some none)
  (z16:nsIn K mainGlobals "any" = some none)
  (z17:nsIn K mainGlobals "zip" = some none)
  (z18:nsIn K mainGlobals "repr" = some none)
  : ∃(fd:FuncData) (c Pt:Addr),tabIn K "put_in" = some (c,Pt)/\K.lookup Pt=none/\(∀(s:Shared) (v:Value),BindsTo s fd ⟨[v],[]⟩ [("_law_script",v)]) /\
   ∀base:Heap,K.In base->base.Ns mainGlobals mg->Bm mg base->(∀h,K.In h->CodeHd h c Pt)->sC l.prog w K mg base bA 17 fa fd ["_law_script"] (spLaw K Pt):=by
 have e:=hfa.symm.trans (cz X G a50);cases e;have T:Txt mg:=⟨da X G z0,da X G z1,da X G z2,da X G z3,da X G z4,da X G z5,da X G z6,da X G z7,da X G z8,da X G z9,da X G z10,da X G z11,da X G z12,da X G z13,da X G z14,da X G z15,da X G z16,da X G z17,da X G z18,⟨_,cz X G v0,⟨_,rfl⟩⟩,⟨_,cz X G v1,⟨_,rfl⟩⟩,⟨_,cz X G v2,⟨_,rfl⟩⟩,⟨_,cz X G v3,⟨_,rfl⟩⟩,⟨_,cz X G v4,⟨_,rfl⟩⟩,⟨_,cz X G v5,⟨_,rfl⟩⟩,⟨_,cz X G v6,⟨_,rfl⟩⟩,⟨_,cz X G v7,⟨_,rfl⟩⟩⟩
 have cl:JD K C:=⟨g1,g2,g3,g4⟩
 have co:P4 K C:=⟨cl,h0,h1,h2,h3⟩
 have F1:=bB (st:=fK) l1 c1 k1;have b1:=F1.binds (ps:=mR) λ_ _ _ _ _ _ us b=>by apply len2 b;intros;rfl
 have F2:=bB (st:=gJ) l2 c2 k2;have b2:=F2.binds (ps:=oF) λ_ _ _ _ _ _ us b=>by apply len2 b;intros;rfl
 have F3:=bB (st:=fG) l3 c3 k3;have b3:=F3.binds (ps:=mL) λ_ _ _ _ _ _ us b=>by apply len2 b;intros;rfl
 have F4:=bB (st:=fF) l4 c4 k4;have b4:=F4.binds (ps:=mK) λ_ _ _ _ _ _ us b=>by apply len2 b;intros;rfl
 have F5:=bB (st:=eT) l5 c5 k5;have b5:=F5.binds (ps:=lK) λ_ _ _ _ _ _ us b=>by apply len2 b;intros;rfl
 have F6:=bB (st:=dD) l6 c6 k6;have b6:=F6.binds (ps:=lJ) λ_ _ _ _ _ _ us b=>by apply len1 b;intros;rfl
 have F7:=bB (st:=dZ) l7 c7 k7;have b7:=F7.binds (ps:=j7) λ_ _ _ _ _ _ us b=>by apply len1 b;intros;rfl
 have F8:=bB (st:=eL) l8 c8 k8;have b8:=F8.binds (ps:=mQ) λ_ _ _ _ _ _ us b=>by apply len3 b;intros;rfl
 have F9:=bB (st:=dE) l9 c9 k9;have b9:=F9.binds (ps:=lL) λ_ _ _ _ _ _ us b=>by apply len2 b;intros;rfl
 have F10:=bB (st:=dW) l10 c10 k10;have b10:=F10.binds (ps:=gO) λ_ _ _ _ _ _ us b=>by apply len5 b;intros;rfl
 have F11:=bB (st:=fH) l11 c11 k11;have b11:=F11.binds (ps:=mM) λ_ _ _ _ _ _ us b=>by apply len1 b;intros;rfl
 have F12:=bB (st:=dF) l12 c12 k12;have b12:=F12.binds (ps:=fT) λ_ _ _ _ _ _ us b=>by apply len2 b;intros;rfl
 have F13:=bB (st:=d5) l13 c13 k13;have b13:=F13.binds (ps:=j8) λ_ _ _ _ _ _ us b=>by apply len3 b;intros;rfl
 have F14:=bB (st:=dJ) l14 c14 k14;have b14:=F14.binds (ps:=gQ) λ_ _ _ _ _ _ us b=>by apply len2 b;intros;rfl
 have F15:=bB (st:=eU) l15 c15 k15;have b15:=F15.binds (ps:=lM) λ_ _ _ _ _ _ us b=>by apply len2 b;intros;rfl
 have F16:=bB (st:=dP) l16 c16 k16;have b16:=F16.binds (ps:=jI) λ_ _ _ _ _ _ us b=>by apply len2 b;intros;rfl
 have F17:=bB (st:=gL) l17 c17 k17;have b17:=F17.binds (ps:=rB) λ_ _ _ _ _ _ us b=>by apply len1 b;intros;rfl
 have F18:=bB (st:=gH) l18 c18 k18;have b18:=F18.binds (ps:=oC) λ_ _ _ _ _ _ us b=>by apply len2 b;intros;rfl
 have F19:=bB (st:=dU) l19 c19 k19;have b19:=F19.binds (ps:=lI) λ_ _ _ _ _ _ us b=>by apply len2 b;intros;rfl
 have F20:=bB (st:=i5) l20 c20 k20;have b20:=F20.binds (ps:=vD) λ_ _ _ _ _ _ us b=>by apply len1 b;intros;rfl
 have F21:=bB (st:=eN) l21 c21 k21;have b21:=F21.binds (ps:=lG) λ_ _ _ _ _ _ us b=>by apply len1 b;intros;rfl
 have F22:=bB (st:=eI) l22 c22 k22;have b22:=F22.binds (ps:=mJ) λ_ _ _ _ _ _ us b=>by apply len1 b;intros;rfl
 have F23:=bB (st:=i8) l23 c23 k23;have b23:=F23.binds (ps:=vF) λ_ _ _ _ _ _ us b=>by apply len2 b;intros;rfl
 have F24:=bB (st:=gI) l24 c24 k24;have b24:=F24.binds (ps:=oE) λ_ _ _ _ _ _ us b=>by apply len3 b;intros;rfl
 have F25:=bB (st:=cV) l25 c25 k25;have b25:=F25.binds (ps:=iM) λ_ _ _ _ _ _ us b=>by apply len3 b;intros;rfl
 have F26:=bB (st:=dH) l26 c26 k26;have b26:=F26.binds (ps:=j4) λ_ _ _ _ _ _ us b=>by apply len3 b;intros;rfl
 have F27:=bB (st:=cZ) l27 c27 k27;have b27:=F27.binds (ps:=vE) λ_ _ _ _ _ _ us b=>by apply len3 b;intros;rfl
 have F28:=bB (st:=h8) l28 c28 k28;have b28:=F28.binds (ps:=rC) λ_ _ _ _ _ _ us b=>by apply len2 b;intros;rfl
 have F29:=bB (st:=cW) l29 c29 k29;have b29:=F29.binds (ps:=iP) λ_ _ _ _ _ _ us b=>by apply len2 b;intros;rfl
 have F30:=bB (st:=cP) l30 c30 k30;have b30:=F30.binds (ps:=jE) λ_ _ _ _ _ _ us b=>by apply len1 b;intros;rfl
 have F31:=bB (st:=dG) l31 c31 k31;have b31:=F31.binds (ps:=jZ) λ_ _ _ _ _ _ us b=>by apply len2 b;intros;rfl
 have F32:=bB (st:=gM) l32 c32 k32;have b32:=F32.binds (ps:=rD) λ_ _ _ _ _ _ us b=>by apply len1 b;intros;rfl
 have F33:=bB (st:=gG) l33 c33 k33;have b33:=F33.binds (ps:=oB) λ_ _ _ _ _ _ us b=>by apply len1 b;intros;rfl
 have F34:=bB (st:=cG) l34 c34 k34;have b34:=F34.binds (ps:=iN) λ_ _ _ _ _ _ us b=>by apply len3 b;intros;rfl
 have F35:=bB (st:=cM) l35 c35 k35;have b35:=F35.binds (ps:=j6) λ_ _ _ _ _ _ us b=>by apply len1 b;intros;rfl
 have F36:=bB (st:=dI) l36 c36 k36;have b36:=F36.binds (ps:=j5) λ_ _ _ _ _ _ us b=>by apply len1 b;intros;rfl
 have F37:=bB (st:=cH) l37 c37 k37;have b37:=F37.binds (ps:=iO) λ_ _ _ _ _ _ us b=>by apply len2 b;intros;rfl
 have F38:=bB (st:=cA) l38 c38 k38;have b38:=F38.binds (ps:=iA) λ_ _ _ _ _ _ us b=>by apply len3 b;intros;rfl
 have F39:=bB (st:=lZ) l39 c39 k39;have b39:=F39.binds (ps:=EO) λ_ _ _ _ _ _ us b=>by apply len3 b;intros;rfl
 have F40:=bB (st:=eQ) l40 c40 k40;have b40:=F40.binds (ps:=lH) λ_ _ _ _ _ _ us b=>by apply len2 b;intros;rfl
 have F41:=bB (st:=fI) l41 c41 k41;have b41:=F41.binds (ps:=oG) λ_ _ _ _ _ _ us b=>by apply len3 b;intros;rfl
 have F42:=bB (st:=dM) l42 c42 k42;have b42:=F42.binds (ps:=jG) λ_ _ _ _ _ _ us b=>by apply len3 b;intros;rfl
 have F43:=bB (st:=fJ) l43 c43 k43;have b43:=F43.binds (ps:=mP) λ_ _ _ _ _ _ us b=>by apply len1 b;intros;rfl
 have F44:=bB (st:=d8) l44 c44 k44;have b44:=F44.binds (ps:=j9) λ_ _ _ _ _ _ us b=>by apply len2 b;intros;rfl
 have F45:=bB (st:=eJ) l45 c45 k45;have b45:=F45.binds (ps:=mN) λ_ _ _ _ _ _ us b=>by apply len2 b;intros;rfl
 have F46:=bB (st:=eK) l46 c46 k46;have b46:=F46.binds (ps:=mO) λ_ _ _ _ _ _ us b=>by apply len1 b;intros;rfl
 have F47:=bB (st:=eS) l47 c47 k47;have b47:=F47.binds (ps:=oH) λ_ _ _ _ _ _ us b=>by apply len2 b;intros;rfl
 have F48:=bB (st:=dN) l48 c48 k48;have b48:=F48.binds (ps:=jH) λ_ _ _ _ _ _ us b=>by apply len2 b;intros;rfl
 have F49:=bB (st:=cQ) l49 c49 k49;have b49:=F49.binds (ps:=jF) λ_ _ _ _ _ _ us b=>by apply len4 b;intros;rfl
 have F50:=bB (st:=nH) l50 c50 k50;refine⟨PySem.W.fnOf "law" "law" (aO nH) (aN nH) (aD nH) .none kV50 dc50 pm50 an50 cd50 ct50,cc,Pt,t0,t1,λs v=>.of_eq rfl,λbase _ _ hB hC=>?_⟩;have O__law_cell:cC l.prog w K mg base bA 1 "_law_cell" (C9 K):=⟨f1,_,_,OB F1 T,cz X G a1,k1,b1⟩
 have O__law_pot:cC l.prog w K mg base bA 2 "_law_pot" (spPot K):=⟨f2,_,_,Q9 F2 T O__law_cell,cz X G a2,k2,b2⟩
 have a:cC l.prog w K mg base bA 1 "_law_take" dB:=⟨f3,_,_,NX F3 T,cz X G a3,k3,b3⟩
 have Z:cC l.prog w K mg base bA 1 "_law_word" CZ:=⟨f4,_,_,NU F4 T,cz X G a4,k4,b4⟩
 have Q:cC l.prog w K mg base bA 2 "_law_names" yM:=⟨f5,_,_,KQ F5 T a Z,cz X G a5,k5,b5⟩
 have O:cC l.prog w K mg base bA 3 "_law_signs" yI:=⟨f6,_,_,KM F6 T a Q,cz X G a6,k6,b6⟩
 have H:cC l.prog w K mg base bA 2 "_law_wishes" yP:=⟨f7,_,_,KW F7 T a,cz X G a7,k7,b7⟩
 have O__law_leaf:cC l.prog w K mg base bA 2 "_law_leaf" pY:=⟨f8,_,_,N5 F8 T a,cz X G a8,k8,b8⟩
 have R:cC l.prog w K mg base bA 1 "_law_heads" oQ:=⟨f9,_,_,KU F9 T,cz X G a9,k9,b9⟩
 have O__law_term:cC l.prog w K mg base bA 12 "_law_term" (nU 8):=KD F10 T a O__law_leaf R (cz X G a10) k10 b10 8;have O__law_sort:cC l.prog w K mg base bA 1 "_law_sort" tI:=⟨f11,_,_,NY F11 T,cz X G a11,k11,b11⟩
 have g:=λm=>G7 (P:=l.prog) (w:=w) (base:=base) F12 T O__law_sort (cz X G a12) k12 b12 m;have O__law_ahead:cC l.prog w K mg base bA 13 "_law_ahead" (jO 11):=g 11;have I:cC l.prog w K mg base bA 1 "_law_opened" lU:=⟨f13,_,_,HA F13 T,cz X G a13,k13,b13⟩
 have O__law_flat:cC l.prog w K mg base bA 14 "_law_flat" (qA 11):=KF F14 T g I (cz X G a14) k14 b14 11;have S:JA l.prog w K mg base bA 1 C "many" (C5 K C):=⟨f15,_,_,N4 F15 T,⟨a15,n15,k15⟩,b15,cl⟩
 have d:JA l.prog w K mg base bA 1 C "nought" (oP K C):=⟨f16,_,_,HB F16 T,⟨a16,n16,k16⟩,b16,cl⟩
 have A:cC l.prog w K mg base bA 1 "is_wish" yF:=⟨f17,_,_,NV F17 T,cz X G a17,k17,b17⟩
 have O_is_built:cC l.prog w K mg base bA 2 "is_built" (yR K C):=⟨f18,_,_,KZ F18 T A S d,cz X G a18,k18,b18⟩
 have N:cC l.prog w K mg base bA 3 "check_term" (yQ K C):=⟨f19,_,_,KY F19 T O_is_built,cz X G a19,k19,b19⟩
 have U:cC l.prog w K mg base bA 1 "walked" oO:=⟨f20,_,_,G9 F20 T,cz X G a20,k20,b20⟩
 have J:cC l.prog w K mg base bA 1 "order_mark" C4:=⟨f21,_,_,N3 F21 T,cz X G a21,k21,b21⟩
 have Y:cC l.prog w K mg base bA 2 "order_key" spKey:=⟨f22,_,_,RC F22 T J U,cz X G a22,k22,b22⟩
 have O_opened:cC l.prog w K mg base bA 1 "opened" pX:=⟨f23,_,_,DP F23 T,cz X G a23,k23,b23⟩
 have O_flat_sum:cC l.prog w K mg base bA 5 "flat_sum" pZ:=⟨f24,_,_,DR F24 T O_opened Y,cz X G a24,k24,b24⟩
 have j:cC l.prog w K mg base bA 6 "flat_of_parts" (hX K C):=⟨f25,_,_,DQ F25 T d O_flat_sum,cz X G a25,k25,b25⟩
 have B:cC l.prog w K mg base bA 8 "from_within" (spFW K C):=⟨f26,_,_,SL F26 T U j,cz X G a26,k26,b26⟩
 have O_put_in:cC l.prog w K mg base bA 9 "put_in" (yJ K C Pt):=⟨f27,_,_,KN l27 c27 hC hB B,cz X G a27,k27,b27⟩
 have O_is_term:cC l.prog w K mg base bA 4 "is_term" (C6 K C):=⟨f28,_,_,N7 F28 T N,cz X G a28,k28,b28⟩
 have q:cC l.prog w K mg base bA 5 "check_filling" (tM K C):=⟨f29,_,_,HF F29 T A O_is_term,cz X G a29,k29,b29⟩
 have r:cC l.prog w K mg base bA 1 "without_idle" C8:=⟨f30,_,_,N9 F30 T,cz X G a30,k30,b30⟩
 have z:cC l.prog w K mg base bA 10 "looked_over" (tK K C Pt):=⟨f31,_,_,HD F31 T q O_put_in r,cz X G a31,k31,b31⟩
 have O_is_name:cC l.prog w K mg base bA 1 "is_name" C3:=⟨f32,_,_,N2 F32 T,cz X G a32,k32,b32⟩
 have O_is_whole:cC l.prog w K mg base bA 1 "is_whole" yG:=⟨f33,_,_,KK F33 T,cz X G a33,k33,b33⟩
 have o:cC l.prog w K mg base bA 1 "checked_pairs" yL:=⟨f34,_,_,KP F34 T,cz X G a34,k34,b34⟩
 have F:cC l.prog w K mg base bA 2 "check_names" tJ:=⟨f35,_,_,HC F35 T O_is_name,cz X G a35,k35,b35⟩
 have E:cC l.prog w K mg base bA 2 "check_parts" yK:=⟨f36,_,_,KO F36 T O_is_whole,cz X G a36,k36,b36⟩
 have p:cC l.prog w K mg base bA 1 "check_noughts" nV:=⟨f37,_,_,BA F37 T,cz X G a37,k37,b37⟩
 have i:R4 l.prog w K mg base bA 3 "Signs" C (C7 K C):=⟨f38,_,_,N8 F38 T co o F E p,cz X G m0,⟨g5,a38,n38,g6⟩,b38⟩
 have O_kept:cC l.prog w K mg base bA 11 "kept" (yO K C Pt):=⟨f39,_,_,N6 F39 T z,cz X G a39,k39,b39⟩
 have L:cC l.prog w K mg base bA 1 "new_wishes" spNew:=⟨f40,_,_,RA F40 T,cz X G a40,k40,b40⟩
 have O__law_own:cC l.prog w K mg base bA 2 "_law_own" C0:=⟨f41,_,_,NZ F41 T a,cz X G a41,k41,b41⟩
 have u:cC l.prog w K mg base bA 13 "_law_filling" qB:=⟨f42,_,_,DS F42 T a O__law_own O__law_term,cz X G a42,k42,b42⟩
 have O__law_more:cC l.prog w K mg base bA 3 "_law_more" yN:=⟨f43,_,_,KR F43 T H a,cz X G a43,k43,b43⟩
 have f:cC l.prog w K mg base bA 15 "_law_looked" sN:=⟨f44,_,_,KS F44 T O__law_flat,cz X G a44,k44,b44⟩
 have O__law_some:cC l.prog w K mg base bA 2 "_law_some" yH:=⟨f45,_,_,KL F45 T a,cz X G a45,k45,b45⟩
 have O__law_near:cC l.prog w K mg base bA 2 "_law_near" C2:=⟨f46,_,_,N1 F46 T a,cz X G a46,k46,b46⟩
 have O__law_new:cC l.prog w K mg base bA 1 "_law_new" C1:=⟨f47,_,_,N0 F47 T,cz X G a47,k47,b47⟩
 have x:MA l.prog w K mg base bA 2 "_law_are_new" tN:=⟨f48,_,_,HG F48 T L O__law_new,cz X G a48,k48,b48⟩
 have t:MA l.prog w K mg base bA 16 "_law_is_kept" (tL K C Pt):=⟨f49,_,_,HE F49 T f O_kept,cz X G a49,k49,b49⟩
 exact RB F50 T O__law_pot O i O__law_more a u O__law_some t O_kept f O__law_near x
end Lw
open PySem PySem.W PyProof.Rows
set_option maxRecDepth 100000 in
set_option maxHeartbeats 0 in
theorem PySem.Challenge.cw_likefill_k24_kept_and_new_wishes_holds : PySem.Challenge.rw_likefill_k24_kept_and_new_wishes.Holds := by
 obtain⟨d,hdf,hn,k⟩:=Lw.red;refine k ?_
 k_fill
 refine Lw.walkT (l:=PySem.Challenge.rw_likefill_k24_kept_and_new_wishes) rfl hdf (λw h Y=>Y) rfl ?F
 case F =>
  intro w mg fa h KX G hmg;rw[hn]at hmg
  refine' Lw.RW KX G hmg ?_ ?_ ?_ ?_ ?_ ?_ ?_ ?_ ?_ ?_ ?_ ?_ ?_ ?_ ?_ ?_ ?_ ?_ ?_ ?_ ?_ ?_ ?_ ?_ ?_ ?_ ?_ ?_ ?_ ?_ ?_ ?_ ?_ ?_ ?_ ?_ ?_ ?_ ?_ ?_ ?_ ?_ ?_ ?_ ?_ ?_ ?_ ?_ ?_ ?_ ?_ ?_ ?_ ?_ ?_ ?_ ?_ ?_ ?_ ?_ ?_ ?_ ?_ ?_ ?_ ?_ ?_ ?_ ?_ ?_ ?_ ?_ ?_ ?_ ?_ ?_ ?_ ?_ ?_ ?_ ?_ ?_ ?_ ?_ ?_ ?_ ?_ ?_ ?_ ?_ ?_ ?_ ?_ ?_ ?_ ?_ ?_ ?_ ?_ ?_ ?_ ?_ ?_ ?_ ?_ ?_ ?_ ?_ ?_ ?_ ?_ ?_ ?t3 ?t0 ?t1 ?_ ?_ ?_ ?_ ?_ ?_ ?_ ?_ ?_ ?_ ?_ ?_ ?_ ?_ ?_ ?_ ?_ ?_ ?_ ?_ ?_ ?_ ?_ ?_ ?_ ?_ ?_ ?_ ?_ ?_ ?_ ?_ ?_ ?_ ?_ ?_ ?_ ?_ ?_ ?_ ?_ ?_ ?_ ?_ ?_ ?_ ?_ ?_ ?_ ?_ ?_ ?_ ?_ ?_ ?_ ?_ ?_ ?_ ?_ ?_ ?_ ?_ ?_ ?_ ?_ ?_ ?_ ?_ ?_ ?_ ?_ ?_ ?_ ?_ ?_ ?_ ?_ ?_ ?_ ?_ ?_ ?_ ?_ ?_ ?_ ?_ ?_ ?_ ?_ ?_ ?_ ?_ ?_ ?_ ?_ ?_ ?_ ?_ ?_ ?_ ?_ ?_ ?_ ?_ ?_ ?_ ?_ ?_ ?_ ?_ ?_ ?_ ?_ ?_ ?_ ?_ ?_ ?_ ?_ ?_ ?_ ?_ ?_ ?_ ?_ ?_ ?_ ?_ ?_ ?_
  all_goals try k_is
  (case t3=>rfl);(case t0=>kernel_rfl);(case t1=>kernel_rfl)
end
