import PyProof.Rows.All
import Wide.All
import OpenK.AllK
import Wide.FinOn
import Lean
import PyProof.EqAt
import PyProof.EqKinds
import PyProof.TupleCall
import PyProof.NeKinds
import KE.LcSums
import PyProof.ZipIter
import PyProof.Rows.SumAny
import PyProof.ExcClass3
import PyProof.ExcBaseAll.ValueError
import OpenK.KOwn
import PyProof.EnumFor
import PyProof.EnumMake
import PyProof.TupleIter
import KE.KIsAll
import PyProof.ExcArgsOwn
import PyProof.NsDelKeeps
import KE.KDictOf
import PyProof.AttrMissHeap
import PyProof.AutoSeq1
import KE.KRevIter
import PyProof.TupleOfSeq
import PyProof.CollectIter
import PyProof.TupleOfStr
import PyProof.SliceStr2
import PyProof.StrWalks
import KE.KSortTup
import PyProof.Rows.SortRuns
import PyProof.Rows.SetFrom
import PyProof.ReprRoads
import PyProof.CallFns
import PyProof.DictItemsLoops
import KE.KPairComp
import PyProof.DictWalks
import KE.KDictList
import KE.KEqDict
import PyProof.Rows.DictMethods
import PyProof.AutoListH
import PyProof.ReprLen
import PyProof.StrCalls2
import PyProof.StrBlock
import KE.KLam
import PySem.Challenge.RW_likefill_k22_whole_terms_filled
set_option Elab.async false
set_option linter.all false
set_option maxRecDepth 100000
set_option compiler.extract_closed false
set_option bootstrap.genMatcherCode false
set_option maxHeartbeats 4000000
open Lean Parser.Term in
local macro_rules
  | `(fun $bs:funBinder* => $b) => do
    let c (x : Syntax) := x.isOfKind ``anonymousCtor
    let some i := bs.findIdx? (c ·.raw) | Macro.throwUnsupported
    let xs := bs[i]!.raw[1].getSepArgs
    let n := xs.size
    if n < 3 || xs.any (fun x => !(x.isIdent || x.isOfKind ``hole || c x) || x.getId == `rfl) then Macro.throwUnsupported
    let mut r := b
    if i + 1 < bs.size then r ← `(fun $(bs.extract (i+1) bs.size)* => $b)
    let mut g : TSyntax ``funBinder := ⟨xs[n-1]!⟩
    for k in [0:n-1] do
      let h := mkIdent (← Macro.addMacroScope (.mkSimple s!"h{k}"))
      r ← `(($h).elim fun $(⟨xs[n-2-k]!⟩) $g => clear% $h; $r)
      g := ⟨h⟩
    `(fun $(bs.extract 0 i)* $g => $r)
abbrev aa:=@PySem.wpAny_bind
abbrev ab:=@if_neg
abbrev ac:=@Nat.le_refl
abbrev ae:=@List.length_map
abbrev af:=@PySem.Heap.get?_push_of_some
abbrev ag:=@List.size_toArray
abbrev ai:=@if_pos
abbrev aj:=@Nat.lt_of_le_of_lt
abbrev ao:=@PySem.wpAny_pure
abbrev aq:=@Nat.le_trans
abbrev au:=@List.length_cons
abbrev av:=@List.length_append
abbrev aw:=@PySem.Heap.get?_push_size
abbrev ax:=@Nat.zero_le
abbrev ay:=@List.mem_cons_self
abbrev az:=@List.getElem?_eq_getElem
abbrev ba:=@List.map_append
abbrev bc:=@List.mem_cons_of_mem
abbrev bd:=@PySem.Heap.lt_size
abbrev bf:=@List.map_cons
abbrev bg:=@Nat.lt_of_lt_of_le
abbrev bh:=@PySem.wpAny_loadPart'
abbrev bi:=@decide_eq_true
abbrev bj:=@List.mem_of_getElem?
abbrev bo:=@decide_eq_false
abbrev bp:=@List.append_nil
abbrev bq:=@Nat.ne_of_lt
abbrev br:=@Array.length_toList
abbrev bu:=@of_decide_eq_true
abbrev bv:=@List.length_take
abbrev bw:=@List.take_length
abbrev bx:=@List.length_drop
abbrev bz:=@List.mem_append_right
abbrev bI:=@List.getElem?_map
abbrev bS:=@Nat.add_le_add_left
abbrev ca:=@List.lookup_cons
abbrev cb:=@Nat.lt_irrefl
abbrev cf:=@Bool.eq_iff_iff
abbrev cg:=@PySem.wpAny_newObj_type
abbrev ci:=@List.mem_append_left
abbrev cj:=@PySem.wpAny_holding
abbrev ck:=@List.length_singleton
abbrev cm:=@List.map_map
abbrev cp:=@List.append_assoc
abbrev cq:=@Int.toNat_natCast
abbrev cr:=@List.getElem?_eq_some_iff
abbrev cs:=@List.mem_singleton
abbrev cu:=@List.mem_cons
abbrev cw:=@List.mem_append
abbrev cx:=@List.mem_map
abbrev cy:=@beq_eq_false_iff_ne
abbrev cz:=@List.nodup_cons
abbrev da:=@List.mem_filter
abbrev db:=@PySem.W.mg_of
abbrev dc:=@PySem.W.mg_none_of
abbrev de:=@PySem.F.plainAttrs_list
abbrev df:=@PySem.F.type_list_append
abbrev dg:=@PySem.F.slot_list_append
abbrev dh:=@PySem.PassesOwn.never
noncomputable abbrev cW:=List (PySem.Addr×PySem.Obj)
noncomputable abbrev cJ:=PySem.Value->PySem.Shared->Prop
noncomputable abbrev cP:=List (PySem.Str×Int)
noncomputable abbrev cE:=List (PySem.Str×PySem.Str)
noncomputable abbrev cS:=List PySem.Value
noncomputable abbrev aT:=List PySem.Str
noncomputable abbrev jB:=PySem.Str->Option PySem.Value
noncomputable abbrev pO:=List PySem.Expr
noncomputable abbrev n5:=Array PySem.Value
noncomputable abbrev NG:=Nat->PySem.Heap->Prop
theorem aI {a b:Prop}(x:a)(y:b):a/\b:=⟨x,y⟩
namespace L2
open PySem
noncomputable def AD (s:Stmt)(j:Nat):Stmt:=match s with
 | .ClassDef _ _ _ body _ _ _ _ _ _ _=>body.getD j (.Pass ⟨0,0,0,0⟩)
 | _=>.Pass ⟨0,0,0,0⟩
noncomputable def dD (s:Stmt):Arguments:=match s with
 | .FunctionDef _ a _ _ _ _ _ _ _ _=>a
 | _=>{posonlyargs:=[],args:=[],vararg:=none,kwonlyargs:=[],kw_defaults:=[],kwarg:=none,defaults:=[]}
noncomputable def cK (s:Stmt):List Stmt:=match s with
 | .FunctionDef _ _ b _ _ _ _ _ _ _=>b
 | _=>[]
noncomputable def aH (s:Stmt):Scope:=match s with
 | .FunctionDef _ _ _ _ _ _ c _ _ _=>c
 | _=>{kind:=.function,names:=[],isGenerator:=false,isCoroutine:=false}
end L2
namespace Lw
open PySem L2
noncomputable def top (i:Nat):Stmt:=PySem.Challenge.pw_likefill_k22_whole_terms_filled.main.body.getD i (.Pass ⟨0,0,0,0⟩)
noncomputable abbrev jK:Stmt:=top 41
noncomputable abbrev kY:Stmt:=top 42
noncomputable abbrev jH:Stmt:=top 43
noncomputable abbrev jG:Stmt:=top 44
noncomputable abbrev iP:Stmt:=top 45
noncomputable abbrev eQ:Stmt:=top 46
noncomputable abbrev g9:Stmt:=top 47
noncomputable abbrev iB:Stmt:=top 48
noncomputable abbrev eT:Stmt:=top 49
noncomputable abbrev fS:Stmt:=top 50
noncomputable abbrev jI:Stmt:=top 51
noncomputable abbrev eU:Stmt:=top 52
noncomputable abbrev hU:Stmt:=top 53
noncomputable abbrev eK:Stmt:=top 54
noncomputable abbrev q9:Stmt:=top 60
noncomputable abbrev kE:Stmt:=top 9
noncomputable abbrev kW:Stmt:=top 10
noncomputable abbrev gF:Stmt:=top 11
noncomputable abbrev oI:Stmt:=top 13
noncomputable abbrev iO:Stmt:=top 14
noncomputable abbrev iA:Stmt:=top 15
noncomputable abbrev oJ:Stmt:=top 16
noncomputable abbrev kX:Stmt:=top 17
noncomputable abbrev fI:Stmt:=top 18
noncomputable abbrev fF:Stmt:=top 19
noncomputable abbrev cQ:Stmt:=top 20
noncomputable abbrev zC:Stmt:=top 21
noncomputable abbrev kF:Stmt:=top 34
noncomputable abbrev kU:Stmt:=top 35
noncomputable abbrev d5:Stmt:=top 36
noncomputable abbrev eB:Stmt:=top 37
noncomputable abbrev fG:Stmt:=top 38
noncomputable abbrev d8:Stmt:=top 39
noncomputable abbrev cG:Stmt:=AD (top 33) 0
noncomputable abbrev dQ:Stmt:=AD (top 33) 3
noncomputable abbrev cZ:Stmt:=AD (top 33) 4
noncomputable abbrev mK:Stmt:=top 12
noncomputable abbrev fJ:Stmt:=top 23
noncomputable abbrev eJ:Stmt:=top 24
noncomputable abbrev fE:Stmt:=top 25
noncomputable abbrev oK:Stmt:=top 26
noncomputable abbrev iY:Stmt:=top 55
noncomputable abbrev gG:Stmt:=top 56
noncomputable abbrev jJ:Stmt:=top 57
noncomputable abbrev fQ:Stmt:=top 58
noncomputable abbrev eS:Stmt:=top 59
end Lw
namespace Lw
open PySem PySem.W L2
noncomputable def eO (P:Params)(x:Str)(t:Tok)(v:Value):DictEntry:=⟨PyData.keyHash P x,.str x t,v⟩
noncomputable def eR (P:Params)(x:Str)(t:Tok)(a:Addr):DictEntry:=eO P x t (.ref a)
noncomputable def dO (c:List DictEntry)(n:Nat):Obj:=⟨.type "dict",none,.dict c.toArray n,#[]⟩
noncomputable def fO (x q:Str)(st:Stmt)(m:Str)(t:Tok)(c:Addr):Obj:=⟨.type "function",none,.func (fnOf x q (dD st) (cK st) (aH st) .none .none .none (.str m t) none (.ref c) .none),#[]⟩
noncomputable def cO (x q:Str)(t1 d t3:Tok)(l n f:Int)(r1:Addr)(b:Bool)(i:Int)(g:Addr)(u v w:Value)(e:Addr)(h:Int)(c:Tok):Obj :=
 ⟨.type "code",none,.fields #[.str x t1,.str q d,.str "/claim/cut.py" t3,.int l 0,.int n 0,.int 0 0,.int 0 0,.int f 0,.ref r1,.bool b,.int i 0,.ref g,u,v,w,.ref e,.int h 0,.int l 0,.str "/claim/cut.py" c],#[]⟩
noncomputable def gO (x:Str)(st:Stmt)(m:Str)(t:Tok)(c:Addr):Obj:=fO x x st m t c
noncomputable def hO (x:Str)(t1 d t3:Tok)(l n f:Int)(r1:Addr)(b:Bool)(i:Int)(g:Addr)(u v w:Value)(e:Addr)(h:Int)(c:Tok):Obj:=cO x x t1 d t3 l n f r1 b i g u v w e h c
noncomputable def mO0:Str:="law_likefill_k22_whole_terms_filled"
noncomputable def mO1:Str:="likefill.fillings"
noncomputable def mO2:Str:="likefill.signs"
noncomputable def mO3:Str:="likefill.terms"
noncomputable def K0 (P:Params):PySem.W.Frag :=
 (nat_lit 3,dO [eO P "__name__" 165 (.str "law_likefill_k22_whole_terms_filled" 510),eO P "__doc__" 166 .none,eO P "__package__" 167 .none,eO P "__loader__" 168 (.builtin "__main__.__loader__#opaque"),eO P "__spec__" 169 .none,eR P "__annotations__" 170 6,eR P "__builtins__" 171 4,eO P "__file__" 173 (.str "/claim/cut.py" 172),eO P "__cached__" 174 .none,eR P "LikeError" 206 24,eR P "NoSigns" 222 37,eR P "NoTerm" 238 49,eR P "NoFilling" 254 61,eO P "WISH_SIGNS" 258 (.str "abcdefghijklmnopqrstuvwxyz0123456789" 257),eO P "LONGEST_WISH" 260 (.int 9 259),eO P "DEEPEST" 262 (.int 1000 261),eR P "is_wish" 268 68,eR P "is_built" 276 75,eR P "check_term" 282 80,eR P "is_term" 290 87,eR P "walked" 300 94,eR P "order_mark" 307 101,eR P "order_key" 313 106,eR P "opened" 321 113,eR P "flat_sum" 332 120,eR P "flat_of_parts" 342 127,eR P "from_within" 348 132,eR P "put_in" 358 139,eR P "flat" 366 146,eR P "check_filling" 378 153,eR P "without_idle" 384 158,eR P "looked_over" 390 163,eR P "filled" 400 170,eO P "LETTERS" 404 (.str "abcdefghijklmnopqrstuvwxyz" 403),eO P "LONGEST_NAME" 406 (.int 6 405),eO P "MOST_FIXED" 408 (.int 12 407),eO P "MOST_SUMS" 410 (.int 3 409),eO P "MOST_PARTS" 412 (.int 3 411),eR P "Signs" 472 213,eR P "is_name" 478 222,eR P "is_whole" 485 229,eR P "checked_pairs" 491 234,eR P "check_names" 497 239,eR P "check_parts" 503 244,eR P "check_noughts" 509 249,eR P "_law_cell" 519 256,eR P "_law_pot" 528 263,eR P "_law_take" 537 270,eR P "_law_word" 547 277,eR P "_law_names" 559 284,eR P "_law_signs" 565 289,eR P "_law_wishes" 576 296,eR P "_law_leaf" 582 301,eR P "_law_heads" 588 306,eR P "_law_term" 606 313,eR P "_law_sort" 613 320,eR P "_law_ahead" 623 327,eR P "_law_opened" 634 334,eR P "_law_flat" 640 339,eR P "_law_own" 646 344,eR P "_law_filling" 659 351,eR P "_law_more" 667 358,eR P "_law_put" 673 363,eR P "_law_is_filled" 685 370,eR P "law" 699 377] 65) ::
 (nat_lit 23,dO [eO P "__module__" 196 (.str "likefill.errors" 187),eO P "__firstlineno__" 200 (.int 2 199),eR P "__static_attributes__" 201 22,eR P "__weakref__" 203 25,eO P "__doc__" 204 .none] 3) ::
 (nat_lit 24,⟨.type "type",none,.cls ⟨"LikeError",[(.type "ValueError")],[(.ref 24),(.type "ValueError"),(.type "Exception"),(.type "BaseException"),(.type "object")],23,"LikeError",true,[],[(.ref 37),(.ref 49),(.ref 61)],false,none,false⟩,#[some (.ref 15),none,some (.str "LikeError" 189),some (.str "LikeError" 197),some (.builtin "ValueError.__new__"),some (.bool true)]⟩) ::
 (nat_lit 36,dO [eO P "__module__" 214 (.str "likefill.errors" 187),eO P "__firstlineno__" 218 (.int 4 217),eR P "__static_attributes__" 219 35,eO P "__doc__" 220 .none] 2) ::
 (nat_lit 37,⟨.type "type",none,.cls ⟨"NoSigns",[(.ref 24)],[(.ref 37),(.ref 24),(.type "ValueError"),(.type "Exception"),(.type "BaseException"),(.type "object")],36,"NoSigns",true,[],[],false,none,false⟩,#[some (.ref 28),none,some (.str "NoSigns" 207),some (.str "NoSigns" 215),some (.builtin "ValueError.__new__"),some (.bool true)]⟩) ::
 (nat_lit 48,dO [eO P "__module__" 230 (.str "likefill.errors" 187),eO P "__firstlineno__" 234 (.int 6 233),eR P "__static_attributes__" 235 47,eO P "__doc__" 236 .none] 2) ::
 (nat_lit 49,⟨.type "type",none,.cls ⟨"NoTerm",[(.ref 24)],[(.ref 49),(.ref 24),(.type "ValueError"),(.type "Exception"),(.type "BaseException"),(.type "object")],48,"NoTerm",true,[],[],false,none,false⟩,#[some (.ref 40),none,some (.str "NoTerm" 223),some (.str "NoTerm" 231),some (.builtin "ValueError.__new__"),some (.bool true)]⟩) ::
 (nat_lit 60,dO [eO P "__module__" 246 (.str "likefill.errors" 187),eO P "__firstlineno__" 250 (.int 8 249),eR P "__static_attributes__" 251 59,eO P "__doc__" 252 .none] 2) ::
 (nat_lit 61,⟨.type "type",none,.cls ⟨"NoFilling",[(.ref 24)],[(.ref 61),(.ref 24),(.type "ValueError"),(.type "Exception"),(.type "BaseException"),(.type "object")],60,"NoFilling",true,[],[],false,none,false⟩,#[some (.ref 52),none,some (.str "NoFilling" 239),some (.str "NoFilling" 247),some (.builtin "ValueError.__new__"),some (.bool true)]⟩) ::
 (nat_lit 67,hO "is_wish" 263 264 265 14 1 3 64 true 181 65 .none .none .none 66 266 267) ::
 (nat_lit 68,gO "is_wish" kE mO3 255 67) ::
 (nat_lit 74,hO "is_built" 269 270 271 18 2 3 69 true 181 70 .none (.ref 71) (.ref 72) 73 274 275) ::
 (nat_lit 75,gO "is_built" kW mO3 255 74) ::
 (nat_lit 79,hO "check_term" 277 278 279 26 2 3 76 true 181 77 .none .none .none 78 280 281) ::
 (nat_lit 80,gO "check_term" gF mO3 255 79) ::
 (nat_lit 86,hO "is_term" 283 284 285 34 2 3 81 true 181 82 .none (.ref 83) (.ref 84) 85 288 289) ::
 (nat_lit 87,gO "is_term" mK mO3 255 86) ::
 (nat_lit 93,hO "walked" 291 292 293 40 1 3 88 true 181 89 .none (.ref 90) (.ref 91) 92 298 299) ::
 (nat_lit 94,gO "walked" oI mO3 255 93) ::
 (nat_lit 100,hO "order_mark" 301 302 303 49 1 3 95 true 181 96 .none (.ref 97) (.ref 98) 99 305 306) ::
 (nat_lit 101,gO "order_mark" iO mO3 255 100) ::
 (nat_lit 105,hO "order_key" 308 309 310 53 1 3 102 true 181 103 .none .none .none 104 311 312) ::
 (nat_lit 106,gO "order_key" iA mO3 255 105) ::
 (nat_lit 112,hO "opened" 314 315 316 57 2 3 107 true 181 108 .none (.ref 109) (.ref 110) 111 319 320) ::
 (nat_lit 113,gO "opened" oJ mO3 255 112) ::
 (nat_lit 119,hO "flat_sum" 322 323 324 61 3 3 114 true 181 115 .none (.ref 116) (.ref 117) 118 330 331) ::
 (nat_lit 120,gO "flat_sum" kX mO3 255 119) ::
 (nat_lit 126,hO "flat_of_parts" 333 334 335 71 3 3 121 true 181 122 .none (.ref 123) (.ref 124) 125 340 341) ::
 (nat_lit 127,gO "flat_of_parts" fI mO3 255 126) ::
 (nat_lit 131,hO "from_within" 343 344 345 76 3 3 128 true 181 129 .none .none .none 130 346 347) ::
 (nat_lit 132,gO "from_within" fF mO3 255 131) ::
 (nat_lit 138,hO "put_in" 349 350 351 85 3 3 133 true 181 134 .none (.ref 135) (.ref 136) 137 356 357) ::
 (nat_lit 139,gO "put_in" cQ mO3 255 138) ::
 (nat_lit 145,hO "flat" 359 360 361 87 2 3 140 true 181 141 .none (.ref 142) (.ref 143) 144 364 365) ::
 (nat_lit 146,gO "flat" zC mO3 255 145) ::
 (nat_lit 152,hO "check_filling" 369 370 371 91 2 3 147 true 181 148 .none (.ref 149) (.ref 150) 151 376 377) ::
 (nat_lit 153,gO "check_filling" fJ mO1 367 152) ::
 (nat_lit 157,hO "without_idle" 379 380 381 99 1 3 154 true 181 155 .none .none .none 156 382 383) ::
 (nat_lit 158,gO "without_idle" eJ mO1 367 157) ::
 (nat_lit 162,hO "looked_over" 385 386 387 101 2 3 159 true 181 160 .none .none .none 161 388 389) ::
 (nat_lit 163,gO "looked_over" fE mO1 367 162) ::
 (nat_lit 169,hO "filled" 391 392 393 104 3 3 164 true 181 165 .none (.ref 166) (.ref 167) 168 398 399) ::
 (nat_lit 170,gO "filled" oK mO1 367 169) ::
 (nat_lit 181,cO "__init__" "Signs.__init__" 425 426 427 116 3 3 178 true 181 179 .none .none .none 180 428 429) ::
 (nat_lit 182,fO "__init__" "Signs.__init__" cG "likefill.signs" 401 181) ::
 (nat_lit 202,cO "many" "Signs.many" 445 446 447 133 2 3 197 true 181 198 .none (.ref 199) (.ref 200) 201 450 451) ::
 (nat_lit 203,fO "many" "Signs.many" dQ "likefill.signs" 401 202) ::
 (nat_lit 209,cO "nought" "Signs.nought" 453 454 455 136 2 3 204 true 181 205 .none (.ref 206) (.ref 207) 208 458 459) ::
 (nat_lit 210,fO "nought" "Signs.nought" cZ "likefill.signs" 401 209) ::
 (nat_lit 212,dO [eO P "__module__" 420 (.str "likefill.signs" 401),eO P "__firstlineno__" 424 (.int 114 423),eR P "__init__" 430 182,eR P "fixed" 437 189,eR P "sums" 444 196,eR P "many" 452 203,eR P "nought" 460 210,eR P "__static_attributes__" 465 211,eR P "__dict__" 467 214,eR P "__weakref__" 469 215,eO P "__doc__" 470 .none] 4) ::
 (nat_lit 213,⟨.type "type",none,.cls ⟨"Signs",[(.type "object")],[(.ref 213),(.type "object")],212,"Signs",true,[],[],false,none,false⟩,#[none,none,some (.str "Signs" 413),some (.str "Signs" 421),some (.builtin "object.__new__"),some (.bool true)]⟩) ::
 (nat_lit 221,hO "is_name" 473 474 475 138 1 3 218 true 181 219 .none .none .none 220 476 477) ::
 (nat_lit 222,gO "is_name" kF mO2 401 221) ::
 (nat_lit 228,hO "is_whole" 479 480 481 142 1 3 223 true 181 224 .none (.ref 225) (.ref 226) 227 483 484) ::
 (nat_lit 229,gO "is_whole" kU mO2 401 228) ::
 (nat_lit 233,hO "checked_pairs" 486 487 488 144 3 3 230 true 181 231 .none .none .none 232 489 490) ::
 (nat_lit 234,gO "checked_pairs" d5 mO2 401 233) ::
 (nat_lit 238,hO "check_names" 492 493 494 151 1 3 235 true 181 236 .none .none .none 237 495 496) ::
 (nat_lit 239,gO "check_names" eB mO2 401 238) ::
 (nat_lit 243,hO "check_parts" 498 499 500 157 1 3 240 true 181 241 .none .none .none 242 501 502) ::
 (nat_lit 244,gO "check_parts" fG mO2 401 243) ::
 (nat_lit 248,hO "check_noughts" 504 505 506 163 2 3 245 true 181 246 .none .none .none 247 507 508) ::
 (nat_lit 249,gO "check_noughts" d8 mO2 401 248) ::
 (nat_lit 255,hO "_law_cell" 512 513 514 171 2 3 250 true 181 251 .none (.ref 252) (.ref 253) 254 517 518) ::
 (nat_lit 256,gO "_law_cell" jK mO0 510 255) ::
 (nat_lit 262,hO "_law_pot" 520 521 522 175 2 3 257 true 181 258 .none (.ref 259) (.ref 260) 261 526 527) ::
 (nat_lit 263,gO "_law_pot" kY mO0 510 262) ::
 (nat_lit 269,hO "_law_take" 529 530 531 178 2 3 264 true 181 265 .none (.ref 266) (.ref 267) 268 535 536) ::
 (nat_lit 270,gO "_law_take" jH mO0 510 269) ::
 (nat_lit 276,hO "_law_word" 538 539 540 185 2 3 271 true 181 272 .none (.ref 273) (.ref 274) 275 545 546) ::
 (nat_lit 277,gO "_law_word" jG mO0 510 276) ::
 (nat_lit 283,hO "_law_names" 548 549 550 191 2 3 278 true 181 279 .none (.ref 280) (.ref 281) 282 557 558) ::
 (nat_lit 284,gO "_law_names" iP mO0 510 283) ::
 (nat_lit 288,hO "_law_signs" 560 561 562 200 1 3 285 true 181 286 .none .none .none 287 563 564) ::
 (nat_lit 289,gO "_law_signs" eQ mO0 510 288) ::
 (nat_lit 295,hO "_law_wishes" 566 567 568 214 1 3 290 true 181 291 .none (.ref 292) (.ref 293) 294 574 575) ::
 (nat_lit 296,gO "_law_wishes" g9 mO0 510 295) ::
 (nat_lit 300,hO "_law_leaf" 577 578 579 222 3 3 297 true 181 298 .none .none .none 299 580 581) ::
 (nat_lit 301,gO "_law_leaf" iB mO0 510 300) ::
 (nat_lit 305,hO "_law_heads" 583 584 585 226 2 3 302 true 181 303 .none .none .none 304 586 587) ::
 (nat_lit 306,gO "_law_heads" eT mO0 510 305) ::
 (nat_lit 312,hO "_law_term" 589 590 591 231 5 3 307 true 181 308 .none (.ref 309) (.ref 310) 311 604 605) ::
 (nat_lit 313,gO "_law_term" fS mO0 510 312) ::
 (nat_lit 319,hO "_law_sort" 607 608 609 245 1 3 314 true 181 315 .none (.ref 316) (.ref 317) 318 611 612) ::
 (nat_lit 320,gO "_law_sort" jI mO0 510 319) ::
 (nat_lit 326,hO "_law_ahead" 614 615 616 249 2 3 321 true 181 322 .none (.ref 323) (.ref 324) 325 621 622) ::
 (nat_lit 327,gO "_law_ahead" eU mO0 510 326) ::
 (nat_lit 333,hO "_law_opened" 624 625 626 262 3 3 328 true 181 329 .none (.ref 330) (.ref 331) 332 632 633) ::
 (nat_lit 334,gO "_law_opened" hU mO0 510 333) ::
 (nat_lit 338,hO "_law_flat" 635 636 637 270 2 3 335 true 181 336 .none .none .none 337 638 639) ::
 (nat_lit 339,gO "_law_flat" eK mO0 510 338) ::
 (nat_lit 343,hO "_law_own" 641 642 643 286 3 3 340 true 181 341 .none .none .none 342 644 645) ::
 (nat_lit 344,gO "_law_own" iY mO0 510 343) ::
 (nat_lit 350,hO "_law_filling" 647 648 649 295 3 3 345 true 181 346 .none (.ref 347) (.ref 348) 349 657 658) ::
 (nat_lit 351,gO "_law_filling" gG mO0 510 350) ::
 (nat_lit 357,hO "_law_more" 660 661 662 305 1 3 352 true 181 353 .none (.ref 354) (.ref 355) 356 665 666) ::
 (nat_lit 358,gO "_law_more" jJ mO0 510 357) ::
 (nat_lit 362,hO "_law_put" 668 669 670 308 2 3 359 true 181 360 .none .none .none 361 671 672) ::
 (nat_lit 363,gO "_law_put" fQ mO0 510 362) ::
 (nat_lit 369,hO "_law_is_filled" 674 675 676 312 4 3 364 true 181 365 .none (.ref 366) (.ref 367) 368 683 684) ::
 (nat_lit 370,gO "_law_is_filled" eS mO0 510 369) ::
 (nat_lit 376,hO "law" 686 687 688 320 1 3 371 true 181 372 .none (.ref 373) (.ref 374) 375 697 698) ::
 (nat_lit 377,gO "law" q9 mO0 510 376)::[]
noncomputable def as0:List Addr:=[3,23,24,36,37,48,49,60,61,67,68,74,75,79,80,86,87,93,94,100,101,105,106,112,113,119,120,126,127,131,132,138,139,145,146,152,153,157,158,162,163,169,170,181,182,202,203,209,210,212,213,221,222,228,229,233,234,238,239,243,244,248,249,255,256,262,263,269,270,276,277,283,284,288,289,295,296,300,301,305,306,312,313,319,320,326,327,333,334,338,339,343,344,350,351,357,358,362,363,369,370,376,377]
noncomputable def without (ks:List Nat):Nat->List Stmt->List Stmt
 | _,[]=>[]
 | i,s::r=>if i∈ks then without ks (i+1) r else s::without ks (i+1) r
noncomputable def q0:Program:={PySem.Challenge.pw_likefill_k22_whole_terms_filled with main:={PySem.Challenge.pw_likefill_k22_whole_terms_filled.main with body:=without [0,5,22,27,40] 0 PySem.Challenge.pw_likefill_k22_whole_terms_filled.main.body} }
noncomputable def VA:Shared->Bool:=λs=>xlAt q0 [] s && recOk (RowW.records PySem.Challenge.rw_likefill_k22_whole_terms_filled.row.toRowW) s
theorem PV {p q:Program}{Xt:Shared->Bool}{α:Type}{Yf:Shared->α}{Ya:World->α}{N:Nat}
  (e:opening p=plainProg p.main.scope.names) (n:Nat.ble 600 N=true) (c:∀s,fenceModules? p s=some s)
  (h:∀w os,(topFrom treeTable p w N ⟨boot_heap w.params,⟨[]⟩,boot_drawn,boot_toks,os⟩).map (λs=>(openSeen q [] (importedModules p.main.body) Xt true s,Yf s))=some (openGood q [],Ya w)):LeftO p q [] Xt Yf Ya N:=λw=>by
 obtain⟨s,f,d⟩:=Option.map_eq_some_iff.mp (boot_open e n c w);obtain⟨l,j,i,g,os⟩:=s;cases d;unfold openEnds;rw[f];exact h w os
theorem ER {A B C R δ:Type}{o:Option Shared}{X:Shared->A×B×C×R}{Y:Shared->δ}{g:A×B×C×R}{y:δ}(c:(o.map λs=>((X s).1,Y s))=some (g.1,y))(d:(o.map λs=>((X s).2.1,(X s).2.2.1))=some (g.2.1,g.2.2.1))(e:(o.map λs=>(X s).2.2.2)=some g.2.2.2):(o.map λs=>(X s,Y s))=some (g,y):=by
 cases o with
 | none=>cases c
 | some s =>
  simp only[Option.map_some,Option.some.injEq,Prod.mk.injEq]at c d e⊢;exact⟨Prod.ext c.1 (Prod.ext d.1 (Prod.ext d.2 e)),c.2⟩
noncomputable def run0 (w:World)(os:OsState):Option Shared:=topFrom treeTable PySem.Challenge.rw_likefill_k22_whole_terms_filled.row.prog w 5250 ⟨boot_heap w.params,⟨[]⟩,boot_drawn,boot_toks,os⟩
noncomputable def seen0 (s:Shared):=openSeen q0 [] (importedModules PySem.Challenge.rw_likefill_k22_whole_terms_filled.row.prog.main.body) VA true s
theorem run1 (w:World)(os:OsState):((run0 w os).map λs=>((seen0 s).1,as0.map s.heap.get?))=some ((openGood q0 []).1,(K0 w.params).map λp=>some p.2):=by unfold run0 seen0 topFrom;rw[PySem.W.Fast.te14082659384304107361,PySem.W.Fast.te4187177175401517315,PySem.W.Fast.te14364793385576792824];kernel_rfl
theorem run2 (w:World)(os:OsState):((run0 w os).map λs=>((seen0 s).2.1,(seen0 s).2.2.1))=some ((openGood q0 []).2.1,(openGood q0 []).2.2.1):=by unfold run0 seen0 topFrom;rw[PySem.W.Fast.te14082659384304107361,PySem.W.Fast.te4187177175401517315,PySem.W.Fast.te14364793385576792824];kernel_rfl
theorem run3 (w:World)(os:OsState):((run0 w os).map λs=>(seen0 s).2.2.2)=some (openGood q0 []).2.2.2:=by unfold run0 seen0 topFrom;rw[PySem.W.Fast.te14082659384304107361,PySem.W.Fast.te4187177175401517315,PySem.W.Fast.te14364793385576792824];kernel_rfl
theorem left0:LeftO PySem.Challenge.rw_likefill_k22_whole_terms_filled.row.prog q0 [] VA (λs=>as0.map s.heap.get?) (λw=>(K0 w.params).map λp=>some p.2) 5250 :=
 PV (by kernel_rfl) (by kernel_rfl) (λs=>by kernel_rfl) λw os=>ER (X:=seen0) (run1 w os) (run2 w os) (run3 w os)
theorem keys0:∀P,as0=(K0 P).map (·.1):=λP=>by kernel_rfl
end Lw
namespace Lw
open PySem PySem.W PyProof.Rows
set_option maxRecDepth 100000 in
set_option maxHeartbeats 0 in
theorem red:∃d:DefRec,d.params.defaults=[]/\d.name=("law" : Str)/\(WalkO q0 [] (XL q0 []) (InK K0) PySem.Challenge.rw_likefill_k22_whole_terms_filled.row.toRowW d [] (λf vs=>PySem.call f vs)->PySem.Challenge.rw_likefill_k22_whole_terms_filled.Holds):=by
 refine' ⟨?d,?a,?b,λh=>?c⟩
 case c =>
  w_on
  refine holds_law (by kernel_rfl) λg=>?_;refine holds_open (q:=q0) (loose:=[]) (Xt:=VA) (XP:=XL q0 []) (YP:=InK K0) left0 (InK.of keys0) InK.keeps (λs e=>xl_of s (Bool.and_eq_true_iff.mp e).1) XL.keeps (by rfl) (by rfl) (by rfl) (λs e=>recFacts_of (Bool.and_eq_true_iff.mp e).2) (by rfl) g (by decide +kernel) ⟨rfl,rfl,rfl,rfl,rfl,by decide +kernel⟩ (by w_witness2) ?_
  k_fill
  exact h
 case a=>rfl
 case b=>rfl
end Lw
namespace L2
open PySem PySem.Spec PyProof.Rows
abbrev cM:=Sum Int Str
noncomputable def keyIs:cM->Value->Bool
 | .inl k,v=>Value.isInt k v
 | .inr x,v=>Value.isStrOf x v
noncomputable def keyH (w:World):cM->Int
 | .inl k=>hashInt k
 | .inr x=>hashStr w x
theorem cX:∀{k:cM} {v:Value},keyIs k v=true->(∃i t,k=Sum.inl i/\v=Value.int i t)∨(∃x t,k=Sum.inr x/\v=Value.str x t)
 | .inl i,v,h=>by
  obtain⟨t,e⟩:=Value.isInt_shape (k:=i) (v:=v) h;exact .inl ⟨i,t,rfl,e⟩
 | .inr x,v,h=>by obtain⟨t,e⟩:=Value.isStrOf_shape (x:=x) (v:=v) h;exact .inr ⟨x,t,rfl,e⟩
theorem I8 (i:Int)(t:Tok):keyIs (.inl i) (.int i t)=true:=by simp[keyIs,Value.isInt]
theorem xS (x:Str)(t:Tok):keyIs (.inr x) (.str x t)=true:=by simp[keyIs,Value.isStrOf]
theorem TD (a b:Int):decide ((Sum.inl a:cM)=Sum.inl b)=(a == b):=by
 by_cases e:a=b
 ·subst e;simp
 ·have h:¬(Sum.inl a:cM)=Sum.inl b:=λq=>e (Sum.inl.inj q);rw[bo h];exact(cy.mpr e).symm
theorem S9 (a b:Str):decide ((Sum.inr a:cM)=Sum.inr b)=decide (a=b):=by
 by_cases e:a=b
 ·subst e;simp
 ·have h:¬(Sum.inr a:cM)=Sum.inr b:=λq=>e (Sum.inr.inj q);rw[bo h,bo e]
theorem TC (a:Int)(b:Str):decide ((Sum.inl a:cM)=Sum.inr b)=false:=bo (λq=>nomatch q)
theorem TB (a:Str)(b:Int):decide ((Sum.inr a:cM)=Sum.inl b)=false:=bo (λq=>nomatch q)
noncomputable def bW (prog:Program)(w:World):PySem.KeyKind prog w cM where
 is:=keyIs
 hash:=keyH w
 inj:=λv a b g hb=>by
  rcases cX g with⟨i,t,rfl,rfl⟩|⟨x,t,rfl,rfl⟩
  ·rcases cX hb with⟨j,u,rfl,e⟩|⟨y,u,rfl,e⟩
   ·injection e with c _;rw[c]
   ·exact nomatch e
  ·rcases cX hb with⟨j,u,rfl,e⟩|⟨y,u,rfl,e⟩
   ·exact nomatch e
   ·injection e with c _;rw[c]
 byValue:=λk v h=>by rcases cX h with⟨i,t,rfl,rfl⟩|⟨x,t,rfl,rfl⟩ <;> rfl
 pyHash:=λd h=>by
  rcases cX d with⟨i,t,rfl,rfl⟩|⟨x,t,rfl,rfl⟩
  ·exact wpAny_pyHash_int h
  ·exact wpAny_pyHash_str h
 eqBool:=λf d h=>by
  rcases cX f with⟨i,t,rfl,rfl⟩|⟨x,t,rfl,rfl⟩
  ·rcases cX d with⟨j,u,rfl,rfl⟩|⟨y,u,rfl,rfl⟩
   ·rw[TD]at h;exact wpAny_eqBool_int h
   ·rw[TC]at h;exact SeqAt.EqAt.int_str i t y u _ _ _ _ h
  ·rcases cX d with⟨j,u,rfl,rfl⟩|⟨y,u,rfl,rfl⟩
   ·rw[TB]at h;exact SeqAt.EqAt.str_int x t j u _ _ _ _ h
   ·rw[S9]at h;exact wpAny_eqBool_str h
 «strs»:=λk x t v h=>by
  rcases cX h with⟨i,u,rfl,e⟩|⟨y,u,rfl,e⟩
  ·exact nomatch e
  ·injection e with c _;subst c;cases v <;> rfl
theorem EJ (prog:Program)(w:World)(k:cM)(v:Value):(bW prog w).is k v=keyIs k v:=rfl
theorem B4 (prog:Program)(w:World)(i:Int)(t:Tok):(bW prog w).is (.inl i) (.int i t)=true:=I8 i t
theorem B3 (prog:Program)(w:World)(x:Str)(t:Tok):(bW prog w).is (.inr x) (.str x t)=true:=xS x t
inductive V where
 | non|bl (b:Bool)|int (i:Int)|str (x:Str)|byt (b:Array UInt8)|flt (b:UInt64)|ref (a:Addr)|ty (n:String)
 deriving DecidableEq
def aQ:V->Value->Prop
 | .non,u=>u=Value.none
 | .bl b,u=>u=Value.bool b
 | .int i,u=>∃t,u=Value.int i t
 | .str x,u=>∃t,u=Value.str x t
 | .byt b,u=>∃t,u=Value.bytes b t
 | .flt b,u=>∃t,u=Value.float b t
 | .ref a,u=>u=Value.ref a
 | .ty n,u=>u=Value.type n
abbrev aR:List V->cS->Prop:=Paired aQ
theorem aR.length (r:aR xs us):xs.length=us.length:=Paired.length r
theorem aR.get:∀{xs:List V} {us:cS} {i:Nat} {x:V},aR xs us->xs[i]?=some x->∃u,us[i]?=some u/\aQ x u
 | _,_,_,_,.nil,e=>by simp at e
 | _,_,0,_,.cons r _,e=>by simp at e;subst e;exact⟨_,rfl,r⟩
 | _,_,i+1,x,.cons _ t,e=>by obtain⟨u,d,c⟩:=aR.get (i:=i) (x:=x) t (by simpa using e);exact⟨u,by simpa using d,c⟩
theorem aR.set (r:aQ x u):∀{xs:List V} {us:cS} (i:Nat),aR xs us->aR (xs.set i x) (us.set i u)
 | _,_,_,.nil=>.nil
 | _,_,0,.cons _ t=>.cons r t
 | _,_,i+1,.cons q t=>.cons q (aR.set r i t)
theorem aR.append:∀{xs ys:List V} {us ws:cS},aR xs us->aR ys ws->aR (xs++ys) (us++ws)
 | _,_,_,_,.nil,s=>s
 | _,_,_,_,.cons r t,s=>.cons r (aR.append t s)
theorem aR.take:∀{xs:List V} {us:cS} (n:Nat),aR xs us->aR (xs.take n) (us.take n)
 | _,_,0,_=>.nil
 | _,_,_+1,.nil=>.nil
 | _,_,n+1,.cons r t=>.cons r (aR.take n t)
theorem aR.drop:∀{xs:List V} {us:cS} (n:Nat),aR xs us->aR (xs.drop n) (us.drop n)
 | _,_,0,r=>r
 | _,_,_+1,.nil=>.nil
 | _,_,n+1,.cons _ t=>aR.drop n t
def lN:Option V->Option Value->Prop
 | some v,some u=>aQ v u
 | none,none=>True
 | _,_=>False
def KV {κ:Type}:List (κ×V)->List (κ×Value)->Prop:=Paired λ(p:κ×V) (q:κ×Value)=>p.1=q.1/\aQ p.2 q.2
noncomputable def kV:cM->V
 | .inl i=>.int i
 | .inr x=>.str x
inductive HO where
 /-- a list -/
 | lst (xs:List V)
 /-- a tuple (never changes) -/
 | tup (xs:List V)
 /-- a dict whose keys are ints and texts;one whose keys are tuples of ints and texts (the empty one is both) -/
 | dK (kvs:List (cM×V))|dT (kvs:List (List cM×V))
 /-- a set of ints: its members,its size -/
 | set (S:Int->Bool) (n:Nat)
 /-- an instance of the class at C,its dict at dx,its attributes -/
 | ins (C dx:Addr) (fs:List (Str×V))
 /-- the dict of the instance at x -/
 | own (x:Addr)
 /-- the dict of an exception -/
 | xd (fs:List (Str×V))
 /-- a bound method,f of x -/
 | met (f x:Addr)
 /-- a range object lo,lo+1,.. below hi -/
 | rng (lo hi:Int)
 /-- a thing that is known to the object (the script;a dict while a loop walks it): read,never written while it is so -/
 | frz (o:Obj) (u:HO)
 /-- a code object's table -/
 | tbl (ps:n5)
 /-- any other thing,by what is true of its one object (a def of one's own: SetO a S n:=HO.ext λh=>..) -/
 | ext (φ:Heap->Prop)
abbrev Hp:=Addr->Option HO
noncomputable def upd (H:Hp)(a:Addr)(o:HO):Hp:=λb=>if b=a then some o else H b
theorem upd_same:upd H a o a=some o:=by unfold upd;rw[ai rfl]
theorem aC (h:b≠a):upd H a o b=H b:=by unfold upd;rw[ab h]
theorem upd_upd:upd (upd H a o) a u=upd H a u:=by funext b;unfold upd;split <;> rfl
theorem UO {H:Hp}{a b:Addr}{o u:HO}(h:H a=some o)(h':H b=some u)(d:o≠u):a≠b:=by intro e;subst e;rw[h]at h';exact d (Option.some.inj h')
theorem aE {H:Hp}{a b:Addr}{o:HO}(h:H a=some o)(h':H b=none):a≠b:=by intro e;subst e;rw[h]at h';cases h'
section
variable (P:Program)(w:World)
def cD (H:Hp)(h:Heap)(a:Addr):HO->Prop
 | .lst xs=>xs.length<=sizeLine/\∃(its:cS) (n:Nat),aR xs its/\h.get? a=some {cls:=.type "list",data:=.seq its.toArray n}
 | .tup xs=>xs.length<=sizeLine/\∃its:cS,aR xs its/\IsTup h a its.toArray
 | .dK c=>c.length<=sizeLine/\(a == sysModules)=false/\∃vs,KV c vs/\h.DictOf (bW P w) a vs
 | .dT c=>c.length<=sizeLine/\(a == sysModules)=false/\∃xs:List (List cM×Addr×Value),
   Paired (λ(p:List cM×V) (q:List cM×Addr×Value)=>p.1=q.1/\H q.2.1=some (.tup (p.1.map kV))/\aQ p.2 q.2.2) c xs /\
   ∃o j l,h.get? a=some o/\o.ExactDict/\o.data = .dict j l/\j.toList=xs.map (entryOfKey (tupleKind (bW P w)))/\(xs.map (·.1)).Nodup
 | .set S n=>h.SetOf (intKind P w) a S n
 | .ins C e fs=>H e=some (.own a)/\fs.length<=1000/\e≠a/\h.get? a=some (PySem.W.instObj C e) /\
   ∃d,h.Ns1 e d/\(∀f,lN (fs.lookup f) (d f))/\PySem.Within d (fs.map (·.1))
 | .own _=>∃o,h.get? a=some o
 | .xd fs=>∃d,h.Ns1 a d/\∀f,lN (fs.lookup f) (d f)
 | .rng lo hi=>∃t u v,h.get? a=some {cls:=.type "range",data:=.fields #[.int lo t,.int hi u,.int 1 v]}
 | .frz o u=>h.get? a=some o/\cD H h a u
 | .tbl ps=>h.get? a=some {cls:=.none,data:=.fields ps}
 | .met f x=>h.get? a=some (PySem.W.methodObj (.ref f) (.ref x))
 | .ext φ=>φ h/\(∃o,h.get? a=some o)/\∀i g:Heap,φ i->(∀o,i.get? a=some o->g.get? a=some o)->φ g
def gQ (H:Hp)(h:Heap):Prop:=∀a o,H a=some o->cD P w H h a o
end
section
variable {P:Program}{w:World}{H H':Hp}{h h':Heap}{a:Addr}{o:HO}
theorem cD.lt (x:cD P w H h a o):a<h.objs.size:=by
 cases o with
 | lst xs=>obtain⟨_,_,_,_,e⟩:=x;exact bd e
 | tup xs=>obtain⟨_,_,_,p⟩:=x;exact p.lt
 | dK c=>obtain⟨_,_,_,_,o,_,_,e,_⟩:=x;exact bd e
 | dT c=>obtain⟨_,_,_,_,o,_,_,e,_⟩:=x;exact bd e
 | set S n=>obtain⟨o,_,_,_,e,_⟩:=x;exact bd e
 | ins C g fs=>obtain⟨_,_,_,e,_⟩:=x;exact bd e
 | own y=>obtain⟨_,e⟩:=x;exact bd e
 | xd fs=>obtain⟨_,⟨_,_,_,e,_⟩,_⟩:=x;exact bd e
 | rng lo hi=>obtain⟨_,_,_,e⟩:=x;exact bd e
 | frz d u=>obtain⟨e,_⟩:=x;exact bd e
 | tbl ps=>exact bd (show h.get? a=some _ from x)
 | met f y=>exact bd (show h.get? a=some _ from x)
 | ext φ=>obtain⟨_,⟨_,e⟩,_⟩:=x;exact bd e
theorem Paired.mapP {α β:Type}{F G:α->β->Prop}{l₁:List α}{l₂:List β}(h:Paired F l₁ l₂)(f:∀a b,F a b->G a b):Paired G l₁ l₂:=by
 induction h with
 | nil=>exact .nil
 | cons r t c=>exact .cons (f _ _ r) c
theorem cD.stay (x:cD P w H h a o)(k:∀b u,(b=a∨H b=some (.own a))->h.get? b=some u->h'.get? b=some u)
  (ho:∀b,H b=some (.own a)->H' b=some (.own a)) (A:∀b xs,H b=some (.tup xs)->H' b=some (.tup xs)):cD P w H' h' a o:=by
 induction o with
 | lst xs=>obtain⟨z,its,n,r,e⟩:=x;exact⟨z,its,n,r,k _ _ (.inl rfl) e⟩
 | tup xs=>obtain⟨z,its,r,g,e,c⟩:=x;exact⟨z,its,r,g,k _ _ (.inl rfl) e,c⟩
 | dK m=>obtain⟨z,y,vs,r,g,i,j,e,c⟩:=x;exact⟨z,y,vs,r,g,i,j,k _ _ (.inl rfl) e,c⟩
 | dT m =>
  obtain⟨z,y,xs,r,g,i,j,e,c⟩:=x;exact⟨z,y,xs,Paired.mapP r λp q z=>⟨z.1,A _ _ z.2.1,z.2.2⟩,g,i,j,k _ _ (.inl rfl) e,c⟩
 | set S n=>obtain⟨g,i,j,t,e,c⟩:=x;exact⟨g,i,j,t,k _ _ (.inl rfl) e,c⟩
 | ins C E fs =>
  obtain⟨d,z,ne,e,l,⟨od,i,j,B,c⟩,r⟩:=x;exact⟨ho _ d,z,ne,k _ _ (.inl rfl) e,l,⟨od,i,j,k _ _ (.inr d) B,c⟩,r⟩
 | own y=>obtain⟨g,e⟩:=x;exact⟨g,k _ _ (.inl rfl) e⟩
 | xd fs=>obtain⟨l,⟨od,i,j,e,c⟩,r⟩:=x;exact⟨l,⟨od,i,j,k _ _ (.inl rfl) e,c⟩,r⟩
 | rng lo hi=>obtain⟨t,u,v,e⟩:=x;exact⟨t,u,v,k _ _ (.inl rfl) e⟩
 | frz g u s=>obtain⟨e,q⟩:=x;exact⟨k _ _ (.inl rfl) e,s q⟩
 | tbl ps =>
  have e:h.get? a=some {cls:=.none,data:=.fields ps}:=x;show h'.get? a=some {cls:=.none,data:=.fields ps};exact k a _ (.inl rfl) e
 | met f y =>
  have e:h.get? a=some (PySem.W.methodObj (.ref f) (.ref y)):=x;show h'.get? a=some (PySem.W.methodObj (.ref f) (.ref y));exact k a _ (.inl rfl) e
 | ext φ=>obtain⟨p,⟨o,e⟩,st⟩:=x;exact⟨st _ _ p λo q=>k _ _ (.inl rfl) q,⟨o,k _ _ (.inl rfl) e⟩,st⟩
theorem gQ.lt (x:gQ P w H h)(e:H a=some o):a<h.objs.size:=(x a o e).lt
theorem gQ.fresh (x:gQ P w H h)(e:h.objs.size<=a):H a=none:=by
 cases q:H a with
 | none=>rfl
 | some u=>exact absurd (bg (x.lt q) e) (cb _)
theorem gQ.kept (x:gQ P w H h)(k:∀b u,h.get? b=some u->h'.get? b=some u):gQ P w H h':=λa o e =>
 (x a o e).stay (λb u _ q=>k b u q) (λ_ q=>q) λ_ _ q=>q
theorem gQ.laid (x:gQ P w H h)(k:∀b u,h.get? b=some u->h'.get? b=some u)(f:h.objs.size<=a)(new:cD P w (upd H a o) h' a o):gQ P w (upd H a o) h':=λb u e=>by
 have d:=x.fresh f;by_cases hb:b=a
 ·subst hb;rw[upd_same]at e;cases e;exact new
 ·rw[aC hb]at e;exact(x b u e).stay (λc v _ q=>k c v q) (λc q=>by rw[aC (aE q d)];exact q) λc xs q=>by rw[aC (aE q d)];exact q
end
def Rd (H:Hp)(a:Addr)(u:HO):Prop:=H a=some u∨∃o,H a=some (.frz o u)
theorem Rd.ok (r:Rd H a u)(x:gQ P w H h):cD P w H h a u:=by
 rcases r with r|⟨o,r⟩
 ·exact x a u r
 ·obtain⟨_,q⟩:=x a _ r;exact q
def U2:Option HO->Prop
 | some (.lst _)=>True
 | some (.dK _)=>True
 | some (.dT _)=>True
 | some (.set _ _)=>True
 | some (.ins _ _ _)=>True
 | some (.ext _)=>True
 | _=>False
section
variable {P:Program}{w:World}{H:Hp}{h h':Heap}{x e:Addr}{o':HO}
theorem gQ.write (ok:gQ P w H h)(i:U2 (H x))(l:e=x∨H e=some (.own x))(k:∀b u,b≠e->h.get? b=some u->h'.get? b=some u)(j:∃u,h'.get? e=some u)
  (new:cD P w (upd H x o') h' x o'):gQ P w (upd H x o') h':=λb u q=>by
 have f:∀c y,H c=some (.own y)->c≠x:=λc y r z=>by subst z;rw[r]at i;exact i
 have g:∀c xs,H c=some (.tup xs)->c≠x:=λc xs r z=>by subst z;rw[r]at i;exact i
 by_cases hb:b=x
 ·subst hb;rw[upd_same]at q;cases q;exact new
 ·rw[aC hb]at q;by_cases d:b=e
  ·have q':H b=some (.own x):=by
    rcases l with z|z
    ·exact absurd (d.trans z) hb
    ·rw[d];exact z
   rw[q]at q';cases q';obtain⟨v,m⟩:=j;exact⟨v,by rw[d];exact m⟩
  ·refine(ok b u q).stay (λc v hc r=>k c v ?_ r) (λc r=>by rw[aC (f c b r)];exact r) λc xs r=>by rw[aC (g c xs r)];exact r
   rcases hc with rfl|hc
   ·exact d
   ·rintro rfl;rcases l with z|z
    ·exact f c b hc z
    ·rw[hc]at z;cases z;exact hb rfl
end
structure Un (fs ex:List Addr)(H H':Hp)(h h':Heap):Prop where
 keep:∀b o,h.get? b=some o->H b=none->b∉fs->b∉ex->h'.get? b=some o
 slot:∀b o,h.get? b=some o->H b=none->b∈fs->b∉ex->∃sl,h'.get? b=some {o with slots:=sl}
 free:∀b o,h.get? b=some o->H b=none->b∉ex->H' b=none
 there:∀b o,h.get? b=some o->b∉ex->∃o',h'.get? b=some o'
 tups:∀b xs,H b=some (.tup xs)->H' b=some (.tup xs)
 frzs:∀b o u,H b=some (.frz o u)->H' b=some (.frz o u)
 tbls:∀b ps,H b=some (.tbl ps)->∃more,H' b=some (.tbl (ps++more))
section
variable {fs fs' ex ex':List Addr}{H H1 H2:Hp}{h h1 h2 h':Heap}{a x e:Addr}{o:HO}
theorem Un.any (u:Un fs ex H H1 h h1)(q:h.get? b=some ob)(n:H b=none)(c:b∉ex):∃d,h1.get? b=some {ob with slots:=d}:=by
 by_cases hb:b∈fs
 ·exact u.slot b ob q n hb c
 ·exact⟨ob.slots,u.keep b ob q n hb c⟩
theorem Un.kept (k:∀b u,h.get? b=some u->h'.get? b=some u):Un fs ex H H h h' :=
 ⟨λb c q _ _ _=>k b c q,λb c q _ _ _=>⟨c.slots,k b c q⟩,λ_ _ _ n _=>n,λb c q _=>⟨c,k b c q⟩,λ_ _ q=>q,λ_ _ _ q=>q,λ_ ps q=>⟨#[],by rw[q];simp⟩⟩
theorem Un.refl:Un fs ex H H h h:=Un.kept λ_ _ q=>q
theorem Un.laid (k:∀b u,h.get? b=some u->h'.get? b=some u)(d:h.objs.size<=a)(c:H a=none):Un fs ex H (upd H a o) h h' where
 keep:=λb u q _ _ _=>k b u q
 slot:=λb u q _ _ _=>⟨u.slots,k b u q⟩
 free:=λb u q n _=>by rw[aC (bq (bg (bd q) d))];exact n
 there:=λb u q _=>⟨u,k b u q⟩
 tups:=λb xs q=>by rw[aC (aE q c)];exact q
 frzs:=λb u xs q=>by rw[aC (aE q c)];exact q
 tbls:=λb ps q=>⟨#[],by rw[aC (aE q c),q];simp⟩
theorem Un.write (d:U2 (H x))(j:e=x∨H e=some (.own x))(k:∀b u,b≠e->h.get? b=some u->h'.get? b=some u)(g:∃u,h'.get? e=some u):Un fs ex H (upd H x o) h h':=by
 have i:∀b,H b=none->b≠x:=λb n z=>by subst z;rw[n]at d;exact d
 have hb:∀b,H b=none->b≠e:=λb n z=>by
  subst z;rcases j with r|r
  ·exact i b n r
  ·rw[n]at r;cases r
 have f:∀b u,H b=some u->¬U2 (some u)->b≠x:=λb u q nm z=>by subst z;rw[q]at d;exact nm d
 refine⟨λb u q n _ _=>k b u (hb b n) q,λb u q n _ _=>⟨u.slots,k b u (hb b n) q⟩,λb u q n _=>by rw[aC (i b n)];exact n,λb u q _=>?_,
  λb xs q=>by rw[aC (f b _ q λz=>z)];exact q,λb u xs q=>by rw[aC (f b _ q λz=>z)];exact q,λb ps q=>⟨#[],by rw[aC (f b _ q λz=>z),q];simp⟩⟩
 by_cases c:b=e
 ·subst c;exact g
 ·exact⟨u,k b u c q⟩
end
noncomputable def trk (h:Heap)(H:Hp):List Addr:=(List.range h.objs.size).filter λa=>(H a).isSome
noncomputable def hidT (h:Heap)(H:Hp):Heap:=PySem.W.hideAll h (trk h H)
theorem I9 (h:Heap)(H:Hp):(hidT h H).objs.size=h.objs.size:=PySem.W.hideAll_size _ _
theorem uY (e:h.get? b=some o)(n:H b=none):(hidT h H).get? b=some o :=
 PySem.W.hideAll_get _ e λc=>by have q:(H b).isSome=true:=(da.mp c).2;rw[n]at q;simp at q
theorem PM (e:(hidT h H).get? b=some o):h.get? b=some o/\H b=none:=by
 have e':h.get? b=some o:=PySem.W.of_hideAll (trk h H) e;refine⟨e',?_⟩;cases q:H b with
 | none=>rfl
 | some x =>
  have c:b∈trk h H:=da.mpr ⟨List.mem_range.mpr (bd e'),by simp[q]⟩;have z:(hidT h H).get? b=none:=PySem.W.hideAll_none (trk h H) c;rw[z]at e;cases e
noncomputable def QN (g h:Heap)(L:Addr):cW:=(List.range h.objs.size).filterMap λa=>if a=L∨(g.get? a).isSome=true then none else(h.get? a).map λo=>(a,o)
noncomputable def rest (g h:Heap)(L d:Addr):cW:=(QN g h L).filter λp=>decide (p.1≠d)
structure Mod (K:PySem.W.Frag)(mg:jB)(base:Heap):Prop where
 kin:K.In base
 glob:base.Ns mainGlobals mg
 blt:∃mb,base.Ns builtinsNs mb/\∀x:Str,x≠"__name__"->mb x=bootBuiltins x
 nolimit:base.NoLimit
structure Cx where
 prog:Program
 w:World
 K:PySem.W.Frag
 mg:jB
 base:Heap
 A:Around
 N:aT
 s₀:Shared
 H₀:Hp
 env:Env
 outer:List Env
 stack:List Env
 ex:List Addr
 fn:Str->Bool
 calm:Bool
 pn:cW
 xe:cJ
noncomputable def frs (l:List Env):List Addr:=l.filterMap (·.frame)
noncomputable abbrev Cx.fs (X:Cx):List Addr:=frs X.outer
def U5 (c:Scope)(x:Str):Prop:=c.names.lookup x=some .local∨c.names.lookup x=some .cell∨c.names.lookup x=some .free
def U7 (c:Scope)(x:Str):Prop:=c.names.lookup x=some .local∨c.names.lookup x=some .cell
def VH (env:Env)(h:Heap)(m:jB)(x:Str)(u:Value):Prop :=
 (env.kindOf x=some .local/\m x=some u)∨((env.kindOf x=some .cell∨env.kindOf x=some .free)/\∃c,env.cells.lookup x=some c/\h.IsCell c (some u))
structure Cx.Ok (X:Cx):Prop where
 mod:Mod X.K X.mg X.base
 kind:X.env.scope.kind = .function
 glob:X.env.globals=mainGlobals
 blt:X.env.builtins=builtinsNs
 above:X.s₀.heap.objs.size<=X.env.locals
 inj:∀x y c,X.env.cells.lookup x=some c->X.env.cells.lookup y=some c->x=y
 has:∀x,(X.env.kindOf x=some .cell∨X.env.kindOf x=some .free)->∃c,X.env.cells.lookup x=some c
 cab:∀x c,X.fn x=true->X.env.cells.lookup x=some c->X.s₀.heap.objs.size<=c
 hd:X.calm=true->X.A.handled=none
 frames:X.A.frames=some X.stack
 stk:X.stack=X.outer∨(X.stack=X.env::X.outer/\X.env.frame=some X.env.locals)
 exf:∀b∈X.ex,b≠X.env.locals/\∀x c,X.env.cells.lookup x=some c->c≠b
 bs:∀b o,X.base.get? b=some o->X.s₀.heap.get? b=some o/\X.H₀ b=none
 bsz:X.base.objs.size<=X.s₀.heap.objs.size
 noex:∀b o,X.base.get? b=some o->b∉X.ex
 exfs:∀b∈X.ex,b∉X.fs
 funs:X.s₀.heap.FunFrames X.base X.outer
 frf:∀b∈X.fs,X.H₀ b=none
structure aN (X:Cx)(pins:cW)(σ:List (Option V))(H:Hp)(s:Shared):Prop where
 ok:X.Ok
 os:s.os=X.s₀.os
 bare:AllBare s.gens
 base:Un X.fs X.ex X.H₀ H X.s₀.heap s.heap
 loc:∃m,s.heap.Ns X.env.locals m/\∀(i:Nat) (x:Str) (v:V),X.N[i]?=some x->σ[i]?=some (some v)->U5 X.env.scope x->∃u,aQ v u/\VH X.env s.heap m x u
 cell:∀x c,X.env.cells.lookup x=some c->∃v,s.heap.IsCell c v
 free:H X.env.locals=none
 freeC:∀x c,X.env.cells.lookup x=some c->H c=none
 pin:∀p∈X.pn++pins,s.heap.get? p.1=some p.2/\H p.1=none/\p.1≠X.env.locals/\p.1∉X.fs/\∀v,p.2.data≠.cell v
 hok:gQ X.prog X.w H s.heap
 len:σ.length=X.N.length
section
variable {X:Cx}{pins:cW}{σ:List (Option V)}{H H':Hp}{s:Shared}{h':Heap}
theorem Cx.Ok.nofr (ok:X.Ok)(e:X.base.get? b=some o):b∉X.fs:=λhb=>by have:=(ok.funs.mem hb).1;rw[e]at this;cases this
theorem aN.bs (I:aN X pins σ H s):∀b o,X.base.get? b=some o->s.heap.get? b=some o/\H b=none:=λb o e =>
 ⟨I.base.keep b o (I.ok.bs b o e).1 (I.ok.bs b o e).2 (I.ok.nofr e) (I.ok.noex b o e),I.base.free b o (I.ok.bs b o e).1 (I.ok.bs b o e).2 (I.ok.noex b o e)⟩
theorem aN.bk (I:aN X pins σ H s):∀b o,X.base.get? b=some o->s.heap.get? b=some o:=λb o e=>(I.bs b o e).1
theorem aN.mod (I:aN X pins σ H s):Mod X.K X.mg X.base:=I.ok.mod
theorem aN.kIn (I:aN X pins σ H s):X.K.In s.heap:=I.ok.mod.kin.keeps I.bk
theorem aN.lt (I:aN X pins σ H s):X.env.locals<s.heap.objs.size:=let⟨_,hn,_⟩:=I.loc;hn.lt
theorem aN.sz (I:aN X pins σ H s):X.s₀.heap.objs.size<=s.heap.objs.size:=aq I.ok.above (Nat.le_of_lt I.lt)
theorem aN.nofs (I:aN X pins σ H s){a:Addr}(h:s.heap.objs.size<=a):a∉X.fs:=λhb=>by obtain⟨_,o,ho,_⟩:=I.ok.funs.mem hb;exact absurd (bg (bd ho) (aq I.sz h)) (cb _)
theorem aN.cne (I:aN X pins σ H s):∀x c,X.env.cells.lookup x=some c->c≠X.env.locals:=λx c e z=>by obtain⟨v,o,ho,hd⟩:=I.cell x c e;obtain⟨m,⟨g,h,i,d,f,_⟩,_⟩:=I.loc;rw[z,d]at ho;cases ho;rw[f]at hd;cases hd
theorem aN.funs (I:aN X pins σ H s):s.heap.FunFrames X.base X.outer:=by
 have all:∀(l:List Env),(∀b∈frs l,b∈X.fs)->X.s₀.heap.FunFrames X.base l->s.heap.FunFrames X.base l:=by
  intro l
  induction l with
  | nil=>intro _ _;trivial
  | cons env r g =>
   intro f j;obtain⟨m,⟨L,o,c,i,ho,hd⟩,h⟩:=j;have d:L∈X.fs:=f L (by unfold frs;rw[List.filterMap_cons,c];exact ay);obtain⟨p,e⟩:=I.base.slot L o ho (I.ok.frf L d) d λz=>I.ok.exfs L z d;exact⟨m,⟨L,_,c,i,e,hd⟩,g (λb hb=>f b (by unfold frs;rw[List.filterMap_cons,c];exact bc _ hb)) h⟩
 exact all X.outer (λ_ hb=>hb) I.ok.funs
theorem aN.stack (I:aN X pins σ H s):s.heap.FunFrames X.base X.stack:=by
 rcases I.ok.stk with e|⟨e,d⟩
 ·rw[e];exact I.funs
 ·rw[e];obtain⟨m,c,_⟩:=I.loc;refine .cons (by rw[I.ok.kind];decide) d c ?_ I.funs;exact Heap.get?_none_of_le (aq I.ok.bsz I.ok.above)
theorem aN.stkSub (I:aN X pins σ H s):∀b∈frs X.stack,b∈X.env.locals::X.fs:=λb hb=>by
 rcases I.ok.stk with e|⟨e,c⟩
 ·rw[e]at hb;exact bc _ hb
 ·rw[e]at hb;unfold frs at hb;rw[List.filterMap_cons,c]at hb;exact hb
theorem aN.stkFree (I:aN X pins σ H s):∀b∈frs X.stack,H b=none:=λb hb=>by
 rcases cu.mp (I.stkSub b hb)with e|hb
 ·rw[e];exact I.free
 ·obtain⟨_,o,ho,_⟩:=I.ok.funs.mem hb;exact I.base.free b o ho (I.ok.frf b hb) λz=>I.ok.exfs b z hb
theorem aN.step {g':Array GenState}{t':Nat}{d':Drawn}{ch:List Addr}(I:aN X pins σ H s)
  (h:∀b∈ch,(b∈X.ex∨X.s₀.heap.objs.size<=b)/\b≠X.env.locals/\(∀x c,X.env.cells.lookup x=some c->c≠b)/\∀p∈X.pn++pins,p.1≠b)
  (keep:∀b o,b≠X.env.locals->b∉X.fs->b∉ch->s.heap.get? b=some o->H b=none->h'.get? b=some o)
  (slot:∀b o,b≠X.env.locals->b∈X.fs->b∉ch->s.heap.get? b=some o->H b=none->∃G,h'.get? b=some {o with slots:=G}) (free:∀b o,b∉ch->s.heap.get? b=some o->H b=none->H' b=none)
  (there:∀b o,b∉ch->s.heap.get? b=some o->∃B,h'.get? b=some B)
  (tups:∀b xs,H b=some (.tup xs)->H' b=some (.tup xs)) (frzs:∀b o u,H b=some (.frz o u)->H' b=some (.frz o u)) (tbls:∀b ps,H b=some (.tbl ps)->∃more,H' b=some (.tbl (ps++more)))
  (ns:∀m,s.heap.Ns X.env.locals m->h'.Ns X.env.locals m) (hok:gQ X.prog X.w H' h') (P:AllBare g') :
  aN X pins σ H' {s with heap:=h',gens:=g',drawn:=d',toks:=t'}:=by
 have C:∀b o,X.s₀.heap.get? b=some o->b≠X.env.locals:=λb o e=>bq (bg (bd e) I.ok.above);have t:∀b o,X.s₀.heap.get? b=some o->b∉X.ex->b∉ch:=λb o e f hb=>by
  rcases(h b hb).1 with z|z
  ·exact f z
  ·exact absurd (bg (bd e) z) (cb _)
 have j:∀x c,X.env.cells.lookup x=some c->∀v,s.heap.IsCell c v->h'.IsCell c v:=λx c e v ⟨o,ho,hd⟩=>by
  have g:c∉ch:=λz=>(h c z).2.2.1 x c e rfl;by_cases hc:c∈X.fs
  ·obtain⟨G,q⟩:=slot c o (I.cne x c e) hc g ho (I.freeC x c e);exact⟨_,q,hd⟩
  ·exact⟨o,keep c o (I.cne x c e) hc g ho (I.freeC x c e),hd⟩
 refine⟨I.ok,I.os,P,⟨λb o e n hb f=>?_,λb o e n hb f=>?_,λb o e n f=>?_,λb o e f=>?_,λb xs e=>tups b xs (I.base.tups b xs e),λb o xs e=>frzs b o xs (I.base.frzs b o xs e),λb ps e=>?_⟩,?_,λx c e=>?_,?_,λx c e=>?_,λp J=>?_,hok,I.len⟩
 ·exact keep b o (C b o e) hb (t b o e f) (I.base.keep b o e n hb f) (I.base.free b o e n f)
 ·obtain⟨G,A⟩:=I.base.slot b o e n hb f;obtain⟨F,E⟩:=slot b _ (C b o e) hb (t b o e f) A (I.base.free b o e n f);exact⟨F,E⟩
 ·obtain⟨B,A⟩:=I.base.there b o e f;exact free b B (t b o e f) A (I.base.free b o e n f)
 ·obtain⟨B,A⟩:=I.base.there b o e f;exact there b B (t b o e f) A
 ·obtain⟨L,A⟩:=I.base.tbls b ps e;obtain⟨K,E⟩:=tbls b _ A;exact⟨L++K,by rw[E,Array.append_assoc]⟩
 ·obtain⟨m,N,O⟩:=I.loc;refine⟨m,ns m N,λi x v A E Q=>?_⟩;obtain⟨u,r,l⟩:=O i x v A E Q;refine⟨u,r,?_⟩;rcases l with l|⟨k,c,e,z⟩
  ·exact .inl l
  ·exact .inr ⟨k,c,e,j x c e _ z⟩
 ·obtain⟨v,z⟩:=I.cell x c e;exact⟨v,j x c e v z⟩
 ·obtain⟨m,⟨o,_,_,ho,_⟩,_⟩:=I.loc;exact free _ o (λz=>(h _ z).2.1 rfl) ho I.free
 ·obtain⟨v,o,ho,hd⟩:=I.cell x c e;exact free c o (λz=>(h c z).2.2.1 x c e rfl) ho (I.freeC x c e)
 ·obtain⟨e,n,ne,nf,d⟩:=I.pin p J;have g:p.1∉ch:=λz=>(h p.1 z).2.2.2 p J rfl;exact⟨keep p.1 p.2 ne nf g e n,free p.1 p.2 g e n,ne,nf,d⟩
theorem aN.un {t':Nat}(I:aN X pins σ H s)(u:Un X.fs [] H H' s.heap h')(hok:gQ X.prog X.w H' h'):aN X pins σ H' {s with heap:=h',toks:=t'}:=by
 obtain⟨m,⟨o,q,t,ho,r⟩,_⟩:=id I.loc;obtain⟨j,i⟩:=u.any ho I.free (by simp)
 exact I.step (g':=s.gens) (d':=s.drawn) (ch:=[]) (λ_ z=>nomatch z) (λb o _ hb _ e n=>u.keep b o e n hb (by simp)) (λb o _ hb _ e n=>u.slot b o e n hb (by simp)) (λb o _ e n=>u.free b o e n (by simp)) (λb o _ e=>u.there b o e (by simp)) u.tups u.frzs u.tbls (λp h=>by
  obtain⟨l,d,f,c,g⟩:=h;rw[ho]at c;cases c
  exact⟨_,d,f,i,g⟩) hok I.bare
theorem aN.call {g':Array GenState}{t':Nat}{d':Drawn}{ch:List Addr}(I:aN X pins σ H s)(u:Un (frs X.stack) ch H H' s.heap h')(hok:gQ X.prog X.w H' h')(q:AllBare g')
  (f:∀b∈ch,(b∈X.ex∨X.s₀.heap.objs.size<=b)/\b≠X.env.locals/\(∀x c,X.env.cells.lookup x=some c->c≠b)/\∀p∈X.pn++pins,p.1≠b) :
  aN X pins σ H' {s with heap:=h',gens:=g',drawn:=d',toks:=t'}:=by
 obtain⟨m,⟨o,B,C,ho,r⟩,_⟩:=id I.loc;obtain⟨t,g⟩:=u.any ho I.free λz=>(f _ z).2.1 rfl
 exact I.step (ch:=ch) f (λb o g hb hc e n=>u.keep b o e n (λz=>(cu.mp (I.stkSub b z)).elim g hb) hc) (λb o _ _ hc e n=>u.any e n hc) (λb o hc e n=>u.free b o e n hc) (λb o hc e=>u.there b o e hc) u.tups u.frzs u.tbls (λA l=>by
  obtain⟨v,h,i,d,j⟩:=l;rw[ho]at d;cases d
  exact⟨_,h,i,g,j⟩) hok q
theorem aN.turned {t':Nat}{it:Addr}(I:aN X pins σ H s)(k:∀b o,b≠it->s.heap.get? b=some o->h'.get? b=some o)(g:H it=none)(f:it≠X.env.locals)
  (l:it∈X.ex∨X.s₀.heap.objs.size<=it) (j:∀x c,X.env.cells.lookup x=some c->c≠it) (i:∀p∈X.pn++pins,p.1≠it):aN X pins σ H {s with heap:=h',toks:=t'}:=by
 have d:∀b u,H b=some u->b≠it:=λb u e z=>by rw[z,g]at e;cases e
 refine I.step (g':=s.gens) (d':=s.drawn) (ch:=[it]) (λb hb=>?_) (λb o _ _ hc e _=>k b o (λz=>hc (by simp[z])) e) (λb o _ _ hc e _=>⟨o.slots,k b o (λz=>hc (by simp[z])) e⟩) (λ_ _ _ _ n=>n)
  (λb o hc e=>⟨o,k b o (λz=>hc (by simp[z])) e⟩) (λ_ _ e=>e) (λ_ _ _ e=>e) (λb ps e=>⟨#[],by rw[e];simp⟩) (λm h=>?_) (λb u e=>?_) I.bare
 ·have e:b=it:=by simpa using hb
  subst e;exact⟨l,f,j,i⟩
 ·obtain⟨o,t,w,ho,r⟩:=h;exact⟨o,t,w,k _ o (Ne.symm f) ho,r⟩
 ·refine(I.hok b u e).stay (λc v hc q=>k c v ?_ q) (λ_ q=>q) λ_ _ q=>q;rcases hc with z|z
  ·rw[z];exact d b u e
  ·exact d c _ z
theorem aN.tok (I:aN X pins σ H s)(t:Nat):aN X pins σ H {s with toks:=t}:=I.un (h':=s.heap) (t':=t) Un.refl I.hok
theorem aN.kept {t':Nat}(I:aN X pins σ H s)(k:∀b u,s.heap.get? b=some u->h'.get? b=some u):aN X pins σ H {s with heap:=h',toks:=t'}:=I.un (Un.kept k) (I.hok.kept k)
theorem aN.laid {a:Addr}{o:HO}{t':Nat}(I:aN X pins σ H s)(k:∀b u,s.heap.get? b=some u->h'.get? b=some u)(c:s.heap.objs.size<=a)(new:cD X.prog X.w (upd H a o) h' a o) :
  aN X pins σ (upd H a o) {s with heap:=h',toks:=t'}:=I.un (Un.laid k c (I.hok.fresh c)) (I.hok.laid k c new)
theorem aN.write {x e:Addr}{o:HO}{t':Nat}(I:aN X pins σ H s)(d:U2 (H x))(f:e=x∨H e=some (.own x))(k:∀b u,b≠e->s.heap.get? b=some u->h'.get? b=some u)(c:∃u,h'.get? e=some u)
  (new:cD X.prog X.w (upd H x o) h' x o):aN X pins σ (upd H x o) {s with heap:=h',toks:=t'}:=I.un (Un.write d f k c) (I.hok.write d f k c new)
theorem aN.pins_of {c:cW}(I:aN X pins σ H s)(h:∀p∈c,s.heap.get? p.1=some p.2/\H p.1=none/\p.1≠X.env.locals/\p.1∉X.fs/\∀v,p.2.data≠.cell v):aN X c σ H s :=
 ⟨I.ok,I.os,I.bare,I.base,I.loc,I.cell,I.free,I.freeC,λp d=>(cw.mp d).elim (λz=>I.pin p (ci _ z)) (h p),I.hok,I.len⟩
theorem BX {N:aT}(c:N.Nodup){i j:Nat}{x:Str}(a:N[i]?=some x)(b:N[j]?=some x):i=j:=by obtain⟨g,e⟩:=cr.mp a;obtain⟨f,d⟩:=cr.mp b;exact(List.getElem_inj c).mp (e.trans d.symm)
theorem wW {M:Model}{A:Around}{E:cJ}{i:Nat}{x:Str}{v:V}{u:Value}{Q:Unit->Shared->Prop}(I:aN X pins σ H s)(hN:X.N.Nodup)(hi:X.N[i]?=some x)(t:U7 X.env.scope x)(r:aQ v u)
  (h:∀s',aN X pins (σ.set i (some v)) H s'->(∃a,Heap.SameBut a s.heap s'.heap/\(a=X.env.locals∨X.env.cells.lookup x=some a))->Q () s') (hf:X.fn x=true∨X.env.scope.names.lookup x=some .local:=by first|exact .inl rfl|exact .inr rfl|assumption):wpAny M A (storeName X.env x u) Q E s:=by
 obtain⟨m,hn,hl⟩:=id I.loc;have P:(X.env.scope.kind == .class || (X.env.scope.kind == .module && X.env.locals != X.env.globals))=false:=by rw[I.ok.kind];rfl
 have O:i<σ.length:=by rw[I.len];exact(cr.mp hi).1
 have cne:=I.cne;have g:∀{a:Addr} {h':Heap},(∃o,s.heap.get? a=some o/\H a=none)->Heap.SameBut a s.heap h'->gQ X.prog X.w H h':=λ{a h'} ha f b ob e=>by
  obtain⟨_,_,B⟩:=ha;refine(I.hok b ob e).stay (λc T hc q=>(f.2 c ?_).trans q) (λ_ q=>q) λ_ _ q=>q;rintro rfl;rcases hc with rfl|hc
  ·rw[B]at e;cases e
  ·rw[B]at hc;cases hc
 rcases t with F|F
 ·refine wpAny_storeName_local F hn (λh' hn' f=>?_) P;obtain⟨oL,_,_,hoL,_⟩:=id hn;refine h _ ⟨I.ok,I.os,I.bare,⟨λb o e n hb t=>?_,λb o e n hb t=>?_,I.base.free,λb o e t=>?_,I.base.tups,I.base.frzs,I.base.tbls⟩,⟨_,hn',λj y W l C e3=>?_⟩,λy c e=>?_,I.free,I.freeC,λp hp=>?_,g ⟨oL,hoL,I.free⟩ f,by simpa using I.len⟩ ⟨_,f,.inl rfl⟩
  ·exact(f.2 b (bq (bg (bd e) I.ok.above))).trans (I.base.keep b o e n hb t)
  ·obtain⟨Z,l⟩:=I.base.slot b o e n hb t;exact⟨Z,(f.2 b (bq (bg (bd e) I.ok.above))).trans l⟩
  ·obtain⟨o',l⟩:=I.base.there b o e t;exact⟨o',(f.2 b (bq (bg (bd e) I.ok.above))).trans l⟩
  ·by_cases G:j=i
   ·subst G;rw[hi]at l;cases l;rw[List.getElem?_set_self O]at C;cases C;exact⟨u,r,.inl ⟨F,by simp⟩⟩
   ·rw[List.getElem?_set_ne (Ne.symm G)]at C;obtain⟨Y,r',q⟩:=hl j y W l C e3;refine⟨Y,r',?_⟩;rcases q with⟨k,e⟩|⟨k,c,e,z⟩
    ·refine .inl ⟨k,?_⟩;have:y≠x:=λe=>G (BX hN l (e ▸ hi));simp[this,e]
    ·exact .inr ⟨k,c,e,z.sameBut f (cne y c e)⟩
  ·obtain⟨T,z⟩:=I.cell y c e;exact⟨T,z.sameBut f (cne y c e)⟩
  ·obtain⟨e,n,ne,nf,d⟩:=I.pin p hp;exact⟨(f.2 p.1 ne).trans e,n,ne,nf,d⟩
 ·have J:X.fn x=true:=by
   rcases hf with z|z
   ·exact z
   ·rw[z]at F;cases F
  obtain⟨c,hc⟩:=I.ok.has x (.inl F);obtain⟨T,z⟩:=I.cell x c hc;refine wpAny_storeName_cell I.ok.kind F hc z (λh' S f=>?_);obtain⟨oc,L,K⟩:=id z;refine h {s with heap:=h'} ⟨I.ok,I.os,I.bare,⟨λb o e n hb t=>?_,λb o e n hb t=>?_,I.base.free,λb o e t=>?_,I.base.tups,I.base.frzs,I.base.tbls⟩,⟨m,hn.sameBut f (Ne.symm (cne x c hc)),λj y W l C e3=>?_⟩,λy U e=>?_,I.free,I.freeC,λp hp=>?_,g ⟨oc,L,I.freeC x c hc⟩ f,by simpa using I.len⟩ ⟨c,f,.inr hc⟩
  ·exact(f.2 b (bq (bg (bd e) (I.ok.cab x c J hc)))).trans (I.base.keep b o e n hb t)
  ·obtain⟨Z,l⟩:=I.base.slot b o e n hb t;exact⟨Z,(f.2 b (bq (bg (bd e) (I.ok.cab x c J hc)))).trans l⟩
  ·obtain⟨o',l⟩:=I.base.there b o e t;exact⟨o',(f.2 b (bq (bg (bd e) (I.ok.cab x c J hc)))).trans l⟩
  ·by_cases G:j=i
   ·subst G;rw[hi]at l;cases l;rw[List.getElem?_set_self O]at C;cases C;exact⟨u,r,.inr ⟨.inl F,c,hc,S⟩⟩
   ·rw[List.getElem?_set_ne (Ne.symm G)]at C;obtain⟨Y,r',q⟩:=hl j y W l C e3;refine⟨Y,r',?_⟩;rcases q with q|⟨k,U,e,z'⟩
    ·exact .inl q
    ·refine .inr ⟨k,U,e,z'.sameBut f ?_⟩;rintro rfl;exact G (BX hN l (I.ok.inj _ _ _ e hc ▸ hi))
  ·by_cases R:U=c
   ·subst R;exact⟨_,S⟩
   ·obtain⟨w2,z2⟩:=I.cell y U e;exact⟨w2,z2.sameBut f R⟩
  ·obtain⟨e,n,ne,nf,d⟩:=I.pin p hp;refine⟨(f.2 p.1 ?_).trans e,n,ne,nf,d⟩;intro q;rw[q,L]at e;have q':oc=p.2:=Option.some.inj e;exact d T (by rw[←q'];exact K)
theorem A9 {M:Model}{A:Around}{E:cJ}{i:Nat}{x:Str}{v:V}{u:Value}{Q:Unit->Shared->Prop}(I:aN X pins σ H s)(f:X.N.Nodup)(hi:X.N[i]?=some x)(d:U7 X.env.scope x)(r:aQ v u)
  (h:∀c,aN X pins (σ.set i (some v)) H c->Q () c) (e:X.fn x=true∨X.env.scope.names.lookup x=some .local:=by first|exact .inl rfl|exact .inr rfl|assumption):wpAny M A (storeName X.env x u) Q E s :=
 wW I f hi d r (λc g _=>h c g) e
theorem aN.call' {d:Shared}{ch:List Addr}(I:aN X pins σ H s)(ho:d.os=s.os)(u:Un (frs X.stack) ch H H' s.heap d.heap)(hok:gQ X.prog X.w H' d.heap)(h:AllBare d.gens)
  (f:∀b∈ch,(b∈X.ex∨X.s₀.heap.objs.size<=b)/\b≠X.env.locals/\(∀x c,X.env.cells.lookup x=some c->c≠b)/\∀p∈X.pn++pins,p.1≠b):aN X pins σ H' d:=by
 obtain⟨h',g',d',t',g⟩:=d;have e:g=s.os:=ho;subst e;exact I.call (g':=g') (t':=t') (d':=d') u hok h f
end
abbrev XK:=Value->Option Addr->Hp->Prop
abbrev St:=List (Option V)
abbrev VK:=V->Hp->Prop
abbrev TE:=St->Hp->VK->Prop
abbrev TT:=St->Hp->(Bool->Hp->Prop)->Prop
abbrev TA:=St->Hp->(List V->Hp->Prop)->Prop
structure jD where
 nx:St->Hp->Prop
 rt:VK
 bk:St->Hp->Prop:=λ_ _=>False
 ct:St->Hp->Prop:=λ_ _=>False
abbrev TS:=jD->St->Hp->Prop
def EP (X:Cx)(c:cW)(σ:St)(Q:VK)(u:Value)(d:Shared):Prop:=∃v H',aN X c σ H' d/\aQ v u/\Q v H'
def TP (X:Cx)(c:cW)(σ:St)(Q:Bool->Hp->Prop)(b:Bool)(d:Shared):Prop:=∃H',aN X c σ H' d/\Q b H'
def AP (X:Cx)(c:cW)(σ:St)(Q:List V->Hp->Prop)(us:cS)(d:Shared):Prop:=∃vs H',aN X c σ H' d/\aR vs us/\Q vs H'
def SP (X:Cx)(c:cW)(D:jD)(f:Flow)(e:Shared):Prop :=
 match f with
 | .next=>∃d H',aN X c d H' e/\D.nx d H'
 | .brk=>∃d H',aN X c d H' e/\D.bk d H'
 | .cont=>∃d H',aN X c d H' e/\D.ct d H'
 | .ret u=>∃v d H',aN X c d H' e/\aQ v u/\D.rt v H'
def PE (X:Cx)(e:Expr)(t:TE):Prop :=
 ∀(c:cW) (s:Shared) (σ:St) (H:Hp) (Q:VK),aN X c σ H s->t σ H Q->wpAny (model X.prog X.w) X.A (eval e X.env) (EP X c σ Q) X.xe s
def PT (X:Cx)(e:Expr)(t:TT):Prop :=
 ∀(c:cW) (s:Shared) (σ:St) (H:Hp) (Q:Bool->Hp->Prop),aN X c σ H s->t σ H Q->wpAny (model X.prog X.w) X.A (isTrue e X.env (eval e X.env)) (TP X c σ Q) X.xe s
def PW (X:Cx)(e:Expr)(t:TT):Prop :=
 ∀(c:Sem Value) (pins:cW) (s:Shared) (σ:St) (H:Hp) (Q:Bool->Hp->Prop),aN X pins σ H s->t σ H Q->wpAny (model X.prog X.w) X.A (isTrue e X.env c) (TP X pins σ Q) X.xe s
theorem PW.pt (h:PW X e t):PT X e t:=h _
def PA (X:Cx)(d:pO)(t:TA):Prop :=
 ∀(c:Pos) (pins:cW) (s:Shared) (σ:St) (H:Hp) (Q:List V->Hp->Prop),aN X pins σ H s->t σ H Q->wpAny (model X.prog X.w) X.A (spliced (backTo c (starEach d X.env))) (AP X pins σ Q) X.xe s
def PS (X:Cx)(st:Stmt)(t:TS):Prop :=
 ∀(c:cW) (s:Shared) (σ:St) (H:Hp) (D:jD),aN X c σ H s->t D σ H->wpAny (model X.prog X.w) X.A (exec st X.env) (SP X c D) X.xe s
def DH (X:Cx)(st:List Stmt)(t:TS):Prop :=
 ∀(c:cW) (s:Shared) (σ:St) (H:Hp) (D:jD),aN X c σ H s->t D σ H->wpAny (model X.prog X.w) X.A (execs st X.env) (SP X c D) X.xe s
theorem thn {α:Type}{t:Sem α}{Q c:α->Shared->Prop}{M:Model}{A:Around}{E:cJ}{s:Shared}(h:wpAny M A t Q E s)(d:∀a s,Q a s->c a s):wpAny M A t c E s:=wpAny_mono h d λ_ _ x=>x
section
variable {X:Cx}
theorem bin {a b:Expr}{i g:TE}(t:PE X a i)(hb:PE X b g){c:cW}{s:Shared}{σ:St}{H:Hp}{R:V->V->Hp->Prop}(I:aN X c σ H s)(h:i σ H λx e=>g σ e λy d=>R x y d)
  {α:Type} {Q:α->Shared->Prop} {f:Value->Value->Sem α}
  (r:∀v u s2 x y d,aN X c σ d s2->aQ x v->aQ y u->R x y d->wpAny (model X.prog X.w) X.A (f v u) Q X.xe s2) :
  wpAny (model X.prog X.w) X.A (eval a X.env) (λv l=>wpAny (model X.prog X.w) X.A (eval b X.env) (λu j=>wpAny (model X.prog X.w) X.A (f v u) Q X.xe j) X.xe l) X.xe s:=by
 refine thn (t c s σ H _ I h) λv m ⟨x,e,B,r1,q⟩=>?_;refine thn (hb c m σ e _ B q) λu s2 ⟨y,d,z,o,p⟩=>?_;exact r v u s2 x y d z r1 o p
def tVar (i:Nat):TE:=λσ H Q=>∃v,σ[i]?=some (some v)/\Q v H
def tC (v:V):TE:=λ_ H Q=>Q v H
theorem K9 (w:X.N[i]?=some x)(o:U5 X.env.scope x)(hd:(x == ("__debug__" : Str))=false:=by decide)(j:(x == ("__classdict__" : Str))=false:=by decide):PE X (.Name x pos) (tVar i):=by
 intro g s σ H Q I h;obtain⟨v,e,h⟩:=h;obtain⟨m,p,t⟩:=I.loc;obtain⟨u,r,l⟩:=t i x v w e o;have fin:EP X g σ Q u s:=⟨v,H,I,r,h⟩
 rcases l with⟨f,q⟩|⟨f,c,hc,d⟩
 ·exact wpAny_Name (wpAny_loadName_local I.ok.kind f p q fin) hd
 ·rcases f with f|f
  ·exact wpAny_Name (wpAny_loadName_cell I.ok.kind f hc d fin) hd
  ·exact wpAny_Name (wpAny_loadName_free I.ok.kind f hc d fin j) hd
theorem aJ {i j pos}:PE X (.Constant (.int i) j pos) (tC (.int i)):=λ_ _ _ H _ I h=>wpAny_Constant_int ⟨.int i,H,I.tok _,⟨_,rfl⟩,h⟩
theorem mY {b j pos}:PE X (.Constant (.bool b) j pos) (tC (.bl b)):=λ_ _ _ H _ I h=>Constant_bool ⟨.bl b,H,I,rfl,h⟩
theorem zH {j pos}:PE X (.Constant .none j pos) (tC .non):=λ_ _ _ H _ I h=>Constant_none ⟨.non,H,I,rfl,h⟩
theorem gW {x j pos}:PE X (.Constant (.str x) j pos) (tC (.str x)):=λ_ _ _ H _ I h=>Calls.Constant_str ⟨.str x,H,I.tok _,⟨_,rfl⟩,h⟩
def Gl (X:Cx)(x:Str):Prop:=X.env.kindOf x=some .globalImplicit
theorem oY {E:cJ}{c:cW}{s:Shared}{σ:St}{H:Hp}{x:Str}{u:Value}{d:Pos}{Q:cJ}(I:aN X c σ H s)(f:Gl X x)(e:X.mg x=some u)(h:Q u s)
  (hd:(x == ("__debug__" : Str))=false:=by decide):wpAny (model X.prog X.w) X.A (eval (.Name x d) X.env) Q E s :=
 Calls.Name_function_global I.ok.kind f (Calls.loadGlobal_global (by rw[I.ok.glob];exact I.mod.glob.keeps I.bk) e h) hd
theorem nR {E:cJ}{c:cW}{s:Shared}{σ:St}{H:Hp}{x:Str}{u:Value}{d:Pos}{Q:cJ}(I:aN X c σ H s)(i:Gl X x)(g:X.mg x=none)(e:bootBuiltins x=some u)(h:Q u s)
  (f:x≠"__name__":=by decide) (hd:(x == ("__debug__" : Str))=false:=by decide):wpAny (model X.prog X.w) X.A (eval (.Name x d) X.env) Q E s:=by
 obtain⟨mb,l,j⟩:=I.mod.blt;exact Calls.Name_function_global I.ok.kind i (Calls.loadGlobal_builtin (by rw[I.ok.glob];exact I.mod.glob.keeps I.bk) g (by rw[I.ok.blt];exact l.keeps I.bk) ((j x f).trans e) h) hd
theorem OO (d:Gl X x)(c:X.mg x=some u)(r:aQ v u)(hd:(x == ("__debug__" : Str))=false:=by decide):PE X (.Name x pos) (tC v) :=
 λ_ _ _ H _ I h=>oY I d c ⟨v,H,I,r,h⟩ hd
theorem bZ (f:Gl X x)(e:X.mg x=none)(c:bootBuiltins x=some u)(r:aQ v u)(d:x≠"__name__":=by decide)(hd:(x == ("__debug__" : Str))=false:=by decide):PE X (.Name x pos) (tC v) :=
 λ_ _ _ H _ I h=>nR I f e c ⟨v,H,I,r,h⟩ d hd
variable {a b:Expr}{ta tb:TE}{pos:Pos}
variable {tA tB':TT}{rest:pO}
def tAnd (t u:TT):TT:=λσ H Q=>t σ H λc d=>if c=true then u σ d Q else Q false d
def tOr (t u:TT):TT:=λσ H Q=>t σ H λc d=>if c=true then Q true d else u σ d Q
def tNot (t:TT):TT:=λσ H Q=>t σ H λc d=>Q (!c) d
theorem oN (f:PT X a tA):PW X (.BoolOp .And [a] pos) tA:=by
 intro g d s σ H Q I h;refine isTrue_and (thn (f d s σ H Q I h) λc i e=>?_);cases c with
 | true=>exact isTrue_and_nil e
 | false=>exact e
theorem iK (f:PT X a tA):PW X (.BoolOp .Or [a] pos) tA:=by
 intro g d s σ H Q I h;refine isTrue_or (thn (f d s σ H Q I h) λc i e=>?_);cases c with
 | false=>exact isTrue_or_nil e
 | true=>exact e
theorem uD (l:PT X a tA)(hb:PW X (.BoolOp .And (b::rest) pos) tB'):PW X (.BoolOp .And (a::b::rest) pos) (tAnd tA tB'):=by
 intro i d s σ H Q I h;refine isTrue_and (thn (l d s σ H _ I h) λc j ⟨g,f,e⟩=>?_);cases c with
 | true=>exact hb i d j σ g Q f e
 | false=>exact⟨g,f,e⟩
theorem kG (l:PT X a tA)(hb:PW X (.BoolOp .Or (b::rest) pos) tB'):PW X (.BoolOp .Or (a::b::rest) pos) (tOr tA tB'):=by
 intro i d s σ H Q I h;refine isTrue_or (thn (l d s σ H _ I h) λc j ⟨g,f,e⟩=>?_);cases c with
 | true=>exact⟨g,f,e⟩
 | false=>exact hb i d j σ g Q f e
theorem dA (e:PT X a tA):PT X (.UnaryOp .Not a pos) (tNot tA):=by intro d s σ H Q I h;exact isTrue_not (e d s σ H (λc f=>Q (!c) f) I h)
def tAndV (f e:TE):TE:=λσ H Q=>f σ H λx d=>∃c,x = .bl c/\if c=true then e σ d Q else Q (.bl false) d
def tOrV (f e:TE):TE:=λσ H Q=>f σ H λx d=>∃c,x = .bl c/\if c=true then Q (.bl true) d else e σ d Q
def tNotV (d:TE):TE:=λσ H Q=>d σ H λx e=>∃c,x = .bl c/\Q (.bl (!c)) e
theorem D8 {op}(h:PE X a t):PE X (.BoolOp op [a] pos) t:=λc s σ H Q I d=>BoolOp_one (h c s σ H Q I d)
theorem LC (j:PE X a ta)(hb:PE X (.BoolOp .And (b::rest) pos) tb):PE X (.BoolOp .And (a::b::rest) pos) (tAndV ta tb):=by
 intro d s σ H Q I h;refine BoolOp_and (thn (j d s σ H _ I h) λv i ⟨x,g,f,r1,e⟩=>?_);obtain⟨c,rfl,e⟩:=e;cases r1;refine wpAny_truthy_bool ?_;cases c with
 | true=>exact hb d i σ g Q f e
 | false=>exact⟨.bl false,g,f,rfl,e⟩
theorem UI (j:PE X a ta)(hb:PE X (.BoolOp .Or (b::rest) pos) tb):PE X (.BoolOp .Or (a::b::rest) pos) (tOrV ta tb):=by
 intro d s σ H Q I h;refine BoolOp_or (thn (j d s σ H _ I h) λv i ⟨x,g,f,r1,e⟩=>?_);obtain⟨c,rfl,e⟩:=e;cases r1;refine wpAny_truthy_bool ?_;cases c with
 | false=>exact hb d i σ g Q f e
 | true=>exact⟨.bl true,g,f,rfl,e⟩
theorem SD (f:PE X a ta):PE X (.UnaryOp .Not a pos) (tNotV ta):=by intro d s σ H Q I h;refine UnaryOp_ (thn (f d s σ H _ I h) λv j ⟨x,i,g,r1,e⟩=>?_);obtain⟨c,rfl,e⟩:=e;cases r1;exact not_of (wpAny_truthy_bool ⟨.bl (!c),i,g,rfl,e⟩)
def tIf (t:TT)(f e:TE):TE:=λσ H Q=>t σ H λc d=>if c=true then f σ d Q else e σ d Q
theorem uH (hc:PT X c tA)(l:PE X a ta)(hb:PE X b tb):PE X (.IfExp c a b pos) (tIf tA ta tb):=by
 intro e s σ H Q I h;refine wpAny_IfExp (thn (hc e s σ H _ I h) λd f ⟨j,i,g⟩=>?_);cases d with
 | true=>exact l e f σ j Q i g
 | false=>exact hb e f σ j Q i g
end
def eV (K:PySem.W.Frag)(H:Hp)(a:Addr)(xs:List V):Prop :=
 Rd H a (.lst xs) ∨
  ∃(o:Obj) (its:n5) (n:Nat),K.lookup a=some o/\o.cls = .type "list"/\o.dict=none/\o.data = .seq its n/\its.size<=sizeLine/\aR xs its.toList
def iG (K:PySem.W.Frag)(H:Hp)(a:Addr)(xs:List V):Prop :=
 Rd H a (.tup xs) ∨
  ∃(o:Obj) (its:n5) (n:Nat),K.lookup a=some o/\o.cls = .type "tuple"/\o.data = .seq its n/\its.size<=sizeLine/\aR xs its.toList
noncomputable def absV:Value->Option V
 | .none=>some .non
 | .bool b=>some (.bl b)
 | .int i _=>some (.int i)
 | .str x _=>some (.str x)
 | .bytes b _=>some (.byt b)
 | .float b _=>some (.flt b)
 | .ref a=>some (.ref a)
 | .type n=>some (.ty n)
 | _=>none
theorem aQ.abs (r:aQ x u):absV u=some x:=by
 cases x with
 | non=>cases r;rfl
 | bl _=>cases r;rfl
 | int _=>obtain⟨t,rfl⟩:=r;rfl
 | str _=>obtain⟨t,rfl⟩:=r;rfl
 | byt _=>obtain⟨t,rfl⟩:=r;rfl
 | flt _=>obtain⟨t,rfl⟩:=r;rfl
 | ref _=>cases r;rfl
 | ty _=>cases r;rfl
theorem aQ.inj (r:aQ x u)(q:aQ y u):x=y:=Option.some.inj (r.abs.symm.trans q.abs)
theorem aR.inj (h:aR xs us)(g:aR ys us):xs=ys:=by
 induction h generalizing ys with
 | nil=>cases g;rfl
 | cons r t c=>cases g with|cons r' t'=>rw[r.inj r',c t']
section
variable {X:Cx}{pins:cW}{σ:St}{H:Hp}{s:Shared}{a:Addr}{xs ys:List V}
theorem eV.of {K:PySem.W.Frag}(h:H a=some (.lst xs)):eV K H a xs:=.inl (.inl h)
theorem iG.of {K:PySem.W.Frag}(h:H a=some (.tup xs)):iG K H a xs:=.inl (.inl h)
theorem aN.list (I:aN X pins σ H s)(h:eV X.K H a xs):∃its:cS,aR xs its/\PlainL s.heap a its.toArray/\xs.length<=sizeLine:=by
 rcases h with h|⟨o,its,n,d,hc,hd,c,hz,r⟩
 ·obtain⟨z,its,n,r,e⟩:=h.ok I.hok;exact⟨its,r,⟨_,n,e,rfl,rfl,rfl⟩,z⟩
 ·refine⟨its.toList,r,⟨o,n,I.kIn a o d,hc,hd,by simpa using c⟩,?_⟩;have e:=r.length;simp only[br]at e
  lia
theorem aN.tuple (I:aN X pins σ H s)(h:iG X.K H a xs):∃its:cS,aR xs its/\IsTup s.heap a its.toArray/\xs.length<=sizeLine:=by
 rcases h with h|⟨o,its,n,d,hc,c,hz,r⟩
 ·obtain⟨z,its,r,p⟩:=h.ok I.hok;exact⟨its,r,p,z⟩
 ·refine⟨its.toList,r,⟨o,I.kIn a o d,hc,n,by simpa using c⟩,?_⟩;have e:=r.length;simp only[br]at e
  lia
theorem aN.list_inj (I:aN X pins σ H s)(h:eV X.K H a xs)(h':eV X.K H a ys):xs=ys:=by
 obtain⟨its,r,⟨o,n,e,_,_,d⟩,_⟩:=I.list h;obtain⟨its',f,⟨i,j,c,_,_,d'⟩,_⟩:=I.list h';rw[e]at c;cases c;rw[d]at d';injection d' with g _;have:its=its':=by simpa using congrArg Array.toList g
 subst this;exact r.inj f
theorem aN.tuple_inj (I:aN X pins σ H s)(h:iG X.K H a xs)(h':iG X.K H a ys):xs=ys:=by
 obtain⟨its,r,⟨o,e,_,n,d⟩,_⟩:=I.tuple h;obtain⟨its',f,⟨i,c,_,j,d'⟩,_⟩:=I.tuple h';rw[e]at c;cases c;rw[d]at d';injection d' with g _;have:its=its':=by simpa using congrArg Array.toList g
 subst this;exact r.inj f
end
noncomputable abbrev Cx.wish (X:Cx)(E:cJ):Cx:={X with xe:=E}
noncomputable abbrev Cx.nox (X:Cx):Cx:=X.wish λ_ _=>False
theorem Cx.Ok.wish {X:Cx}(ok:X.Ok)(E:cJ):(X.wish E).Ok :=
 ⟨ok.mod,ok.kind,ok.glob,ok.blt,ok.above,ok.inj,ok.has,ok.cab,ok.hd,ok.frames,ok.stk,ok.exf,ok.bs,ok.bsz,ok.noex,ok.exfs,ok.funs,ok.frf⟩
theorem Cx.Ok.unwish {X:Cx}{E:cJ}(ok:(X.wish E).Ok):X.Ok :=
 ⟨ok.mod,ok.kind,ok.glob,ok.blt,ok.above,ok.inj,ok.has,ok.cab,ok.hd,ok.frames,ok.stk,ok.exf,ok.bs,ok.bsz,ok.noex,ok.exfs,ok.funs,ok.frf⟩
section
variable {X:Cx}{pins:cW}{σ:St}{H:Hp}{s:Shared}{E:cJ}
theorem aN.wish (I:aN X pins σ H s)(E:cJ):aN (X.wish E) pins σ H s:=⟨I.ok.wish E,I.os,I.bare,I.base,I.loc,I.cell,I.free,I.freeC,I.pin,I.hok,I.len⟩
theorem aN.unwish (I:aN (X.wish E) pins σ H s):aN X pins σ H s:=⟨I.ok.unwish,I.os,I.bare,I.base,I.loc,I.cell,I.free,I.freeC,I.pin,I.hok,I.len⟩
theorem SP.unwish (h:SP (X.wish E) pins D f s'):SP X pins D f s':=by
 cases f with
 | next=>obtain⟨c,H',I,q⟩:=h;exact⟨c,H',I.unwish,q⟩
 | brk=>obtain⟨c,H',I,q⟩:=h;exact⟨c,H',I.unwish,q⟩
 | cont=>obtain⟨c,H',I,q⟩:=h;exact⟨c,H',I.unwish,q⟩
 | ret u=>obtain⟨v,c,H',I,r,q⟩:=h;exact⟨v,c,H',I.unwish,r,q⟩
theorem DH.nox {st:List Stmt}{t:TS}(h:DH X.nox st t):DH X st t:=λc s σ H D I d =>
 wpAny_mono (h c s σ H D (I.wish _) d) (λ_ _ q=>q.unwish) λ_ _ z=>False.elim z
end
section
variable {X:Cx}{st:Stmt}{rest:List Stmt}{t u:TS}{e:Expr}{te:TE}{pos:Pos}
def tNext:TS:=λD σ H=>D.nx σ H
def tSeq (t u:TS):TS:=λD σ H=>t {D with nx:=u D} σ H
theorem aS:DH X [] tNext:=λ_ _ σ H _ I h=>wpAny_execs_nil ⟨σ,H,I,h⟩
theorem aD (i:PS X st t)(g:DH X rest u):DH X (st::rest) (tSeq t u):=by
 intro c s σ H D I h;refine wpAny_execs_cons (thn (i c s σ H {D with nx:=u D} I h) λf e q=>?_);cases f with
 | next =>
  obtain⟨d,H',j,q⟩:=q;exact g c e d H' D j q
 | ret v=>exact q
 | brk=>exact q
 | cont=>exact q
theorem aF (d:PS X st t):DH X [st] t:=by
 intro c s σ H D I h;refine wpAny_execs_cons (thn (d c s σ H D I h) λf e q=>?_);cases f with
 | next=>exact wpAny_execs_nil q
 | ret v=>exact q
 | brk=>exact q
 | cont=>exact q
theorem aN.quiet {c:cW}{σ:St}{H:Hp}{s:Shared}(I:aN X c σ H s):interactive X.env=false:=by simp[interactive,I.ok.kind]
def tDrop (c:TE):TS:=λD σ H=>c σ H λ_ d=>D.nx σ d
theorem cU (g:PE X e te)(f:swapsWith e none pos.line X.env=pure false:=by rfl):PS X (.Expr e pos) (tDrop te):=by intro c s σ H D I h;exact wpAny_Expr_any (thn (g c s σ H _ I h) λv l ⟨x,j,i,r1,d⟩=>⟨σ,j,i,d⟩) I.quiet f
def tRet (c:TE):TS:=λD σ H=>c σ H D.rt
theorem aO (f:PE X e te):PS X (.Return (some e) pos) (tRet te):=by intro c s σ H D I h;exact wpAny_Return_some (thn (f c s σ H _ I h) λv j ⟨x,i,g,r1,d⟩=>⟨x,σ,i,g,r1,d⟩)
def tIfS (c:TT)(t u:TS):TS:=λD σ H=>c σ H λb d=>if b=true then t D σ d else u D σ d
theorem bH (hc:PT X c tc)(l:DH X a t)(hb:DH X b u):PS X (.If c a b pos) (tIfS tc t u):=by
 intro e s σ H D I h;refine wpAny_If (thn (hc e s σ H _ I h) λd f ⟨j,i,g⟩=>?_);cases d with
 | true=>exact l e f σ j D i g
 | false=>exact hb e f σ j D i g
def tNever:TS:=λ_ _ _=>False
theorem d9:PS X st tNever:=λ_ _ _ _ _ _ h=>h.elim
end
abbrev TG:=V->St->Hp->(St->Hp->Prop)->Prop
abbrev UW:=List V->St->Hp->(St->Hp->Prop)->Prop
def PG (X:Cx)(c:Expr)(t:TG):Prop :=
 ∀(d:cW) (s:Shared) (σ:St) (H:Hp) (v:V) (u:Value) (Q:St->Hp->Prop),aN X d σ H s->aQ v u->t v σ H Q ->
  wpAny (model X.prog X.w) X.A (assign c X.env u) (λ_ f=>∃e H',aN X d e H' f/\Q e H') X.xe s
def U6 (X:Cx)(ts:pO)(t:UW):Prop :=
 ∀(c:cW) (s:Shared) (σ:St) (H:Hp) (vs:List V) (us:cS) (Q:St->Hp->Prop),aN X c σ H s->aR vs us->t vs σ H Q ->
  wpAny (model X.prog X.w) X.A (assignInOrder ((assignEach ts X.env).map (·.2)) us) (λ_ e=>∃d H',aN X c d H' e/\Q d H') X.xe s
abbrev UV:=V->V->V->Hp->(Hp->Prop)->Prop
def UZ (X:Cx)(t:UV):Prop :=
 ∀(c:cW) (s:Shared) (σ:St) (H:Hp) (o i v:V) (ov iv u:Value) (Q:Hp->Prop),aN X c σ H s->aQ o ov->aQ i iv->aQ v u->t o i v H Q ->
  wpAny (model X.prog X.w) X.A (setItem ov iv u) (λ_ d=>∃H',aN X c σ H' d/\Q H') X.xe s
section
variable {X:Cx}{pos:Pos}
def gName (i:Nat):TG:=λv σ H Q=>Q (σ.set i (some v)) H
theorem bP (f:X.N.Nodup)(hi:X.N[i]?=some x)(d:U7 X.env.scope x)(e:X.fn x=true∨X.env.scope.names.lookup x=some .local:=by first|exact .inl rfl|exact .inr rfl|assumption):PG X (.Name x pos) (gName i):=by intro c s σ H v u Q I r h;exact wpAny_assign_Name (A9 I f hi d r (λj g=>⟨_,H,g,h⟩) e)
def gNil:UW:=λvs σ H Q=>vs=[]/\Q σ H
def gCons (t:TG)(u:UW):UW:=λvs σ H Q=>∃v r,vs=v::r/\t v σ H λc H'=>u r c H' Q
theorem F8:U6 X [] gNil:=by intro c s σ H vs us Q I r h;obtain⟨e,h⟩:=h;subst e;cases r;exact assignInOrder_nil ⟨σ,H,I,h⟩
theorem oR (m:PG X e t)(l:U6 X es u)
  (j:(assignEach (e::es) X.env).map (·.2)=assign e X.env::(assignEach es X.env).map (·.2):=by rfl):U6 X (e::es) (gCons t u):=by
 intro c s σ H vs us Q I r h;obtain⟨v,w,o,h⟩:=h;subst o;cases r with
 | cons r g =>
  rw[j];refine assignInOrder_cons (thn (m c s σ H _ _ _ I r h) λ_ f ⟨d,q,p,i⟩=>?_);exact l c f d q _ _ Q p g i
def gTup (K:PySem.W.Frag)(n:Nat)(t:UW):TG:=λv σ H Q=>∃a xs,v = .ref a/\iG K H a xs/\xs.length=n/\t xs σ H Q
theorem K6 (hc:X.calm=true)(h:U6 X es t)
  (m:(assignEach es X.env).length=n:=by rfl) (f:(assignEach es X.env).findIdx? (·.1)=none:=by rfl):PG X (.Tuple es k pos) (gTup X.K n t):=by
 intro c s σ H v u Q I r d;obtain⟨a,xs,q,l,p,d⟩:=d;subst q;cases r;obtain⟨its,g,j,hz⟩:=I.tuple l;refine assign_Tuple_tuple (I.ok.hd hc) j (by simp[m,←p,g.length]) f λh' i=>?_;have w:aN X c σ H {s with heap:=h'}:=I.kept (t':=s.toks) λb o e=>i b o (bq (bd e)) e;exact h c _ σ H xs _ Q w (by simpa using g) d
def gSub (c d:TE)(t:UV):TG:=λv σ H Q=>c σ H λo g=>d σ g λi f=>t o i v f λe=>Q σ e
theorem K7 (ho:PE X o to)(hi:PE X i ti)(m:UZ X t)
  (p:∀v,assign (.Subscript o i pos) X.env v=(do
   let d ←holding [v] (eval o X.env)
   let iv ←holding [v,d] (eval i X.env)
   standAt pos
   holding [v,d,iv] (setItem d iv v)
   release [v,d,iv] []):=by intro _;rfl):PG X (.Subscript o i pos) (gSub to ti t):=by
 intro c s σ H v u Q I r h;rw[p];refine aa (cj (thn (ho c s σ H _ I h) λd e ⟨x,C,z,r1,l⟩=>?_));refine aa (cj (thn (hi c e σ C _ z l) λiv s2 ⟨y,B,w,f,j⟩=>?_));refine aa (wpAny_standAt (aa (cj (thn (m c s2 σ B x y v d iv u _ w r1 f r j) λ_ E ⟨A,q,g⟩=>?_))));exact wpAny_release ⟨σ,A,q,g⟩
def tAsg (c:TE)(g:TG):TS:=λD σ H=>c σ H λx d=>g x σ d D.nx
theorem uE (m:PE X e te)(l:PG X tg g)(j:swapsWithSole [tg] e pos.line X.env=pure false:=by rfl)(i:swappedStores [tg] e X.env=pure none:=by rfl)
  (o:(assignEach [tg] X.env).map (·.2)=[assign tg X.env]:=by rfl):PS X (.Assign [tg] e pos) (tAsg te g):=by
 intro c s σ H D I h;refine wpAny_Assign_stores (thn (m c s σ H _ I h) λv d ⟨x,r,p,r1,f⟩=>?_) j i;rw[o];exact thn (l c d σ r x v _ p r1 f) λ_ s2 q=>q
theorem aW (m:X.N.Nodup)(hi:X.N[i]?=some x)(f:U7 X.env.scope x)(l:PE X e te)(g:swapsWith e (some (.Name x pos')) pos.line X.env=pure false:=by rfl)(j:X.fn x=true∨X.env.scope.names.lookup x=some .local:=by first|exact .inl rfl|exact .inr rfl|assumption) :
  PS X (.Assign [.Name x pos'] e pos) (tAsg te (gName i)):=by
 intro c s σ H D I h;refine wpAny_Assign_Name (thn (l c s σ H _ I h) λv r ⟨y,q,p,r1,d⟩=>?_) g;exact A9 p m hi f r1 (λs2 o=>⟨_,q,o,d⟩) j
def tR (c:TT)(g:TS):TS:=λD σ H=>∃W:Nat->St->Hp->Prop,(∃m,W m σ H)/\∀m σ H,W m σ H ->
 c σ H λb f=>if b=true then ∃N:St->Hp->Prop,(∀d H',N d H'->∃e,e<m/\W e d H')/\g {D with nx:=N,ct:=N,bk:=D.nx} σ f else D.nx σ f
theorem oO (t:PassesOwn (model X.prog X.w) X.A X.env X.xe)(hc:PT X c tc)(hb:DH X body tb):PS X (.While c body [] pos) (tR tc tb):=by
 intro d s σ H D I h;obtain⟨W,⟨J,E⟩,turn⟩:=h;refine wpAny_While (codeAny_whileLoop (λn G=>∃r H',aN X d r H' G/\W n r H') ?_ J ⟨σ,H,I,E⟩);rintro n F ⟨i,B,K,C⟩;refine wpAny_passesOwn t (thn (hc d F i B _ K (turn n i B C)) λb s2 ⟨z,x,l⟩=>?_);cases b with
 | true =>
  obtain⟨N,u,l⟩:=l;rw[ai rfl];refine wpAny_passesOwn t (thn (hb d s2 i z _ x l) λf L j=>?_);cases f with
  | next =>
   obtain⟨e,g,q,n3⟩:=j;obtain⟨o,p,m⟩:=u e g n3;exact⟨o,p,e,g,q,m⟩
  | cont =>
   obtain⟨e,g,q,n3⟩:=j;obtain⟨o,p,m⟩:=u e g n3;exact⟨o,p,e,g,q,m⟩
  | brk=>exact j
  | ret v=>exact j
 | false =>
  rw[ab Bool.false_ne_true];exact wpAny_execs_nil ⟨i,z,x,l⟩
end
structure It where
 go:Nat->Hp->Prop
 yld:Nat->Hp->V->Hp->Prop
 stop:Nat->Hp->Prop
def fC (X:Cx)(d:cW)(H:Hp)(b:Addr):Prop :=
 H b=none/\b≠X.env.locals/\b∉X.fs/\(b∈X.ex∨X.s₀.heap.objs.size<=b)/\(∀x c,X.env.cells.lookup x=some c->c≠b)/\∀p∈X.pn++d,p.1≠b
theorem aN.fpOk {X:Cx}{d:cW}{σ:St}{H H':Hp}{s:Shared}{b:Addr}(I:aN X d σ H s)(hb:s.heap.objs.size<=b)(g:H' b=none):fC X d H' b:=by
 refine⟨g,Nat.ne_of_gt (bg I.lt hb),I.nofs hb,.inr (aq I.sz hb),λx c e z=>?_,λp f z=>?_⟩
 ·obtain⟨v,q⟩:=I.cell x c e;exact absurd (bg q.lt (by rw[z];exact hb)) (cb _)
 ·exact absurd (bg (bd (I.pin p f).1) (by rw[z];exact hb)) (cb _)
structure pF (P:Program)(w:World)(K:PySem.W.Frag)(tg:Expr)(J:It)(fp:List Addr)(it:Addr)(tn:NG):Prop where
 mem:it∈fp
 obj:∀i h,tn i h->∀b∈fp,∃o,h.get? b=some o/\∀v,o.data≠.cell v
 keep:∀i h h',tn i h->(∀b∈fp,∀o,h.get? b=some o->h'.get? b=some o)->tn i h'
 item:∀(X:Cx),X.prog=P->X.w=w->X.K=K->X.calm=true->∀(i:Nat) (pins:cW) (s:Shared) (σ:St) (H:Hp) (E:cJ),aN X pins σ H s->(∀b∈fp,fC X pins H b)->tn i s.heap->J.go i H ->
  wpAny (model P w) X.A (pyNext (.ref it)) (λr s1=>∃u,r=some u /\
   wpAny (model P w) X.A (letOwnedTupleGo tg (.ref it) u) (λ_ s2=>∃x H',aN X pins σ H' s2/\aQ x u/\J.yld i H x H'/\tn (i+1) s2.heap/\∀b∈fp,H' b=none) E s1) E s
 done:∀(X:Cx),X.prog=P->X.w=w->X.K=K->X.calm=true->∀(i:Nat) (pins:cW) (s:Shared) (σ:St) (H:Hp) (E:cJ),aN X pins σ H s->(∀b∈fp,fC X pins H b)->tn i s.heap->J.stop i H ->
  wpAny (model P w) X.A (pyNext (.ref it)) (λr s1=>r=none/\aN X pins σ H s1) E s
 self:∀(A:Around) (i:Nat) (s:Shared) (Q:cJ) (E:cJ),tn i s.heap->Q (.ref it) s->wpAny (model P w) A (pyIter (.ref it)) Q E s
abbrev TI:=St->Hp->(It->Hp->Prop)->Prop
def VQ (X:Cx)(c:cW)(σ:St)(e:Expr)(R:It->Hp->Prop)(d:Value)(s2:Shared):Prop :=
 ∃(it:Addr) (fp:List Addr) (tn:NG) (J:It) (H':Hp),d = .ref it/\aN X c σ H' s2/\pF X.prog X.w X.K e J fp it tn/\tn 0 s2.heap/\(∀b∈fp,fC X c H' b)/\R J H'
def PI (X:Cx)(e iter:Expr)(d:TI):Prop :=
 ∀(c:cW) (s:Shared) (σ:St) (H:Hp) (R:It->Hp->Prop),aN X c σ H s->d σ H R ->
  wpAny (model X.prog X.w) X.A (eval iter X.env) (λv f=>wpAny (model X.prog X.w) X.A (pyIter v) (VQ X c σ e R) X.xe f) X.xe s
theorem CO {E:cJ}{Q:Unit->Shared->Prop}(ho:s.heap.get? it=some o)(hc:o.cls = .type n)(hd:o.data = .fields vs)
  (d:["enumerate","zip","dict_itemiterator","dict_reverseitemiterator","odict_iterator","itertools.zip_longest","itertools.pairwise"].contains n=false) (c:Q () s):wpAny M A (letOwnedTupleGo tg (.ref it) u) Q E s:=by
 unfold letOwnedTupleGo;cases tg <;> first
  | exact ao c
  | (cases u <;> first
    | exact ao c
    | (refine aa (wpAny_load ho ?_);rw[hc,hd];show wpAny M A (if (["enumerate","zip","dict_itemiterator","dict_reverseitemiterator","odict_iterator","itertools.zip_longest","itertools.pairwise"].contains n && vs[0]? == some (rawInt _))=true then _ else _) Q E s;rw[ab (by intro h;rw[d,Bool.false_and]at h;cases h)];exact ao c))
noncomputable def RH (K:PySem.W.Frag)(a:Addr):It :=
 ⟨λi H=>∃xs x,eV K H a xs/\xs[i]?=some x,λi H x H'=>H'=H/\∀xs,eV K H a xs->xs[i]?=some x,λi H=>∃xs,eV K H a xs/\xs.length<=i⟩
noncomputable def RG (K:PySem.W.Frag)(a:Addr):It :=
 ⟨λi H=>∃xs x,iG K H a xs/\xs[i]?=some x,λi H x H'=>H'=H/\∀xs,iG K H a xs->xs[i]?=some x,λi H=>∃xs,iG K H a xs/\xs.length<=i⟩
noncomputable def NN (lo:Int)(n:Nat):It:=⟨λi _=>i<n,λi H x H'=>H'=H/\x = .int (lo+i),λi _=>n<=i⟩
theorem HD {P:Program}{w:World}{K:PySem.W.Frag}{F:Expr}(a it:Addr):pF P w K F (RH K a) [it] it (λi h=>h.IsListIter it a i) where
 mem:=by simp
 obj:=λi h st b hb=>by
  have e:b=it:=by simpa using hb
  subst e;obtain⟨o,e,c,d⟩:=st;exact⟨o,e,λv z=>by rw[d]at z;cases z⟩
 keep:=λi h h' st k=>st.at λo e=>k it (by simp) o e
 item:=by intro X A r B hc i f s σ H E I l st t;subst A r B;obtain⟨xs,x,j,q⟩:=t;obtain⟨its,m,p,hz⟩:=I.list j;obtain⟨u,L,G⟩:=m.get q;obtain⟨f0,f1,f2,f3,f4,C⟩:=l it (by simp);refine wpAny_pyNext_list_item st p.isList (x:=u) (by simpa using L) λh' g sb=>?_;have O:aN X f σ H {s with heap:=h'}:=I.turned (t':=s.toks) (λb o hb e=>(sb.2 b hb).trans e) f0 f1 f3 f4 C;obtain⟨o,e,c,d⟩:=id g;exact⟨u,rfl,CO (s:={s with heap:=h'}) e c d (by decide) ⟨x,H,O,G,⟨rfl,λys J=>by rw[I.list_inj J j];exact q⟩,g,λb hb=>(l b hb).1⟩⟩
 done:=by intro X A r B hc i f s σ H E I l st t;subst A r B;obtain⟨xs,j,q⟩:=t;obtain⟨its,m,p,hz⟩:=I.list j;obtain⟨f0,f1,f2,f3,f4,C⟩:=l it (by simp);have Q:=m.length;exact wpAny_pyNext_list_end (I.ok.hd hc) st p.isList (by simp;lia) λh' N=>⟨rfl,I.turned (t':=s.toks) (λb o hb e=>N b o hb e) f0 f1 f3 f4 C⟩
 self:=λ_ _ _ _ _ st h=>wpAny_pyIter_listiter st h
theorem DN {P:Program}{w:World}{K:PySem.W.Frag}{F:Expr}(a it:Addr):pF P w K F (RG K a) [it] it (λi h=>h.IsTupleIter it a i) where
 mem:=by simp
 obj:=λi h st b hb=>by
  have e:b=it:=by simpa using hb
  subst e;obtain⟨o,e,c,d⟩:=st;exact⟨o,e,λv z=>by rw[d]at z;cases z⟩
 keep:=λi h h' st k=>st.at λo e=>k it (by simp) o e
 item:=by intro X A r B hc i f s σ H E I l st t;subst A r B;obtain⟨xs,x,j,q⟩:=t;obtain⟨its,m,p,hz⟩:=I.tuple j;obtain⟨u,L,G⟩:=m.get q;obtain⟨f0,f1,f2,f3,f4,C⟩:=l it (by simp);refine wpAny_pyNext_tuple_item st (show s.heap.IsTuple a its.toArray from p) (x:=u) (by simpa using L) λh' g sb=>?_;have O:aN X f σ H {s with heap:=h'}:=I.turned (t':=s.toks) (λb o hb e=>(sb.2 b hb).trans e) f0 f1 f3 f4 C;obtain⟨o,e,c,d⟩:=id g;exact⟨u,rfl,CO (s:={s with heap:=h'}) e c d (by decide) ⟨x,H,O,G,⟨rfl,λys J=>by rw[I.tuple_inj J j];exact q⟩,g,λb hb=>(l b hb).1⟩⟩
 done:=by intro X A r B hc i f s σ H E I l st t;subst A r B;obtain⟨xs,j,q⟩:=t;obtain⟨its,m,p,hz⟩:=I.tuple j;obtain⟨f0,f1,f2,f3,f4,C⟩:=l it (by simp);have Q:=m.length;exact wpAny_pyNext_tuple_end (I.ok.hd hc) st (show s.heap.IsTuple a its.toArray from p) (by simp;lia) λh' N=>⟨rfl,I.turned (t':=s.toks) (λb o hb e=>N b o hb e) f0 f1 f3 f4 C⟩
 self:=λ_ _ _ _ _ st h=>wpAny_pyIter_tupleiter st h
theorem DO {P:Program}{w:World}{K:PySem.W.Frag}{q:Expr}(it:Addr)(lo:Int)(n:Nat):pF P w K q (NN lo n) [it] it (λi h=>IsRangeIter h it (lo+(i:Nat) * 1) ((n:Int) - (i:Nat)) 1) where
 mem:=by simp
 obj:=λi h st b hb=>by
  have e:b=it:=by simpa using hb
  subst e
  exact⟨_,st,λv z=>by
   have z':Data.fields _=Data.cell v:=z
   cases z'⟩
 keep:=λi h h' st k=>k it (by simp) _ st
 item:=by intro X l g m hc i c s σ H E I f st j;subst l g m;obtain⟨f0,f1,f2,f3,f4,p⟩:=f it (by simp);have W:=Walks.range (prog:=X.prog) (w:=X.w) (I.ok.hd hc) it lo 1 n;refine W.item i s _ _ j st λv h' tk u d r=>?_;obtain⟨t,rfl⟩:=u;have A:aN X c σ H {s with heap:=h',toks:=tk}:=I.turned (λb o hb e=>r b o (by simpa using hb) e) f0 f1 f3 f4 p;refine⟨_,rfl,CO (s:={s with heap:=h',toks:=tk}) (n:="range_iterator") d rfl rfl (by decide) ⟨.int (lo+i),H,A,⟨t,?_⟩,⟨rfl,rfl⟩,d,λb hb=>(f b hb).1⟩⟩;rw[Int.mul_one]
 done:=by intro X l g m hc i c s σ H E I f st j;subst l g m;obtain⟨f0,f1,f2,f3,f4,p⟩:=f it (by simp);exact wpAny_pyNext_range_end (I.ok.hd hc) st (by have:n<=i:=j;lia) λh' x=>⟨rfl,I.turned (t':=s.toks) (λb o hb e=>x b o hb e) f0 f1 f3 f4 p⟩
 self:=λ_ _ _ _ _ st h=>wpAny_pyIter_rangeiter st h
section
variable {X:Cx}{tg:Expr}
theorem K2 {c:cW}{σ:St}{H:Hp}{s:Shared}{R:It->Hp->Prop}{E:cJ}{lo hi:Int}{t u v:Tok}{tk:Nat}(I:aN X c σ H s)(i : -(2 ^ 62)<=lo)(h:lo<2 ^ 62)(g : -(2 ^ 62)<=hi)(f:hi<2 ^ 62)
  (q:R (NN lo (hi - lo).toNat) H):wpAny (model X.prog X.w) X.A (pyIter (.ref s.heap.objs.size)) (VQ X c σ tg R) E {s with heap:=s.heap.push {cls:=.type "range",data:=.fields #[.int lo t,.int hi u,.int 1 v]},toks:=tk}:=by
 refine wpAny_pyIter_range (IsRange.new ..) (small_one i h g f) ?_;have d:aN X c σ H {s with heap:=s.heap.push {cls:=.type "range",data:=.fields #[.int lo t,.int hi u,.int 1 v]},toks:=tk}:=I.kept λb o e=>af _ e
 refine⟨(s.heap.push {cls:=.type "range",data:=.fields #[.int lo t,.int hi u,.int 1 v]}).objs.size,[(s.heap.push {cls:=.type "range",data:=.fields #[.int lo t,.int hi u,.int 1 v]}).objs.size],_,_,H,rfl,
  d.kept (t':=tk) λb o e=>af _ e,DO _ lo (hi - lo).toNat,?_,λb hb=>?_,q⟩
 ·have l:lo+((0:Nat):Int) * 1=lo:=by simp
  have j:(((hi - lo).toNat:Nat):Int) - ((0:Nat):Int)=Builtin.Range.rangeSize lo hi 1:=by rw[rangeSize_one];split <;> lia
  show IsRangeIter _ _ (lo+((0:Nat):Int) * 1) ((((hi - lo).toNat:Nat):Int) - ((0:Nat):Int)) 1;rw[l,j];exact aw _ rfl
 ·have e:b=(s.heap.push {cls:=.type "range",data:=.fields #[.int lo t,.int hi u,.int 1 v]}).objs.size:=by simpa using hb
  subst e;exact d.fpOk (ac _) (d.hok.fresh (ac _))
def iRng1 (c:TA):TI:=λσ H R=>c σ H λvs d=>∃j:Int,vs=[.int j]/\-(2 ^ 62)<=j/\j<2 ^ 62/\R (NN 0 j.toNat) d
def iRng2 (c:TA):TI:=λσ H R=>c σ H λvs d=>∃i j:Int,vs=[.int i,.int j]/\(-(2 ^ 62)<=i/\i<2 ^ 62/\-(2 ^ 62)<=j/\j<2 ^ 62)/\R (NN i (j - i).toNat) d
theorem fT (m:Gl X "range")(l:X.mg "range" = none)(o:PA X [a] ta)(i:starEach [a] X.env=[(false,eval a X.env)]:=by rfl):PI X tg (.Call (.Name "range" p) [a] [] pos) (iRng1 ta):=by
 intro c s σ H R I h;refine Call_ (nR I m l boot_range (PyProof.Rows.callWith_type1 (thn (o pos c s σ H _ I h) λus v ⟨vs,w,u,r1,d⟩=>?_) i rfl));obtain⟨j,e,d,g,q⟩:=d;subst e;cases r1 with
 | cons r f =>
  cases f;obtain⟨t,rfl⟩:=r;exact call_range_1 (K2 u (by lia) (by lia) d g (by simpa using q))
def tFor (f:TI)(g:TG)(h:TS):TS:=λD σ H=>f σ H λJ l=>∃W:Nat->Nat->St->Hp->Prop,(∃m,W 0 m σ l)/\∀i m σ H,W i m σ H ->
 (J.stop i H/\D.nx σ H)∨(J.go i H/\∃N:St->Hp->Prop,(∀c H',N c H'->∃d,d<m/\W (i+1) d c H')/\∀x H',J.yld i H x H'->g x σ H' λe j=>h {D with nx:=N,ct:=N,bk:=D.nx} e j)
noncomputable def uF (fp:List Addr)(h:Heap):cW:=fp.filterMap λb=>(h.get? b).map λo=>(b,o)
theorem nN (hb:b∈fp)(e:h.get? b=some o):(b,o)∈uF fp h:=List.mem_filterMap.mpr ⟨b,hb,by rw[e];rfl⟩
theorem xF (c:p∈uF fp h):p.1∈fp/\h.get? p.1=some p.2:=by
 obtain⟨b,hb,e⟩:=List.mem_filterMap.mp c;cases q:h.get? b with
 | none=>rw[q]at e;cases e
 | some o =>
  rw[q]at e;have e':(b,o)=p:=Option.some.inj e;subst e';exact⟨hb,q⟩
theorem aN.pinned {c:cW}{σ:St}{H:Hp}{s:Shared}{fp:List Addr}(I:aN X c σ H s)(h:∀b∈fp,fC X c H b)(ho:∀b∈fp,∃o,s.heap.get? b=some o/\∀v,o.data≠.cell v):aN X (c++uF fp s.heap) σ H s :=
 I.pins_of λp g=>(cw.mp g).elim (λz=>I.pin p (bz _ z)) λz=>by obtain⟨hb,e⟩:=xF z;obtain⟨f0,f1,f2,_⟩:=h p.1 hb;obtain⟨o,f,d⟩:=ho p.1 hb;rw[e]at f;cases f;exact⟨e,f0,f1,f2,d⟩
theorem aN.unpinned {c pl:cW}{σ:St}{H:Hp}{s:Shared}(I:aN X (c++pl) σ H s):aN X c σ H s:=I.pins_of λp d=>I.pin p (bz _ (ci _ d))
theorem eE (K:PassesOwn (model X.prog X.w) X.A X.env X.xe)(hc:X.calm=true)(hi:PI X tg iter wi)(hg:PG X tg g)(hb:DH X body tb)
  (hs:∀x,foldedSetIterable iter X.env x=pure x:=by intro _;rfl):PS X (.For tg iter body [] pos) (tFor wi g tb):=by
 intro c s σ H D I h;refine wpAny_For (thn (hi c s σ H _ I h) λv s1 h1=>thn h1 λitv s2 h2=>?_) hs;obtain⟨it,fp,U,J,H2,e,I2,T,P,f2,W,⟨m0,w0⟩,turn⟩:=h2;subst e
 -- what stays true of the iterator's objects through the loop
 have l:∀{H':Hp},(∀b∈fp,H' b=none)->∀b∈fp,fC X c H' b:=λhn b hb=>⟨hn b hb,(f2 b hb).2⟩
 refine codeAny_forLoop_any (λn s'=>∃i E H',aN X c E H' s'/\U i s'.heap/\(∀b∈fp,H' b=none)/\W i n E H') ?_ m0 ⟨0,σ,H2,I2,P,λb hb=>(f2 b hb).1,w0⟩;rintro n Z ⟨i,C,O,I3,F,L,w3⟩;rcases turn i n C O w3 with⟨stop,qn⟩|⟨go,N,hN,step⟩
 ·refine wpAny_passesOwn K (thn (T.done X rfl rfl rfl hc i c Z C O X.xe I3 (l L) F stop) λr s4 ⟨R,I4⟩=>?_);subst R;exact wpAny_execs_nil ⟨C,O,I4,qn⟩
 ·refine wpAny_passesOwn K (thn (T.item X rfl rfl rfl hc i c Z C O X.xe I3 (l L) F go) λr s4 ⟨u,R,h4⟩=>?_);subst R;refine wpAny_passesOwn K (thn h4 λ_ Y ⟨x,H5,I5,r5,y5,B,S⟩=>?_);have I5':=I5.pinned (l S) (T.obj _ _ B);refine wpAny_passesOwn K (thn (hg _ Y C H5 x u _ I5' r5 (step x H5 y5)) λ_ s6 ⟨σ6,H6,I6,q6⟩=>?_);refine wpAny_passesOwn K (thn (hb _ s6 σ6 H6 _ I6 q6) λf Q z=>?_);have p:∀{j:St} {t:Hp},aN X (c++uF fp Y.heap) j t Q->N j t->∃m,m<n/\∃i E H',aN X c E H' Q/\U i Q.heap/\(∀b∈fp,H' b=none)/\W i m E H':=λ{j t} q G=>by obtain⟨m',hm,w7⟩:=hN j t G;refine⟨m',hm,i+1,j,t,q.unpinned,T.keep _ _ _ B λb hb o e=>(q.pin (b,o) (bz _ (bz _ (nN hb e)))).1,λb hb=>?_,w7⟩;obtain⟨o,e,d⟩:=T.obj _ _ B b hb;exact(q.pin (b,o) (bz _ (bz _ (nN hb e)))).2.1
  cases f with
  | next=>obtain⟨j,t,q,G⟩:=z;exact p q G
  | cont=>obtain⟨j,t,q,G⟩:=z;exact p q G
  | brk=>obtain⟨j,t,q,z⟩:=z;exact⟨j,t,q.unpinned,z⟩
  | ret v=>obtain⟨x7,j,t,q,r7,z⟩:=z;exact⟨x7,j,t,q.unpinned,r7,z⟩
end
theorem MO {K:PySem.W.Frag}{a:Addr}{xs:List V}{g:TG}{j:TS}{D:jD}{σ:St}{H:Hp}(Pv:Nat->St->Hp->Prop)(t:Pv 0 σ H)(s:∀i σ H,i<=xs.length->Pv i σ H->eV K H a xs)
  (r:∀i x σ H,xs[i]?=some x->Pv i σ H->g x σ H λd h=>j {D with nx:=Pv (i+1),ct:=Pv (i+1),bk:=D.nx} d h) (hd:∀σ H,Pv xs.length σ H->D.nx σ H) :
  ∃W:Nat->Nat->St->Hp->Prop,(∃m,W 0 m σ H)/\∀i m σ H,W i m σ H ->
   ((RH K a).stop i H/\D.nx σ H)∨((RH K a).go i H/\∃N:St->Hp->Prop,(∀f H',N f H'->∃l,l<m/\W (i+1) l f H')/\∀x H',(RH K a).yld i H x H'->g x σ H' λd h=>j {D with nx:=N,ct:=N,bk:=D.nx} d h):=by
 refine⟨λi m σ H=>m=xs.length - i/\i<=xs.length/\Pv i σ H,⟨xs.length,by simp,ax _,t⟩,?_⟩;rintro i m σ H ⟨rfl,hi,p⟩;have q:=s i σ H hi p;by_cases c:i<xs.length
 ·refine .inr ⟨⟨xs,xs[i],q,by simp[c]⟩,Pv (i+1),λf H' o=>⟨xs.length - (i+1),by lia,rfl,c,o⟩,λx H' y=>?_⟩;obtain⟨e,y⟩:=y;subst e;exact r i x σ _ (y xs q) p
 ·have e:i=xs.length:=by lia
  subst e;exact .inl ⟨⟨xs,q,ac _⟩,hd σ H p⟩
theorem P6 {K:PySem.W.Frag}{a:Addr}{xs:List V}{g:TG}{j:TS}{D:jD}{σ:St}{H:Hp}(Pv:Nat->St->Hp->Prop)(t:Pv 0 σ H)(s:∀i σ H,i<=xs.length->Pv i σ H->iG K H a xs)
  (r:∀i x σ H,xs[i]?=some x->Pv i σ H->g x σ H λd h=>j {D with nx:=Pv (i+1),ct:=Pv (i+1),bk:=D.nx} d h) (hd:∀σ H,Pv xs.length σ H->D.nx σ H) :
  ∃W:Nat->Nat->St->Hp->Prop,(∃m,W 0 m σ H)/\∀i m σ H,W i m σ H ->
   ((RG K a).stop i H/\D.nx σ H)∨((RG K a).go i H/\∃N:St->Hp->Prop,(∀f H',N f H'->∃l,l<m/\W (i+1) l f H')/\∀x H',(RG K a).yld i H x H'->g x σ H' λd h=>j {D with nx:=N,ct:=N,bk:=D.nx} d h):=by
 refine⟨λi m σ H=>m=xs.length - i/\i<=xs.length/\Pv i σ H,⟨xs.length,by simp,ax _,t⟩,?_⟩;rintro i m σ H ⟨rfl,hi,p⟩;have q:=s i σ H hi p;by_cases c:i<xs.length
 ·refine .inr ⟨⟨xs,xs[i],q,by simp[c]⟩,Pv (i+1),λf H' o=>⟨xs.length - (i+1),by lia,rfl,c,o⟩,λx H' y=>?_⟩;obtain⟨e,y⟩:=y;subst e;exact r i x σ _ (y xs q) p
 ·have e:i=xs.length:=by lia
  subst e;exact .inl ⟨⟨xs,q,ac _⟩,hd σ H p⟩
theorem JE {lo:Int}{n:Nat}{g:TG}{j:TS}{D:jD}{σ:St}{H:Hp}(Pv:Nat->St->Hp->Prop)(r:Pv 0 σ H)
  (q:∀i σ H,i<n->Pv i σ H->g (.int (lo+i)) σ H λd h=>j {D with nx:=Pv (i+1),ct:=Pv (i+1),bk:=D.nx} d h) (hd:∀σ H,Pv n σ H->D.nx σ H) :
  ∃W:Nat->Nat->St->Hp->Prop,(∃m,W 0 m σ H)/\∀i m σ H,W i m σ H ->
   ((NN lo n).stop i H/\D.nx σ H)∨((NN lo n).go i H/\∃N:St->Hp->Prop,(∀f H',N f H'->∃l,l<m/\W (i+1) l f H')/\∀x H',(NN lo n).yld i H x H'->g x σ H' λd h=>j {D with nx:=N,ct:=N,bk:=D.nx} d h):=by
 refine⟨λi m σ H=>m=n - i/\i<=n/\Pv i σ H,⟨n,by simp,ax _,r⟩,?_⟩;rintro i m σ H ⟨rfl,hi,p⟩;by_cases c:i<n
 ·refine .inr ⟨c,Pv (i+1),λf H' o=>⟨n - (i+1),by lia,rfl,c,o⟩,λx H' y=>?_⟩;obtain⟨e,y⟩:=y;subst e y;exact q i σ _ c p
 ·have e:i=n:=by lia
  subst e;exact .inl ⟨ac _,hd σ H p⟩
abbrev R2:=V->V->Hp->VK->Prop
def jZ (X:Cx)(f:Value->Value->Sem Value)(r:R2):Prop :=
 ∀(c:cW) (s:Shared) (σ:St) (H:Hp) (x y:V) (v u:Value) (Q:VK),aN X c σ H s->aQ x v->aQ y u->r x y H Q ->
  wpAny (model X.prog X.w) X.A (f v u) (EP X c σ Q) X.xe s
def VB (X:Cx)(f:Value->Sem Value)(r:V->Hp->VK->Prop):Prop :=
 ∀(c:cW) (s:Shared) (σ:St) (H:Hp) (x:V) (v:Value) (Q:VK),aN X c σ H s->aQ x v->r x H Q ->
  wpAny (model X.prog X.w) X.A (f v) (EP X c σ Q) X.xe s
def cN (X:Cx)(f:Value)(r:List V->Hp->VK->Prop):Prop :=
 ∀(c:cW) (s:Shared) (σ:St) (H:Hp) (xs:List V) (us:cS) (Q:VK),aN X c σ H s->aR xs us->r xs H Q ->
  wpAny (model X.prog X.w) X.A (call f us) (EP X c σ Q) X.xe s
def VC (X:Cx)(r:V->Hp->(Bool->Hp->Prop)->Prop):Prop :=
 ∀(c:cW) (s:Shared) (σ:St) (H:Hp) (x:V) (v:Value) (Q:Bool->Hp->Prop),aN X c σ H s->aQ x v->r x H Q ->
  wpAny (model X.prog X.w) X.A (truthy v) (TP X c σ Q) X.xe s
def tOp (r:R2)(d c:TE):TE:=λσ H Q=>d σ H λx f=>c σ f λy e=>r x y e Q
def tUn (r:V->Hp->VK->Prop)(c:TE):TE:=λσ H Q=>c σ H λx d=>r x d Q
def rI (C:Int->Int->Prop)(g:Int->Int->V):R2:=λx y H Q=>∃i j,x = .int i/\y = .int j/\C i j/\Q (g i j) H
def rI0 (g:Int->Int->V):R2:=λx y H Q=>∃i j,x = .int i/\y = .int j/\Q (g i j) H
def rU (g:Int->V):V->Hp->VK->Prop:=λx H Q=>∃i,x = .int i/\Q (g i) H
section
variable {X:Cx}{a b c:Expr}{ta tb tc:TE}{pos:Pos}
theorem binT (q:PE X a ta)(hb:PE X b tb){c:cW}{s:Shared}{σ:St}{H:Hp}{R:V->V->Hp->Prop}(I:aN X c σ H s)
  (h:ta σ H λx e=>tb σ e λy d=>R x y d) {Q:cJ} {f:Value->Value->Sem Value}
  (p:∀v u s2 x y d,aN X c σ d s2->aQ x v->aQ y u->R x y d->wpAny (model X.prog X.w) X.A (f v u) Q X.xe s2) :
  wpAny (model X.prog X.w) X.A (eval a X.env) (λv i=>wpAny (model X.prog X.w) X.A (eval b X.env) (λu g=>wpAny (model X.prog X.w) X.A (f v u) Q X.xe g) X.xe i) X.xe s:=by
 refine thn (q c s σ H _ I h) λv j ⟨x,e,t,r1,o⟩=>?_;refine thn (hb c j σ e _ t o) λu s2 ⟨y,d,r,l,m⟩=>?_;exact p v u s2 x y d r r1 l m
theorem bK (ho:jZ X (binaryOp op) r)(f:PE X a ta)(hb:PE X b tb):PE X (.BinOp a op b pos) (tOp r ta tb):=by intro c s σ H Q I h;exact wpAny_BinOp (binT f hb I h λv u s2 x y i g e d q=>ho c s2 σ i x y v u Q g e d q)
theorem Q6 {r:V->Hp->VK->Prop}(ho:VB X (unaryOp op) r)(f:PE X a ta):PE X (.UnaryOp op a pos) (tUn r ta):=by intro c s σ H Q I h;exact UnaryOp_ (thn (f c s σ H _ I h) λv d ⟨x,i,g,r1,e⟩=>ho c d σ i x v Q g r1 e)
theorem opI {f:Value->Value->Sem Value}{C:Int->Int->Prop}{g:Int->Int->Int}
  (c:∀(i j:Int) (t u:Tok) (s:Shared) (Q:cJ) (E:cJ),C i j->Q (.int (g i j) s.toks) {s with toks:=s.toks+1}->wpAny (model X.prog X.w) X.A (f (.int i t) (.int j u)) Q E s) :
  jZ X f (rI C λi j=>.int (g i j)):=by
 intro d s σ H x y v u Q I l e h;obtain⟨i,j,rfl,rfl,hc,q⟩:=h;obtain⟨t,rfl⟩:=l;obtain⟨t',rfl⟩:=e;exact c i j t t' s _ _ hc ⟨.int (g i j),H,I.tok _,⟨_,rfl⟩,q⟩
theorem opI0 {f:Value->Value->Sem Value}{g:Int->Int->Int}
  (c:∀(i j:Int) (t u:Tok) (s:Shared) (Q:cJ) (E:cJ),Q (.int (g i j) s.toks) {s with toks:=s.toks+1}->wpAny (model X.prog X.w) X.A (f (.int i t) (.int j u)) Q E s) :
  jZ X f (rI0 λi j=>.int (g i j)):=by
 intro d s σ H x y v u Q I l e h;obtain⟨i,j,rfl,rfl,q⟩:=h;obtain⟨t,rfl⟩:=l;obtain⟨t',rfl⟩:=e;exact c i j t t' s _ _ ⟨.int (g i j),H,I.tok _,⟨_,rfl⟩,q⟩
theorem opB0 {f:Value->Value->Sem Value}{g:Int->Int->Bool}
  (c:∀(i j:Int) (t u:Tok) (s:Shared) (Q:cJ) (E:cJ),Q (.bool (g i j)) s->wpAny (model X.prog X.w) X.A (f (.int i t) (.int j u)) Q E s) :
  jZ X f (rI0 λi j=>.bl (g i j)):=by
 intro d s σ H x y v u Q I l e h;obtain⟨i,j,rfl,rfl,q⟩:=h;obtain⟨t,rfl⟩:=l;obtain⟨t',rfl⟩:=e;exact c i j t t' s _ _ ⟨.bl (g i j),H,I,rfl,q⟩
def VP (i j:Int):Prop:=0<j/\j<1073741824
def VO (i j:Int):Prop:=0<=j/\j<=1000000/\i.natAbs<2 ^ 64
def UB (i j:Int):Prop:=(-(2 ^ 64)<i/\i<2 ^ 64)∨(-(2 ^ 64)<j/\j<2 ^ 64)
theorem UB.ok (h:UB i j):IntMulOk i j:=by
 rcases h with⟨d,c⟩|⟨d,c⟩
 ·exact .of_left (intBits_le_64 d c)
 ·exact .of_right (intBits_le_64 d c)
theorem SK:jZ X (binaryOp .Add) (rI0 λi j=>.int (i+j)):=opI0 λ_ _ _ _ _ _ _ q=>add_int q
theorem qD:jZ X (binaryOp .Sub) (rI0 λi j=>.int (i - j)):=opI0 λ_ _ _ _ _ _ _ q=>sub_int q
theorem qF:jZ X (binaryOp .Mult) (rI UB λi j=>.int (i * j)):=opI λ_ _ _ _ _ _ _ hc q=>mul_int q hc.ok
theorem sS:jZ X (binaryOp .FloorDiv) (rI VP λi j=>.int (i / j)):=opI λi j _ _ _ _ _ hc q=>by have d:(0:Int)<j:=hc.1;have c:j<1073741824:=hc.2;exact floordiv_int (by lia) (by rw[Int.fdiv_eq_ediv_of_nonneg i (by lia)];exact q) (.inl (PyProof.noPylong_small (by lia)))
theorem uK:jZ X (binaryOp .Mod) (rI (λ_ j=>0<j) λi j=>.int (i % j)):=opI λi j _ _ _ _ _ hc q=>by have c:(0:Int)<j:=hc;exact mod_int' (by lia) (by rw[Int.fmod_eq_emod_of_nonneg i (by lia)];exact q)
theorem SG:jZ X (binaryOp .Pow) (rI VO λi j=>.int (i ^ j.toNat)):=opI λ_ _ _ _ _ _ _ hc q=>pow_int_small hc.1 hc.2.1 hc.2.2 q
theorem unI {f:Value->Sem Value}{g:Int->Int}
  (c:∀(i:Int) (t:Tok) (s:Shared) (Q:cJ) (E:cJ),Q (.int (g i) s.toks) {s with toks:=s.toks+1}->wpAny (model X.prog X.w) X.A (f (.int i t)) Q E s) :
  VB X f (rU λi=>.int (g i)):=by
 intro d s σ H x v Q I e h;obtain⟨i,rfl,q⟩:=h;obtain⟨t,rfl⟩:=e;exact c i t s _ _ ⟨.int (g i),H,I.tok _,⟨_,rfl⟩,q⟩
theorem KA:VB X (unaryOp .USub) (rU λi=>.int (-i)):=unI λ_ _ _ _ _ q=>neg_int q
theorem AG {c:cW}{σ:St}{H:Hp}{s:Shared}{Q:VK}{k d:Bool}(I:aN X c σ H s)(q:Q (.bl k) H)(e:k=d):EP X c σ Q (.bool d) s:=by subst e;exact⟨.bl k,H,I,rfl,q⟩
theorem UM:jZ X (compareOp .Lt) (rI0 λi j=>.bl (decide (i<j))):=opB0 λ_ _ _ _ _ _ _ q=>lt_int q
theorem oT:jZ X (compareOp .LtE) (rI0 λi j=>.bl (decide (i<=j))):=opB0 λ_ _ _ _ _ _ _ q=>le_int q
theorem BS:jZ X (compareOp .Gt) (rI0 λi j=>.bl (decide (j<i))):=opB0 λ_ _ _ _ _ _ _ q=>gt_int q
theorem Q7:jZ X (compareOp .GtE) (rI0 λi j=>.bl (decide (j<=i))):=opB0 λ_ _ _ _ _ _ _ q=>ge_int q
theorem IB:jZ X (compareOp .Lt) (λx y H Q=>∃i j,x = .str i/\y = .str j/\Q (.bl (decide (i.cps.toList<j.cps.toList))) H):=by intro c s σ H x y v u Q I e d h;obtain⟨i,j,rfl,rfl,q⟩:=h;obtain⟨t,rfl⟩:=e;obtain⟨t',rfl⟩:=d;exact lt_str (AG I q rfl)
theorem qG:jZ X (compareOp .In) (λx y H Q=>∃i j,x = .str i/\y = .str j/\Q (.bl (!(Builtin.Str.occurrences j i 0 j.length 1).isEmpty)) H):=by intro c s σ H x y v u Q I e d h;obtain⟨i,j,rfl,rfl,q⟩:=h;obtain⟨t,rfl⟩:=e;obtain⟨t',rfl⟩:=d;exact in_str (AG I q rfl)
theorem SH:jZ X (compareOp .Is) (λx y H Q=>y = .non/\Q (.bl (decide (x = .non))) H):=by
 intro d s σ H x y v u Q I c e h;obtain⟨rfl,q⟩:=h;cases e;refine is_none_gen (AG I q ?_);cases x <;> first
  | (cases c;rfl)
  | (obtain⟨t,rfl⟩:=c;rfl)
theorem OX:jZ X (compareOp .IsNot) (λx y H Q=>y = .non/\Q (.bl (!decide (x = .non))) H):=by
 intro d s σ H x y v u Q I c e h;obtain⟨rfl,q⟩:=h;cases e;refine isnot_none_gen (AG I q ?_);cases x <;> first
  | (cases c;rfl)
  | (obtain⟨t,rfl⟩:=c;rfl)
theorem jZ.or {f:Value->Value->Sem Value}(h:jZ X f r)(h':jZ X f r'):jZ X f (λx y H Q=>r x y H Q∨r' x y H Q):=by
 intro c s σ H x y v u Q I e d q;rcases q with q|q
 ·exact h c s σ H x y v u Q I e d q
 ·exact h' c s σ H x y v u Q I e d q
theorem nomark (b:Expr)(h:op≠.In:=by decide)(c:op≠.NotIn:=by decide):behindInMarks op b=false:=by
 have e:(op == CmpOp.In)=false:=by cases op <;> first|rfl|exact absurd rfl h
 have d:(op == CmpOp.NotIn)=false:=by cases op <;> first|rfl|exact absurd rfl c
 cases b <;> simp[behindInMarks,e,d]
theorem dR (ho:jZ X (compareOp op) r)(g:PE X a ta)(hb:PE X b tb)(f:behindInMarks op b=false):PE X (.Compare a [op] [b] pos) (tOp r ta tb):=by intro c s σ H Q I h;exact wpAny_Compare1 (binT g hb I h λv u s2 x y j i e d q=>ho c s2 σ j x y v u Q i e d q) f
def tTest (t:TE):TT:=λσ H Q=>t σ H λx H'=>∃k,x = .bl k/\Q k H'
theorem aU (ho:jZ X (compareOp op) r)(p:PE X a ta)(hb:PE X b tb)(o:behindInMarks op b=false):PT X (.Compare a [op] [b] pos) (tTest (tOp r ta tb)):=by
 intro d s σ H Q I h
 refine wpAny_isTrue_Compare1 (thn (p d s σ H _ I h) λv f ⟨x,C,w,r1,m⟩=>thn (hb d f σ C _ w m) λu s2 ⟨y,B,t,i,l⟩ =>
  thn (ho d s2 σ B x y v u _ t r1 i l) λc E ⟨z,A,q,g,k,e,j⟩=>?_) o
 subst e;cases g;exact wpAny_truthy_bool ⟨A,q,j⟩
def tChain (r h:R2)(g f e:TE):TE:=λσ H Q=>g σ H λx l=>f σ l λy j=>r x y j λz c=>∃k,z = .bl k /\
 (if k=true then e σ c λd i=>h y d i Q else Q (.bl false) c)
theorem lW (ho:jZ X (compareOp op) r)(g:jZ X (compareOp op') r')(N:PE X a ta)(hb:PE X b tb)(hc:PE X c tc)
  (L:lastMarks [op,op'] [b,c]=false:=by with_unfolding_all rfl):PT X (.Compare a [op,op'] [b,c] pos) (tTest (tChain r r' ta tb tc)):=by
 intro f s σ H Q I h
 refine isTrue_chain (thn (N f s σ H _ I h) λv w ⟨x,H1,U,r1,J⟩=>test_link (thn (hb f w σ H1 _ U J) λu s2 ⟨y,Z,T,i,G⟩ =>
  thn (ho f s2 σ Z x y v u _ T r1 i G) λd t ⟨z,m,l,C,k,e,j⟩=>?_)) L
 subst e;cases C;refine wpAny_truthy_bool ?_;cases k with
 | false =>
  obtain⟨k',P,K⟩:=j;cases P;exact ite_ff ⟨m,l,K⟩
 | true =>
  refine ite_tt (test_last (thn (hc f t σ m _ l j) λp q ⟨o,Y,S,B,F⟩=>thn (g f q σ Y y o u p _ S i B F) λd' s5 ⟨z2,W,R,A,k2,O,E⟩=>?_));subst O;cases A;exact wpAny_truthy_bool ⟨W,R,E⟩
def QR (K:PySem.W.Frag)(x:V)(H:Hp)(k:Bool):Prop :=
 match x with
 | .non=>k=false
 | .bl b=>k=b
 | .int i=>k=(i != 0)
 | .str y=>y.length<=sizeLine/\k=((y.length:Int) != 0)
 | .byt y=>y.size<=sizeLine/\k=((y.size:Int) != 0)
 | .ref p=>(∃xs,eV K H p xs/\k=!xs.isEmpty)∨(∃xs,iG K H p xs/\k=!xs.isEmpty)∨∃c,H p=some (.dK c)/\k=!c.isEmpty
 | _=>False
theorem E5 {κ:Type}{c:List (κ×V)}{vs:List (κ×Value)}(r:KV c vs):(!vs.isEmpty)=!c.isEmpty:=by cases r <;> rfl
theorem uV (r:aR xs its):(!its.toArray.isEmpty)=!xs.isEmpty:=by cases r <;> simp
theorem line63:(sizeLine:Nat)<2 ^ 63:=by rw[sizeLine_eq];decide
theorem RT:VC X (λx H Q=>∃k,QR X.K x H k/\Q k H):=by
 intro l s σ H x v Q I g h;obtain⟨k,e,q⟩:=h;have u:=line63;have o:sizeLine=16777216:=sizeLine_eq;cases x with
 | non =>
  cases g;have c:k=false:=e;subst c;exact truthy_none ⟨H,I,q⟩
 | bl b =>
  cases g;have c:k=b:=e;subst c;exact wpAny_truthy_bool ⟨H,I,q⟩
 | int i =>
  obtain⟨t,rfl⟩:=g;have c:k=(i != 0):=e;subst c;exact PySem.P.truthy_int ⟨H,I,q⟩
 | str y =>
  obtain⟨t,rfl⟩:=g;obtain⟨hy,c⟩:y.length<=sizeLine/\k=((y.length:Int) != 0):=e;subst c;exact PySem.P.truthy_str (by lia) ⟨H,I.tok _,q⟩
 | byt y =>
  obtain⟨t,rfl⟩:=g;obtain⟨hy,c⟩:y.size<=sizeLine/\k=((y.size:Int) != 0):=e;subst c;exact PySem.W.truthy_bytes (by lia) ⟨H,I.tok _,q⟩
 | ref p =>
  cases g;have c:(∃xs,eV X.K H p xs/\k=!xs.isEmpty)∨(∃xs,iG X.K H p xs/\k=!xs.isEmpty)∨∃d,H p=some (.dK d)/\k=!d.isEmpty:=e;rcases c with⟨xs,j,c⟩|⟨xs,j,c⟩|⟨d,j,c⟩
  ·subst c;obtain⟨its,r,pl,hz⟩:=I.list j;have f:=r.length;exact wpAny_truthy_list pl.isList (by simp only[ag];lia) ⟨H,I.tok _,by rw[uV r];exact q⟩
  ·subst c;obtain⟨its,r,pl,hz⟩:=I.tuple j;have f:=r.length;exact truthy_tuple pl (by simp only[ag];lia) ⟨H,I.tok _,by rw[uV r];exact q⟩
  ·subst c;obtain⟨hz,hS,vs,r,m⟩:d.length<=sizeLine/\(p == sysModules)=false/\∃vs,KV d vs/\s.heap.DictOf (bW X.prog X.w) p vs:=I.hok p _ j;have f:d.length=vs.length:=Paired.length r;exact wpAny_truthy_dict hS m (by lia) ⟨H,I.tok _,by rw[E5 r];exact q⟩
 | _=>exact(show False from e).elim
theorem K3 (i:PE X a ta)(g:∀c,isTrue a X.env c=(do let v ←c;standAt a.pos;holding [v] (truthy v))) :
  PT X a (λσ H Q=>ta σ H λx H'=>∃k,QR X.K x H' k/\Q k H'):=by
 intro d s σ H Q I h;exact isTrue_plain (thn (i d s σ H _ I h) λv e ⟨x,l,j,r1,f⟩=>RT d e σ l x v Q j r1 f) (g _)
theorem EB:jZ X (binaryOp .Add) (λx y H Q=>∃i j,x = .str i/\y = .str j/\i.length+j.length<=sizeLine/\Q (.str (i++j)) H):=by intro c s σ H x y v u Q I e d h;obtain⟨i,j,rfl,rfl,hz,q⟩:=h;obtain⟨t,rfl⟩:=e;obtain⟨t',rfl⟩:=d;exact add_str (λt' tk=>⟨.str (i++j),H,I.tok _,⟨_,rfl⟩,q⟩) hz
theorem vals1 (r:aR [x] us):∃u,us=[u]/\aQ x u:=by
 cases r with
 | cons r1 c=>cases c;exact⟨_,rfl,r1⟩
theorem vals2 (r:aR [x,y] us):∃u c,us=[u,c]/\aQ x u/\aQ y c:=by
 cases r with
 | cons r1 f =>
  cases f with
  | cons e d=>cases d;exact⟨_,_,rfl,r1,e⟩
theorem M8:cN X (.builtin "abs") (λxs H Q=>∃i,xs=[.int i]/\Q (.int (if i<0 then -i else i)) H):=by intro c s σ H xs us Q I r h;obtain⟨i,rfl,q⟩:=h;obtain⟨u,rfl,t,rfl⟩:=vals1 r;exact call_abs_int λu tk=>⟨.int (if i<0 then -i else i),H,I.tok _,⟨_,rfl⟩,q⟩
theorem JU (hc:X.calm=true):cN X (.builtin "max") (λxs H Q=>∃i j,xs=[.int i,.int j]/\Q (.int (if j > i then j else i)) H):=by
 intro d s σ H xs us Q I r h;obtain⟨i,j,rfl,q⟩:=h;obtain⟨u,e,rfl,⟨t,rfl⟩,⟨t',rfl⟩⟩:=vals2 r;refine max_two_ints (I.ok.hd hc) λh' tk k=>⟨_,H,I.kept k,?_,q⟩
 by_cases c:j > i
 ·rw[ai c,ai c];exact⟨_,rfl⟩
 ·rw[ab c,ab c];exact⟨_,rfl⟩
theorem JS (hc:X.calm=true):cN X (.builtin "min") (λxs H Q=>∃i j,xs=[.int i,.int j]/\Q (.int (if j<i then j else i)) H):=by
 intro d s σ H xs us Q I r h;obtain⟨i,j,rfl,q⟩:=h;obtain⟨u,e,rfl,⟨t,rfl⟩,⟨t',rfl⟩⟩:=vals2 r;refine min_two_ints (I.ok.hd hc) λh' tk k=>⟨_,H,I.kept k,?_,q⟩
 by_cases c:j<i
 ·rw[ai c,ai c];exact⟨_,rfl⟩
 ·rw[ab c,ab c];exact⟨_,rfl⟩
theorem JW:cN X (.type "int") (λxs H Q=>(∃i,xs=[.int i]/\Q (.int i) H)∨∃k,xs=[.bl k]/\Q (.int (if k then 1 else 0)) H):=by
 intro c s σ H xs us Q I r h;rcases h with⟨i,rfl,q⟩|⟨k,rfl,q⟩
 ·obtain⟨u,rfl,t,rfl⟩:=vals1 r;exact call_int_int ⟨.int i,H,I,⟨_,rfl⟩,q⟩
 ·obtain⟨u,rfl,r1⟩:=vals1 r;cases r1;exact call_int_bool ⟨.int (if k then 1 else 0),H,I.tok _,⟨_,rfl⟩,q⟩
end
structure FM (h:Heap)(x dx C:Addr)(mA:jB):Prop where
 obj:h.get? x=some (PySem.W.instObj C dx)
 ns:h.Ns1 dx mA
 ne:dx≠x
theorem IS {h:Heap}{g:Addr}{d:jB}(n:h.Ns1 g d):∃od,h.get? g=some od/\∀name,PySem.W.lookIn name od=some (d name):=by
 obtain⟨o,f,m,ho,hd,l,_,j⟩:=n;refine⟨o,ho,λname=>?_⟩;have e:=j name;unfold nsFind findBy at e;rw[←Array.find?_toList]at e;unfold PySem.W.lookIn;rw[hd];dsimp only;split
 ·rename_i y q;rw[q]at e;exact congrArg some e
 ·rename_i q;rw[q]at e;have a:f.toList.any (·.refKey)=false:=by rw[List.any_eq_false];intro y i;obtain⟨z,t,c⟩:=l y (Array.mem_toList_iff.mp i);simp[DictEntry.refKey,c]
  have a':¬f.toList.any (·.refKey)=true:=by rw[a];exact Bool.false_ne_true
  rw[ab a'];exact congrArg some e
theorem FM.look {c:jB}(I:FM h x dx C c):∃od,PySem.W.InstAt h x (PySem.W.instObj C dx) C (some od)/\∀name,PySem.W.lookIn name od=some (c name) :=
 let⟨od,ho,hl⟩:=IS I.ns
 ⟨od,⟨I.obj,rfl,rfl,ho⟩,hl⟩
section
variable {prog:Program}{w:World}{A:Around}{E:cJ}{s:Shared}{K:PySem.W.Frag}{x dx C f:Addr}{mA:jB}{name:Str}{v:Value}
theorem P4 {Q:cJ}(X:K.In s.heap)(I:FM s.heap x dx C mA)(g:PySem.W.plainGet K C name=true)(f:PySem.W.hasDictIn K C=true)
  (i:PySem.W.findIn K (.ref C) name=some none) (d:mA name=some v) (c:PySem.W.handedIn v=true) (h:Q v {s with toks:=s.toks+1}) :
  wpAny (model prog w) A (getAttr (.ref x) name expr) Q E s:=by
 obtain⟨od,J,e⟩:=I.look;exact PySem.W.get_value X J (PySem.W.plainGet_of g).1 (PySem.W.findObj_own f i rfl (by rw[e,d])) c h
theorem MN {Q:Value×cS->Shared->Prop}(X:K.In s.heap)(I:FM s.heap x dx C mA)(c:PySem.W.plainGet K C name=true)
  (i:PySem.W.findIn K (.ref C) name=some (some (.ref f))) (e:PySem.W.isFn K (.ref f)=true) (d:mA name=none) (h:Q (.ref f,[.ref x]) s) :
  wpAny (model prog w) A (getMethod (.ref x) name pl) Q E s:=by
 obtain⟨od,J,g⟩:=I.look;exact PySem.W.method_fn X J (PySem.W.plainGet_of c).1 (PySem.W.plainGet_of c).2 i (beq_iff_eq.mp e) (by show(PySem.W.lookIn name od).map (·.isSome)=some false;rw[g,d];rfl) h
theorem N0 {Q:Unit->Shared->Prop}(X:K.In s.heap)(I:FM s.heap x dx C mA)
  (o:PySem.W.findIn K (.ref C) "__setattr__" = some (some (.builtin "object.__setattr__"))) (p:PySem.W.plainOver K C=true) (m:PySem.W.takerIn K C name=some none) (q:PySem.W.hasDictIn K C=true)
  (l:PySem.Within mA ns) (hsz:ns.length<=sizeLine)
  (h:∀h',FM h' x dx C (λy=>if y=name then some v else mA y)->Heap.SameBut dx s.heap h'->Q () {s with heap:=h',toks:=s.toks+2}) :
  wpAny (model prog w) A (setAttr (.ref x) name v) Q E s:=by
 obtain⟨od,J,B⟩:=I.look;refine PySem.W.set_plain X J o (PySem.W.osa_open (s:={s with toks:=s.toks+1}) (r:=none) X J p m λb=>?_);obtain⟨F,hc,g⟩:=PySem.W.any_some q;have j:s.heap.get? x=some ⟨.ref C,some dx,.plain,#[]⟩:=I.obj;refine aa (ao (aa (aa (wpAny_loadPart j (aa (PySem.W.Looks.here (s:={s with toks:=s.toks+1}) (PySem.W.looks_clsIn X hc) ?_))))));rw[g];refine ao (a:=some dx) (aa (ao (aa ?_)));refine wpAny_nsSet1 (s:={s with toks:=s.toks+1}) I.ns λh' d c=>?_;obtain⟨z,t,u,e,f,i⟩:=d.count (PySem.Within.cons name v l);refine aa (wpAny_lookBehind e (by rw[f];exact pastItsLine_dict (aq i (by rw[au];lia))) ?_);exact ao (h _ ⟨(c.2 _ (Ne.symm I.ne)).trans I.obj,d,I.ne⟩ c)
theorem L9 {R:Result->Shared->Prop}(X:K.In s.heap)(c:PySem.W.makesIn K C=true)
  (hi:PySem.W.findIn K (.ref C) "__init__" = some (some (.ref f))) (e:PySem.W.typeIn K (.ref f)=some (.type "function"))
  (h:codeAny (model prog w) (A.under (.builtin "type.__call__" ⟨.ref C::vs,kw⟩)) (.call (.ref f) ⟨.ref (s.heap.objs.size+1)::vs,kw⟩) (PySem.W.InitBack (s.heap.objs.size+1) R)
   {s with heap:=(s.heap.push PySem.W.emptyDict).push (PySem.W.instObj C s.heap.objs.size)}) :
  codeAny (model prog w) A (.call (.ref C) ⟨vs,kw⟩) R s:=by
 obtain⟨i,g,d,t,os⟩:=s;exact PySem.W.make_core (PySem.W.makes_of X c) (PySem.W.looks_findIn X hi) (λself=>PySem.W.bind_fn X self e) (.inl rfl) h
end
noncomputable def putF (f:Str)(v:V):List (Str×V)->List (Str×V)
 | []=>[(f,v)]
 | (g,x)::r=>if g=f then(g,v)::r else(g,x)::putF f v r
theorem cI (f g:Str)(v:V):∀fs:List (Str×V),(putF f v fs).lookup g=if g=f then some v else fs.lookup g
 | []=>by
  show List.lookup g [(f,v)]=_;by_cases h:g=f
  ·have hb:(g == f)=true:=beq_iff_eq.mpr h;simp only[List.lookup,hb,ai h]
  ·have hb:(g == f)=false:=cy.mpr h;simp only[List.lookup,hb,ab h]
 | (k,x)::r=>by
  have d:=cI f g v r;rw[show putF f v ((k,x)::r)=(if k=f then(k,v)::r else(k,x)::putF f v r)from rfl];by_cases c:k=f
  ·rw[ai c];by_cases h:g=k
   ·have hb:(g == k)=true:=beq_iff_eq.mpr h;simp only[List.lookup,hb,ai (h.trans c)]
   ·have hb:(g == k)=false:=cy.mpr h;simp only[List.lookup,hb,ab (λe:g=f=>h (e.trans c.symm))]
  ·rw[ab c];by_cases h:g=k
   ·have hb:(g == k)=true:=beq_iff_eq.mpr h;simp only[List.lookup,hb,ab (λe:g=f=>c (h.symm.trans e))]
   ·have hb:(g == k)=false:=cy.mpr h;simp only[List.lookup,hb];exact d
theorem qJ (f:Str)(v:V):∀fs:List (Str×V),f∈(putF f v fs).map (·.1)/\∀g,g∈fs.map (·.1)->g∈(putF f v fs).map (·.1)
 | []=>⟨by simp[putF],λg h=>by simp at h⟩
 | (k,x)::r=>by
  obtain⟨i,d⟩:=qJ f v r;rw[show putF f v ((k,x)::r)=(if k=f then(k,v)::r else(k,x)::putF f v r)from rfl];by_cases c:k=f
  ·rw[ai c];subst c;exact⟨by simp,λg h=>by simpa using h⟩
  ·rw[ab c];refine⟨?_,λg h=>?_⟩
   ·rw[bf];exact bc _ i
   ·rw[bf]at h⊢;rcases cu.mp h with e|e
    ·exact cu.mpr (.inl e)
    ·exact bc _ (d g e)
theorem fV (f:Str)(v:V):∀fs:List (Str×V),(putF f v fs).length<=fs.length+1
 | []=>by simp[putF]
 | (k,x)::r=>by
  have d:=fV f v r;rw[show putF f v ((k,x)::r)=(if k=f then(k,v)::r else(k,x)::putF f v r)from rfl];by_cases c:k=f
  ·rw[ai c,au,au];lia
  ·rw[ab c,au,au];lia
theorem lN.some_of (r:lN (some v) o):∃u,o=some u/\aQ v u:=by
 cases o with
 | none=>exact(show False from r).elim
 | some u=>exact⟨u,rfl,r⟩
theorem lN.none_of (r:lN none o):o=none:=by
 cases o with
 | none=>rfl
 | some u=>exact(show False from r).elim
theorem JD (r:aQ v u):PySem.W.handedIn u=true:=by
 cases v with
 | non=>cases (show u=Value.none from r);rfl
 | bl b=>cases (show u=Value.bool b from r);rfl
 | int i=>obtain⟨t,e⟩:=(show ∃t,u=Value.int i t from r);cases e;rfl
 | str x=>obtain⟨t,e⟩:=(show ∃t,u=Value.str x t from r);cases e;rfl
 | byt b=>obtain⟨t,e⟩:=(show ∃t,u=Value.bytes b t from r);cases e;rfl
 | flt b=>obtain⟨t,e⟩:=(show ∃t,u=Value.float b t from r);cases e;rfl
 | ref a=>cases (show u=Value.ref a from r);rfl
 | ty n=>cases (show u=Value.type n from r);rfl
section
variable {P:Program}{w:World}{H H':Hp}{h h':Heap}{a C dx:Addr}{fs fs':List (Str×V)}
theorem AB (hok:gQ P w H h)(e:H a=some (.ins C dx fs)):∃c,FM h a dx C c/\(∀f,lN (fs.lookup f) (c f))/\PySem.Within c (fs.map (·.1))/\fs.length<=1000/\H dx=some (.own a):=by
 obtain⟨d,z,ne,g,c,n,r,q⟩:=(show cD P w H h a (.ins C dx fs)from hok a _ e)
 exact⟨c,⟨g,n,ne⟩,r,q,z,d⟩
end
structure J4 (K:PySem.W.Frag)(C:Addr):Prop where
 pg:PySem.W.plainGet K C Str.empty=true
 hd:PySem.W.hasDictIn K C=true
 po:PySem.W.plainOver K C=true
 sa:PySem.W.findIn K (.ref C) "__setattr__" = some (some (.builtin "object.__setattr__"))
theorem J4.get {K:PySem.W.Frag}{C:Addr}(c:J4 K C)(f:Str):PySem.W.plainGet K C f=true:=c.pg
def iM (K:PySem.W.Frag)(C:Addr)(f:Str):Prop:=PySem.W.findIn K (.ref C) f=some none
theorem iM.taker {K:PySem.W.Frag}{C:Addr}{f:Str}(n:iM K C f):PySem.W.takerIn K C f=some none:=by unfold PySem.W.takerIn;rw[show PySem.W.findIn K (.ref C) f=some none from n];rfl
structure QU (K:PySem.W.Frag)(C:Addr)(m:Str)(f:Addr):Prop where
 at_:PySem.W.findIn K (.ref C) m=some (some (.ref f))
 fn:PySem.W.isFn K (.ref f)=true
 kp:PySem.W.keepIn K (.ref f)=true
section
variable {X:Cx}{pins:cW}{σ:St}{H:Hp}{s:Shared}{a C dx:Addr}{fs:List (Str×V)}{f:Str}{v:V}{A:Around}{E:cJ}
theorem E7 {b:Bool}{Q:cJ}(I:aN X pins σ H s)(e:H a=some (.ins C dx fs))(c:J4 X.K C)(n:iM X.K C f)(l:fs.lookup f=some v)
  (h:∀u d,aN X pins σ H d->aQ v u->Q u d):wpAny (model X.prog X.w) A (getAttr (.ref a) f b) Q E s:=by
 obtain⟨i,O,r,_,_,_⟩:=AB I.hok e;obtain⟨u,j,g⟩:=lN.some_of (v:=v) (o:=i f) (by rw[←l];exact r f);exact P4 I.kIn O (c.get f) c.hd n j (JD g) (h u _ (I.tok _) g)
theorem uZ {m:Str}{g:Addr}{pl:Sem Bool}{Q:Value×cS->Shared->Prop}(I:aN X pins σ H s)(e:H a=some (.ins C dx fs))(c:J4 X.K C)(k:QU X.K C m g)(l:fs.lookup m=none)
  (h:Q (.ref g,[.ref a]) s):wpAny (model X.prog X.w) A (getMethod (.ref a) m pl) Q E s:=by
 obtain⟨d,O,r,_,_,_⟩:=AB I.hok e;have f:d m=none:=lN.none_of (by rw[←l];exact r m);exact MN I.kIn O (c.get m) k.at_ k.fn f h
theorem DX {y:V}{u:Value}{Q:Unit->Shared->Prop}(I:aN X pins σ H s)(e:H a=some (.ins C dx fs))(c:J4 X.K C)(n:iM X.K C f)(t:fs.length<1000)(m:aQ y u)
  (h:∀j,aN X pins σ (upd H a (.ins C dx (putF f y fs))) j->Q () j):wpAny (model X.prog X.w) A (setAttr (.ref a) f u) Q E s:=by
 obtain⟨l,O,r,i,_,ho⟩:=AB I.hok e;have hz:(fs.map (·.1)).length<=sizeLine:=by rw[ae,sizeLine_eq];lia
 refine N0 I.kIn O c.sa c.po n.taker c.hd i hz λh' d sb=>h _ ?_;have hd:∃o,h'.get? dx=some o:=let⟨o,_,_,e',_⟩:=d.ns;⟨o,e'⟩;refine I.write (x:=a) (e:=dx) (by rw[e];exact True.intro) (.inr ho) (λb q hb z=>(sb.2 b hb).trans z) hd ?_;refine⟨by rw[aC O.ne];exact ho,?_,O.ne,d.obj,_,d.ns,λg=>?_,λg p=>?_⟩
 ·have:=fV f y fs;lia
 ·show lN ((putF f y fs).lookup g) (if g=f then some u else l g);rw[cI];by_cases q:g=f
  ·rw[ai q,ai q];exact m
  ·rw[ab q,ab q];exact r g
 ·by_cases q:g=f
  ·rw[q];exact(qJ f y fs).1
  ·refine(qJ f y fs).2 g (i g λz=>p ?_);show(if g=f then some u else l g)=none;rw[ab q];exact z
theorem aN.made (I:aN X pins σ H s):aN X pins σ (upd (upd H s.heap.objs.size (.own (s.heap.objs.size+1))) (s.heap.objs.size+1) (.ins C s.heap.objs.size []))
  {s with heap:=(s.heap.push PySem.W.emptyDict).push (PySem.W.instObj C s.heap.objs.size)}:=by
 have c:(s.heap.push PySem.W.emptyDict).get? s.heap.objs.size=some PySem.W.emptyDict:=aw s.heap rfl;have h:((s.heap.push PySem.W.emptyDict).push (PySem.W.instObj C s.heap.objs.size)).get? (s.heap.objs.size+1)=some (PySem.W.instObj C s.heap.objs.size):=by
  have:=aw (s.heap.push PySem.W.emptyDict) (o:=PySem.W.instObj C s.heap.objs.size) rfl
  rwa [Heap.size_push]at this
 have g:(s.heap.push PySem.W.emptyDict).Ns s.heap.objs.size (λ_=>none):=⟨PySem.W.emptyDict,#[],_,c,rfl,(λe f=>absurd f (by simp)),λ_=>rfl⟩
 have i:=I.laid (a:=s.heap.objs.size) (o:=.own (s.heap.objs.size+1)) (h':=s.heap.push PySem.W.emptyDict) (t':=s.toks) (λb u q=>af _ q) (ac _) ⟨_,c⟩;refine i.laid (a:=s.heap.objs.size+1) (o:=.ins C s.heap.objs.size []) (t':=s.toks) (λb u q=>af _ q) (Nat.le_of_eq (Heap.size_push _ _)) ?_;have ne:s.heap.objs.size≠s.heap.objs.size+1:=bq (Nat.lt_succ_self _);refine⟨by rw[aC ne,upd_same],ax _,ne,h,λ_=>none,(Heap.Ns1.of_empty g).at λo q=>af _ q,λ_=>True.intro,λy d=>absurd rfl d⟩
theorem QK {Q:cJ}(hb:attributeBase e f env (eval e env)=eval e env)
  (h:wpAny (model prog w) A (eval e env) (λo c=>wpAny (model prog w) A (getAttr o f true) Q E c) E s):wpAny (model prog w) A (eval (.Attribute e f pos) env) Q E s :=
 Attribute_any_ h (by rw[arm_eval_Attribute,hb])
end
def tFld (K:PySem.W.Frag)(d:TE)(f:Str):TE:=λσ H Q=>d σ H λx c=>∃a C e fs v,x = .ref a/\c a=some (.ins C e fs)/\J4 K C/\iM K C f/\fs.lookup f=some v/\Q v c
def sFld (K:PySem.W.Frag)(g e:TE)(f:Str):TS:=λD σ H=>e σ H λy h=>g σ h λx d=>∃a C c fs,x = .ref a/\d a=some (.ins C c fs)/\J4 K C/\iM K C f/\fs.length<1000 /\
 D.nx σ (upd d a (.ins C c (putF f y fs)))
section
variable {X:Cx}{o e value:Expr}{f:Str}{pos pos' tpos:Pos}{ta tv:TE}
theorem LB (j:PE X e ta)(hb:attributeBase e f X.env (eval e X.env)=eval e X.env):PE X (.Attribute e f pos) (tFld X.K ta f):=by intro d s σ H Q I h;refine QK hb (thn (j d s σ H _ I h) λu w ⟨x,r,p,g,a,C,z,fs,v,ex,m,c,n,l,q⟩=>?_);subst ex;obtain rfl:u=Value.ref a:=g;exact E7 p m c n l λt s2 o i=>⟨v,r,o,i,q⟩
theorem zE (t:PE X o ta)(p:PE X value tv)(r:swapsWith value (some (.Attribute o f pos')) pos.line X.env=pure false):PS X (.Assign [.Attribute o f pos'] value pos) (sFld X.K ta tv f):=by intro d s σ H D I h;refine plainObj_wpAny_Assign_Attribute (thn (p d s σ H _ I h) λu e ⟨y,B,A,g,q⟩=>thn (t d e σ B _ A q) λm s2 ⟨x,G,z,i,a,C,F,fs,ex,v,c,n,l,j⟩=>?_) r;subst ex;obtain rfl:m=Value.ref a:=i;exact DX z v c n l g λE w=>⟨σ,_,w,j⟩
theorem Q8 {pl:Sem Bool}{m:Str}{i:Pos}{args:pO}{d:cW}{s:Shared}{σ:St}{H:Hp}{Q:cJ}{p:TE}(B:PE X e p)(I:aN X d σ H s)
  (h:p σ H λx o=>∃a C r fs g,x = .ref a/\o a=some (.ins C r fs)/\J4 X.K C/\QU X.K C m g/\fs.lookup m=none /\
   ∀j,aN X d σ o j->wpAny (model X.prog X.w) X.A (callWith pos (.ref g) [.ref a] (backTo pos (starEach args X.env)) (backToKw pos (keywordEach [] X.env))) Q X.xe j)
  (z:eval (.Call (.Attribute e m i) args [] pos) X.env=(do
   let ov ←eval e X.env
   standAt i.atName
   let(f,first) ←holding [ov] (getMethod ov m pl)
   callWith pos f first (backTo pos (starEach args X.env)) (backToKw pos (keywordEach [] X.env)))) :
  wpAny (model X.prog X.w) X.A (eval (.Call (.Attribute e m i) args [] pos) X.env) Q X.xe s:=by
 refine PySem.W.methodCall_KW (pl:=pl) (thn (B d s σ H _ I h) λu j ⟨x,o,t,v,a,C,r,fs,g,ex,E,c,k,l,q⟩=>?_) z;subst ex;obtain rfl:u=Value.ref a:=v;exact uZ t E c k l (q j t)
end
structure dY (k:Nat)(A:Around):Prop where
 hd:A.handled=none
 dp:A.depth+3 * k+5<recursionLimit
 un:A.units+16 * k+200<cLine
theorem dY.mono (r:dY k A)(h:j<=k):dY j A:=⟨r.hd,by have:=r.dp;lia,by have:=r.un;lia⟩
theorem dY.deeper (r:dY (k+1) A)(env:Env):dY k (A.deeper env) :=
 ⟨r.hd,by have:=r.dp;show A.depth+1+3 * k+5<_;lia,by have:=r.un;show A.units+3+16 * k+200<_;lia⟩
theorem dY.in1 (r:dY (k+1) A):dY k A.in1 :=
 ⟨r.hd,by have:=r.dp;show A.depth+3 * k+5<_;lia,by have:=r.un;show A.units+1+16 * k+200<_;lia⟩
theorem EO {A:Around}{C:Addr}{us:cS}{c:List (Str×Value)}:(A.under (.builtin "type.__call__" ⟨.ref C::us,c⟩)).depth=A.depth+1:=by
 first|rfl|simp[Around.under,Code.weight,Code.isCreation,Code.isGuard,Code.isCaller,Code.frames,Code.isFrame,guardIds]
theorem EN {A:Around}{C:Addr}{us:cS}{c:List (Str×Value)}:(A.under (.builtin "type.__call__" ⟨.ref C::us,c⟩)).units=A.units+1:=by
 first|rfl|simp[Around.under,Code.cUnits,Code.frames,Code.isFrame]
theorem dY.make (r:dY (k+1) A)(C:Addr)(us:cS)(c:List (Str×Value)):dY k (A.under (.builtin "type.__call__" ⟨.ref C::us,c⟩)) :=
 ⟨r.hd,by have:=r.dp;rw[EO];lia,by have:=r.un;rw[EN];lia⟩
theorem dY.depth (r:dY k A):A.depth<recursionLimit:=by have:=r.dp;lia
theorem dY.units (r:dY k A):A.units+64<cLine:=by have:=r.un;lia
def tNil:TA:=λ_ H Q=>Q [] H
def tCons (c:TE)(tr:TA):TA:=λσ H Q=>c σ H λx e=>tr σ e λxs d=>Q (x::xs) d
section
variable {X:Cx}{e:Expr}{es:pO}{te:TE}{t:TA}{pos:Pos}
theorem aB:PA X [] tNil:=λ_ _ _ _ H Q I h=>Calls.spliced_nil ⟨[],H,I,.nil,h⟩
theorem aA (o:PE X e te)(m:PA X es t)(l:starEach (e::es) X.env=(false,eval e X.env)::starEach es X.env:=by rfl):PA X (e::es) (tCons te t):=by intro d c s σ H Q I h;rw[l];show wpAny _ _ (spliced ((false,eval e X.env)::backTo d (starEach es X.env))) _ _ s;refine Calls.spliced_cons (thn (o c s σ H _ I h) λu f ⟨x,v,q,r1,j⟩=>?_);exact thn (m d c f σ v _ q j) λus s2 ⟨xs,r,p,g,i⟩=>⟨x::xs,r,p,.cons r1 g,i⟩
def tTup (t:TA):TE:=λσ H Q=>t σ H λxs c=>xs.length<=sizeLine/\∀p,c p=none->Q (.ref p) (upd c p (.tup xs))
def tLst (t:TA):TE:=λσ H Q=>t σ H λxs c=>xs.length<=sizeLine/\∀p,c p=none->Q (.ref p) (upd c p (.lst xs))
theorem fA {x1}(h:PA X es t):PE X (.Tuple es x1 pos) (tTup t):=by intro c s σ H Q I i;refine wpAny_Tuple_spliced (thn (h pos c s σ H _ I i) λus d ⟨xs,g,f,r,z,q⟩=>⟨by rw[←r.length];exact z,?_⟩);have j:g d.heap.objs.size=none:=f.hok.fresh (ac _);refine⟨.ref d.heap.objs.size,upd g d.heap.objs.size (.tup xs),f.laid (t':=d.toks) (λb u e=>af _ e) (ac _) ?_,rfl,q _ j⟩;exact⟨z,us,r,⟨_,aw _ rfl,rfl,_,rfl⟩⟩
theorem cF (h:PA X es t):PE X (.List es pos) (tLst t):=by intro c s σ H Q I i;refine wpAny_List_spliced (thn (h pos c s σ H _ I i) λus d ⟨xs,g,f,r,z,q⟩=>⟨by rw[←r.length];exact z,?_⟩);have j:g d.heap.objs.size=none:=f.hok.fresh (ac _);refine⟨.ref d.heap.objs.size,upd g d.heap.objs.size (.lst xs),f.laid (t':=d.toks) (λb u e=>af _ e) (ac _) ?_,rfl,q _ j⟩;exact⟨z,us,0,r,aw _ rfl⟩
end
abbrev Sp:=List V->Hp->VK->XK->Prop
abbrev AW:=List Env->Hp->Shared->XK->cJ
structure wL (P:Program)(w:World)(K:PySem.W.Frag)(mg:jB)(base:Heap)(A:Around)(outer:List Env)(s:Shared)(H:Hp):Prop where
 frames:A.frames=some outer
 mod:Mod K mg base
 bs:∀b o,base.get? b=some o->s.heap.get? b=some o/\H b=none
 bsz:base.objs.size<=s.heap.objs.size
 funs:s.heap.FunFrames base outer
 frf:∀b∈frs outer,H b=none
 hok:gQ P w H s.heap
 bare:AllBare s.gens
def CE (outer:List Env)(P:Program)(w:World)(H:Hp)(s:Shared)(Q:VK)(u:Value)(c:Shared):Prop :=
 ∃v H',c.os=s.os/\AllBare c.gens/\Un (frs outer) [] H H' s.heap c.heap/\gQ P w H' c.heap/\aQ v u/\Q v H'
def CR (CX:AW)(outer:List Env)(P:Program)(w:World)(H:Hp)(s:Shared)(Q:VK)(E:XK)(r:Result)(c:Shared):Prop :=
 match r with
 | .ok (.ret u)=>CE outer P w H s Q u c
 | .ok _=>False
 | .error e=>CX outer H s E e c
structure cA (P:Program)(w:World)(K:PySem.W.Frag)(mg:jB)(base:Heap)(CX:AW)(k:Nat)(f:Addr)(fd:FuncData)(ps:aT)(sp:Sp):Prop where
 len:∀vs H Q E,sp vs H Q E->vs.length=ps.length
 run:∀(A:Around) (outer:List Env) (s:Shared) (H:Hp) (args:Args) (us:cS) (vs:List V) (Q:VK) (E:XK),dY k A->wL P w K mg base A outer s H->BindsTo s fd args (ps.zip us)->aR vs us->sp vs H Q E ->
  codeAny (model P w) A (.call (.ref f) args) (CR CX outer P w H s Q E) s
theorem cA.mono {P:Program}{w:World}{K:PySem.W.Frag}{mg:jB}{base:Heap}{CX:AW}{j k:Nat}{f:Addr}{c:FuncData}{ps:aT}{sp:Sp}(F:cA P w K mg base CX j f c ps sp)(h:j<=k) :
  cA P w K mg base CX k f c ps sp:=⟨F.len,λA outer s H args us vs Q E d=>F.run A outer s H args us vs Q E (d.mono h)⟩
theorem wL.make {P:Program}{w:World}{K:PySem.W.Frag}{mg:jB}{base:Heap}{A:Around}{outer:List Env}{s:Shared}{H:Hp}(e:wL P w K mg base A outer s H)(C:Addr)(us:cS)(c:List (Str×Value)) :
  wL P w K mg base (A.under (.builtin "type.__call__" ⟨.ref C::us,c⟩)) outer s H:=⟨by first|exact e.frames|(simpa [Around.under,Code.envs,Code.isFrame,pushEnvs] using e.frames),e.mod,e.bs,e.bsz,e.funs,e.frf,e.hok,e.bare⟩
section
variable {X:Cx}{pins:cW}{σ:St}{H:Hp}{s s':Shared}
theorem aN.env0 (I:aN X pins σ H s):wL X.prog X.w X.K X.mg X.base X.A X.stack s H :=
 ⟨I.ok.frames,I.ok.mod,I.bs,aq I.ok.bsz I.sz,I.stack,I.stkFree,I.hok,I.bare⟩
theorem aN.after {Q:VK}{u:Value}(I:aN X pins σ H s)(h:CE X.stack X.prog X.w H s Q u s'):EP X pins σ Q u s':=by obtain⟨v,H',os,bare,un,hok,r,q⟩:=h;obtain⟨e,g,d,t,c⟩:=s';obtain rfl:c=s.os:=os;exact⟨v,H',I.call (h':=e) (g':=g) (d':=d) (t':=t) (ch:=[]) un hok bare (λb z=>absurd z (by simp)),r,q⟩
end
def tCall (sp:Sp)(c:List V)(E:XK)(t:TA):TE:=λσ H Q=>t σ H λvs d=>sp (vs++c) d Q E
def tMeth (C:Addr)(m:Str)(sp:Sp)(c:List V)(E:XK)(e:TE)(t:TA):TE:=λσ H Q=>e σ H λx d=>∃a f fs,x = .ref a/\d a=some (.ins C f fs)/\fs.lookup m=none /\
 t σ d λvs g=>sp (x::(vs++c)) g Q E
def tMake (C:Addr)(sp:Sp)(d:List V)(E:XK)(t:TA):TE:=λσ H Q=>t σ H λvs e=>∀x c,e x=none->e c=none->c≠x ->
 sp (.ref x::(vs++d)) (upd (upd e c (.own x)) x (.ins C c [])) (λv f=>v = .non/\Q (.ref x) f) E
def eI (K:PySem.W.Frag)(c:FuncData)(ps:aT)(ds:cS):Prop :=
 ∀(s:Shared) (us:cS),K.In s.heap->(us++ds).length=ps.length->BindsTo s c ⟨us,[]⟩ (ps.zip (us++ds))
theorem eI.all {K:PySem.W.Frag}{d:FuncData}{ps:aT}(h:∀us:cS,us.length=ps.length->bindArgs d ⟨us,[]⟩=pure (ps.zip us)):eI K d ps []:=λs us _ c=>by rw[bp]at c⊢;exact .of_eq (h us c)
def jY (CX:AW)(X:Cx)(E:XK):Prop:=∀(c:cW) (σ:St) (H:Hp) (s:Shared) (e:Value) (s':Shared),aN X c σ H s->CX X.stack H s E e s'->X.xe e s'
section
variable {X:Cx}{CX:AW}{k:Nat}{f C:Addr}{fd:FuncData}{ps:aT}{sp:Sp}{dvs:List V}{ds:cS}{E:XK}{x m:Str}{p pos apos:Pos}{e o:Expr}{es:pO}{ta:TE}{t:TA}
theorem KZ {c:cW}{σ:St}{H:Hp}{s:Shared}{Q:VK}{us:cS}{vs:List V}(F:cA X.prog X.w X.K X.mg X.base CX k f fd ps sp)(l:dY k X.A)(hb:eI X.K fd ps ds)(hd:aR dvs ds)(j:jY CX X E)
  (I:aN X c σ H s) (r:aR vs us) (h:sp (vs++dvs) H Q E):wpAny (model X.prog X.w) X.A (call (.ref f) us) (EP X c σ Q) X.xe s:=by
 have g:aR (vs++dvs) (us++ds):=r.append hd;have m:(us++ds).length=ps.length:=by rw[←g.length];exact F.len _ _ _ _ h
 refine wpAny_call (codeAny_mono (F.run X.A X.stack s H ⟨us,[]⟩ (us++ds) (vs++dvs) Q E l I.env0 (hb s us I.kIn m) g h) λr i d=>?_);cases r with
 | error e=>exact j c σ H s e i I d
 | ok fl =>
  cases fl with
  | ret u=>exact I.after d
  | next=>exact False.elim d
  | brk=>exact False.elim d
  | cont=>exact False.elim d
theorem OP (F:cA X.prog X.w X.K X.mg X.base CX k f fd ps sp)(l:dY k X.A)(u:Gl X x)(m:X.mg x=some (.ref f))(o:PySem.W.keepIn X.K (.ref f)=true)(hb:eI X.K fd ps ds)(hd:aR dvs ds)(j:jY CX X E)
  (z:PA X (e::es) t) (g:(x == ("__debug__" : Str))=false:=by decide) (v:starEach (e::es) X.env=(false,eval e X.env)::starEach es X.env:=by rfl) (d:(backTo pos (starEach es X.env)).any (·.1)=false:=by rfl) :
  PE X (.Call (.Name x p) (e::es) [] pos) (tCall sp dvs E t):=by
 intro c s σ H Q I h;refine wpAny_Call_Name_kw (oY I u m ?_ g);refine PySem.W.callWith_K (h₀:=X.base) I.ok.mod.kin o (thn (z pos c s σ H _ I h) λus B ⟨vs,C,i,r,q⟩=>⟨i.kIn,?_⟩) v d;exact KZ F l hb hd j i r q
theorem OM (O:PE X o ta)(c:J4 X.K C)(j:QU X.K C m f)(F:cA X.prog X.w X.K X.mg X.base CX k f fd ps sp)(N:dY k X.A)(hb:eI X.K fd ps ds)(hd:aR dvs ds)(J:jY CX X E)(P:PA X (e::es) t)
  (g:starEach (e::es) X.env=(false,eval e X.env)::starEach es X.env:=by rfl) (i:(backTo pos (starEach es X.env)).any (·.1)=false:=by rfl)
  (L:eval (.Call (.Attribute o m apos) (e::es) [] pos) X.env=(do
   let ov ←eval o X.env
   standAt apos.atName
   let(f,first) ←holding [ov] (getMethod ov m pl)
   callWith pos f first (backTo pos (starEach (e::es) X.env)) (backToKw pos (keywordEach [] X.env))):=by rfl) :
  PE X (.Call (.Attribute o m apos) (e::es) [] pos) (tMeth C m sp dvs E ta t):=by
 intro d s σ H Q I h;refine PySem.W.methodCall_KW (pl:=pl) (thn (O d s σ H _ I h) λu z ⟨x,S,v,B,a,T,fs,ex,R,l,q⟩=>?_) L;subst ex;obtain rfl:u=Value.ref a:=B;refine uZ v R c j l ?_;refine PySem.W.callWith_K (first:=[.ref a]) (h₀:=X.base) I.ok.mod.kin j.kp (thn (P pos d z σ S _ v q) λus s2 ⟨vs,U,p,r,G⟩=>⟨p.kIn,?_⟩) g i;exact KZ (us:=.ref a::us) (vs:=.ref a::vs) F N hb hd J p (.cons rfl r) G
structure Mk (K:PySem.W.Frag)(C f:Addr):Prop where
 makes:PySem.W.makesIn K C=true
 init:PySem.W.findIn K (.ref C) "__init__" = some (some (.ref f))
 fn:PySem.W.isFn K (.ref f)=true
 kp:PySem.W.keepIn K (.ref C)=true
theorem KY {c:cW}{σ:St}{H:Hp}{s:Shared}{Q:VK}{us:cS}{vs:List V}(M:Mk X.K C f)(F:cA X.prog X.w X.K X.mg X.base CX k f fd ps sp)(t:dY (k+1) X.A)(hb:eI X.K fd ps ds)(hd:aR dvs ds)
  (q:jY CX X E) (I:aN X c σ H s) (r:aR vs us)
  (h:∀x g,H x=none->H g=none->g≠x->sp (.ref x::(vs++dvs)) (upd (upd H g (.own x)) x (.ins C g [])) (λv J=>v = .non/\Q (.ref x) J) E) :
  wpAny (model X.prog X.w) X.A (call (.ref C) us) (EP X c σ Q) X.xe s:=by
 have l:=h (s.heap.objs.size+1) s.heap.objs.size (I.hok.fresh (Nat.le_succ _)) (I.hok.fresh (ac _)) (bq (Nat.lt_succ_self _));have i:=aN.made (C:=C) I;have j:aR (V.ref (s.heap.objs.size+1)::(vs++dvs)) (Value.ref (s.heap.objs.size+1)::(us++ds)):=.cons rfl (r.append hd);have z:(Value.ref (s.heap.objs.size+1)::us++ds).length=ps.length:=by have e:=j.length;rw[F.len _ _ _ _ l]at e;exact e.symm
 refine wpAny_call (L9 (f:=f) I.kIn M.makes M.init (beq_iff_eq.mp M.fn) (codeAny_mono (F.run _ X.stack _ _ ⟨Value.ref (s.heap.objs.size+1)::us,[]⟩ (Value.ref (s.heap.objs.size+1)::(us++ds)) _ _ E (t.make C us [])
  (i.env0.make C us []) (hb _ (Value.ref (s.heap.objs.size+1)::us) i.kIn z) j l) λr m d=>?_))
 cases r with
 | error e=>exact q c σ _ _ e m i d
 | ok fl =>
  cases fl with
  | ret u =>
   obtain⟨v,H',G,o,B,p⟩:=i.after d;subst B;exact⟨o,⟨V.ref (s.heap.objs.size+1),H',G,rfl,p⟩⟩
  | next=>exact False.elim d
  | brk=>exact False.elim d
  | cont=>exact False.elim d
theorem ON (M:Mk X.K C f)(F:cA X.prog X.w X.K X.mg X.base CX k f fd ps sp)(l:dY (k+1) X.A)(o:Gl X x)(m:X.mg x=some (.ref C))(hb:eI X.K fd ps ds)(hd:aR dvs ds)(j:jY CX X E)
  (v:PA X (e::es) t) (g:(x == ("__debug__" : Str))=false:=by decide) (u:starEach (e::es) X.env=(false,eval e X.env)::starEach es X.env:=by rfl) (d:(backTo pos (starEach es X.env)).any (·.1)=false:=by rfl) :
  PE X (.Call (.Name x p) (e::es) [] pos) (tMake C sp dvs E t):=by
 intro c s σ H Q I h;refine wpAny_Call_Name_kw (oY I o m ?_ g);refine PySem.W.callWith_K (h₀:=X.base) I.ok.mod.kin M.kp (thn (v pos c s σ H _ I h) λus z ⟨vs,B,i,r,q⟩=>⟨i.kIn,?_⟩) u d;exact KY M F l hb hd j i r q
end
def PK (X:Cx)(d:List Keyword)(t:TA):Prop :=
 ∀(c:Pos) (pins:cW) (s:Shared) (σ:St) (H:Hp) (Q:List V->Hp->Prop),aN X pins σ H s->t σ H Q->wpAny (model X.prog X.w) X.A (evalAll ((backToKw c (keywordEach d X.env)).map (·.2))) (AP X pins σ Q) X.xe s
section
variable {X:Cx}{CX:AW}{k:Nat}{f C:Addr}{fd:FuncData}{ps ks:aT}{sp:Sp}{E:XK}{x m:Str}{p pos apos kpos:Pos}{e o:Expr}{es:pO}{kws:List Keyword}{te ta:TE}{t tk:TA}{nm:Option Str}
theorem SA:PK X [] tNil:=λ_ _ _ _ H Q I h=>wpAny_evalAll_nil ⟨[],H,I,.nil,h⟩
theorem OG (m:PE X e te)(l:PK X kws t):PK X (⟨nm,e,kpos⟩::kws) (tCons te t):=by intro d c s σ H Q I h;show wpAny _ _ (evalAll ((do let v ←eval e X.env;standAt d;pure v)::(backToKw d (keywordEach kws X.env)).map (·.2))) _ _ s;refine wpAny_evalAll_cons (aa (thn (m c s σ H _ I h) λu f ⟨x,r,p,r1,j⟩=>aa (wpAny_standAt (ao ?_))));exact thn (l d c f σ r _ p j) λus s2 ⟨xs,q,o,g,i⟩=>⟨x::xs,q,o,.cons r1 g,i⟩
variable {g:cS->cS->cS}{gV:List V->List V->List V}
end
structure aP (N P:aT)(sc:Scope):Prop where
 kind:sc.kind = .function
 co:sc.isCoroutine=false
 gen:sc.isGenerator=false
 nd:N.Nodup
 pre:N.take P.length=P
 par:∀x∈P,sc.names.lookup x=some .local∨sc.names.lookup x=some .cell
 nofree:∀y∈sc.names,y.2≠.free
theorem yH {c:Str->Option NameKind}:∀{binds:List (Str×Value)} {m:jB},(∀v,(x,v)∉binds)->bindL c binds m x=m x
 | [],_,_=>rfl
 | (n,v)::r,m,h=>by
  unfold bindL;rw[yH λw d=>h w (bc _ d)];split
  ·have:x≠n:=by rintro rfl;exact h v ay
   simp[this]
  ·rfl
theorem yJ {c:Str->Option NameKind}:∀{binds:List (Str×Value)} {m:jB},(∀v,(x,v)∉binds)->bindC c binds m x=m x
 | [],_,_=>rfl
 | (n,v)::r,m,h=>by
  unfold bindC;rw[yJ λw d=>h w (bc _ d)];split
  ·rfl
  ·have:x≠n:=by rintro rfl;exact h v ay
   simp[this]
theorem yI {c:Str->Option NameKind}:∀{P:aT} {vs:cS} {i:Nat} {m:jB},P.Nodup->P[i]?=some x->vs[i]?=some v->c x=some .local ->
  bindL c (P.zip vs) m x=some v
 | [],_,_,_,_,h,_,_=>by simp at h
 | _::_,[],_,_,_,_,h,_=>by simp at h
 | p::P,w::vs,0,m,nd,e,d,f=>by
  simp at e d;subst e;subst d;show bindL c ((p,w)::P.zip vs) m p=_;unfold bindL;rw[yH λv g=>(cz.mp nd).1 (List.of_mem_zip g).1,ai f];simp
 | p::P,w::vs,i+1,m,nd,e,d,f=>by show bindL c ((p,w)::P.zip vs) m x=_;unfold bindL;exact yI (i:=i) (cz.mp nd).2 (by simpa using e) (by simpa using d) f
theorem yK {c:Str->Option NameKind}:∀{P:aT} {vs:cS} {i:Nat} {m:jB},P.Nodup->P[i]?=some x->vs[i]?=some v->c x≠some .local ->
  bindC c (P.zip vs) m x=some v
 | [],_,_,_,_,h,_,_=>by simp at h
 | _::_,[],_,_,_,_,h,_=>by simp at h
 | p::P,w::vs,0,m,nd,e,d,f=>by
  simp at e d;subst e;subst d;show bindC c ((p,w)::P.zip vs) m p=_;unfold bindC;rw[yJ λv g=>(cz.mp nd).1 (List.of_mem_zip g).1,ab f];simp
 | p::P,w::vs,i+1,m,nd,e,d,f=>by show bindC c ((p,w)::P.zip vs) m x=_;unfold bindC;exact yK (i:=i) (cz.mp nd).2 (by simpa using e) (by simpa using d) f
noncomputable def start (N:aT)(vs:List V):St:=vs.map some++List.replicate (N.length - vs.length) none
noncomputable def cxOf (CX:AW)(P:Program)(w:World)(K:PySem.W.Frag)(mg:jB)(base:Heap)(N:aT)(c:Str)(scope:Scope)(f:Addr)(g:Value)(A:Around)(outer:List Env)(s:Shared)(H:Hp)(E:XK):Cx where
 prog:=P
 w:=w
 K:=K
 mg:=mg
 base:=base
 A:=A.deeper (envOfC c scope s.heap.objs.size f g)
 N:=N
 s₀:=s
 H₀:=H
 env:=envOfC c scope s.heap.objs.size f g
 outer:=outer
 stack:=envOfC c scope s.heap.objs.size f g::outer
 ex:=[]
 calm:=true
 fn:=λ_=>true
 pn:=[]
 xe:=λe h=>wpAny (model P w) (A.deeper (envOfC c scope s.heap.objs.size f g)) (leaving (envOfC c scope s.heap.objs.size f g) e) (λ_ d=>CX outer H s E e d) (λi d=>CX outer H s E i d) h
theorem C4 {d:Scope}{n:Nat}{x:Str}(h:d.names.lookup x=some .cell):∃c,(cellsFrom n d.names []).lookup x=some c:=by have q:=PySem.W.cellsFrom_some d.names n [] (.inl h);exact Option.isSome_iff_exists.mp q
theorem xU {CX:AW}{P:Program}{w:World}{K:PySem.W.Frag}{mg:jB}{base:Heap}{N ps:aT}{d:Str}{scope:Scope}{f:Addr}{C:Value}{A:Around}{outer:List Env}{s F:Shared}{H:Hp}{E:XK}{us:cS}{vs:List V}
  (S:aP N ps scope) (hd:A.handled=none) (j:wL P w K mg base A outer s H) (Q:vs.length=ps.length) (r:aR vs us)
  (x:InCallC s s.heap.objs.size (bindL (envOfC d scope s.heap.objs.size f C).kindOf (ps.zip us) λ_=>none) (cellsFrom (s.heap.objs.size+1) scope.names []) (bindC (envOfC d scope s.heap.objs.size f C).kindOf (ps.zip us) λ_=>none) F) :
  aN (cxOf CX P w K mg base N d scope f C A outer s H E) [] (start N vs) H F:=by
 have L:ps.length<=N.length:=by have:=congrArg List.length S.pre;rw[bv]at this;lia
 obtain⟨B,tk,rfl,I⟩:=x.done;have l:∀b:Addr,b∉(cxOf CX P w K mg base N d scope f C A outer s H E).ex:=λb z=>absurd (show b∈([]:List Addr)from z) (by simp)
 refine⟨⟨j.mod,S.kind,rfl,rfl,ac _,λy z c B g=>?_,λy m=>?_,λy c _ h=>?_,λ_=>hd,Around.frames_deeper j.frames,.inr ⟨rfl,rfl⟩,λb z=>absurd z (l b),j.bs,j.bsz,λb _ _=>l b,λb z=>absurd z (l b),j.funs,j.frf⟩,
  rfl,j.bare,Un.kept I,⟨_,x.toInCall.ns,λi y v B g R=>?_⟩,λy c h=>⟨_,x.cell y c h⟩,j.hok.fresh (ac _),λy c h=>?_,λp t=>absurd (show p∈([]:cW)from t) (by simp),j.hok.kept I,?_⟩
 ·exact name_of_addr x.apart (PySem.mem_of_lookup B) (PySem.mem_of_lookup g)
 ·have m:scope.names.lookup y=some .cell∨scope.names.lookup y=some .free:=m;rcases m with m|m
  ·exact C4 m
  ·exact absurd rfl (S.nofree _ (PySem.mem_of_lookup m))
 ·exact Nat.le_of_lt (x.above y c (PySem.mem_of_lookup h))
 ·have hi:i<vs.length:=by
   unfold start at g;by_cases hi:i<vs.length
   ·exact hi
   ·rw[List.getElem?_append_right (by simpa using hi)]at g;rw[List.getElem?_replicate]at g;split at g <;> cases g
  have O:vs[i]?=some v:=by
   unfold start at g;rw[List.getElem?_append_left (by simpa using hi),bI]at g;cases e:vs[i]? with
   | none=>rw[e]at g;cases g
   | some a=>rw[e]at g;cases g;rfl
  obtain⟨u,G,J⟩:=r.get O;have t:ps[i]?=some y:=by rw[←S.pre,List.getElem?_take_of_lt (by lia)];exact B
  have o:ps.Nodup:=by rw[←S.pre];exact S.nd.sublist (List.take_sublist _ _)
  refine⟨u,J,?_⟩;rcases S.par y (bj t)with k|k
  ·exact .inl ⟨k,yI o t G k⟩
  ·obtain⟨c,e⟩:=C4 (n:=s.heap.objs.size+1) k;refine .inr ⟨.inl k,c,e,?_⟩;have q:=x.cell y c e;rw[yK o t G (by show scope.names.lookup y≠_;rw[k];decide)]at q;exact q
 ·exact j.hok.fresh (Nat.le_of_lt (x.above y c (PySem.mem_of_lookup h)))
 ·unfold start;show _=N.length;rw[av,ae,List.length_replicate]
  lia
theorem Q9 {CX:AW}{P:Program}{w:World}{K:PySem.W.Frag}{mg:jB}{base:Heap}{k:Nat}{f:Addr}{name c:Str}{g:Arguments}{body:List Stmt}{scope:Scope}{R kV p pm d ct U:Value}{T od:Option Addr}
  {osl:Array (Option Value)} {N ps:aT} {sp:Sp} (X:K.lookup f=some ⟨U,od,.func (PySem.W.fnOf name c g body scope R kV p pm T d ct),osl⟩) (L:PySem.W.codeIn K d c=true) (S:aP N ps scope)
  (len:∀vs H Q E,sp vs H Q E->vs.length=ps.length)
  (i:∀(A:Around) (outer:List Env) (s:Shared) (H:Hp) (vs:List V) (Q:VK) (E:XK),dY k (A.deeper (envOfC c scope s.heap.objs.size f d))->sp vs H Q E ->
   ∃t,DH (cxOf CX P w K mg base N c scope f d A outer s H E) body t/\t {nx:=λ_ H'=>Q .non H',rt:=Q} (start N vs) H) :
  cA P w K mg base CX (k+1) f (PySem.W.fnOf name c g body scope R kV p pm T d ct) ps sp:=by
 refine⟨len,λA outer s H args us vs Q E G m hb r l=>?_⟩;have hl:=len _ _ _ _ l;have KX:K.In s.heap:=m.mod.kin.keeps λb o e=>(m.bs b o e).1;have F:s.heap.NoLimit:=m.mod.nolimit.keeps λb o e=>(m.bs b o e).1;have h:∀y∈ps.zip us,scope.names.lookup y.1=some .local∨(scope.names.lookup y.1=some .cell/\((cellsFrom (s.heap.objs.size+1) scope.names []).lookup y.1).isSome=true):=λ⟨n,v⟩ Y=>by
  rcases S.par n (List.of_mem_zip Y).1 with q|q
  ·exact .inl q
  ·exact .inr ⟨q,PySem.W.cellsFrom_some _ _ _ (.inl q)⟩
 refine codeAny_call_function G.depth (KX _ _ X) rfl S.co S.gen rfl (PySem.W.codeRec_of KX L) (hb _ _ _ _ ?_);refine wpAny_newFunctionEnv_cells S.kind h λenv he O x=>?_;subst he;refine⟨F.keeps x.toInCall.keep,codeAny_func ?_⟩;obtain⟨t,Z,hq⟩:=i A outer s H vs Q E (G.deeper _) l;have I:aN (cxOf CX P w K mg base N c scope f d A outer s H E) [] (start N vs) H O:=xU S G.hd m hl r x;refine wpAny_mono (Z [] O (start N vs) H _ I hq) (λfl B j=>?_) λe B j=>j;have fin:∀{z:St} {H':Hp} {v:V} {u:Value},aN (cxOf CX P w K mg base N c scope f d A outer s H E) [] z H' B->aQ v u->Q v H'->CE outer P w H s Q u B :=
  λ{z H' v u} J C q=>⟨v,H',J.os,J.bare,J.base,J.hok,C,q⟩
 cases fl with
 | ret u =>
  obtain⟨v,z,H',J,C,q⟩:=j;exact fin J C q
 | next =>
  obtain⟨z,H',J,q⟩:=j;exact fin (v:=V.non) (u:=Value.none) J rfl q
 | brk =>
  obtain⟨_,_,_,q⟩:=j;exact False.elim q
 | cont =>
  obtain⟨_,_,_,q⟩:=j;exact False.elim q
section
variable {X:Cx}{x:Str}{p pos:Pos}{e:Expr}{es:pO}{t:TA}{id T:String}{r:List V->Hp->VK->Prop}
def tCB (r:List V->Hp->VK->Prop)(t:TA):TE:=λσ H Q=>t σ H λvs c=>r vs c Q
theorem aK (hc:cN X (.builtin id) r)(o:Gl X x)(m:X.mg x=none)(j:bootBuiltins x=some (.builtin id))(u:PA X (e::es) t)(l:x≠"__name__":=by decide)(f:(x == ("__debug__" : Str))=false:=by decide)
  (q:starEach (e::es) X.env=(false,eval e X.env)::starEach es X.env:=by rfl) (d:(backTo pos (starEach es X.env)).any (·.1)=false:=by rfl):PE X (.Call (.Name x p) (e::es) [] pos) (tCB r t):=by
 intro c s σ H Q I h;refine wpAny_Call_Name_kw (nR I o m j ?_ l f);exact PyProof.Rows.callWith_builtin1 (thn (u pos c s σ H _ I h) λus g ⟨vs,w,v,r1,i⟩=>hc c g σ w vs us Q v r1 i) q d
theorem cH (hc:cN X (.type T) r)(o:Gl X x)(m:X.mg x=none)(j:bootBuiltins x=some (.type T))(u:PA X (e::es) t)(l:x≠"__name__":=by decide)(f:(x == ("__debug__" : Str))=false:=by decide)
  (q:starEach (e::es) X.env=(false,eval e X.env)::starEach es X.env:=by rfl) (d:(backTo pos (starEach es X.env)).any (·.1)=false:=by rfl):PE X (.Call (.Name x p) (e::es) [] pos) (tCB r t):=by
 intro c s σ H Q I h;refine wpAny_Call_Name_kw (nR I o m j ?_ l f);exact PyProof.Rows.callWith_type1 (thn (u pos c s σ H _ I h) λus g ⟨vs,w,v,r1,i⟩=>hc c g σ w vs us Q v r1 i) q d
end
end L2
namespace HT
open PySem PyProof.Rows
noncomputable def lexLt:List Int->List Int->Bool
 | [],[]=>false
 | [],_::_=>true
 | _::_,[]=>false
 | x::xs,y::ys=>if x=y then lexLt xs ys else decide (x<y)
theorem S0 (x y:Int)(xs ys:List Int):lexLt (x::xs) (y::ys)=if x=y then lexLt xs ys else decide (x<y):=rfl
theorem UQ (A:Around)(s:Shared)(a:Int)(t:Tok)(c:Int)(u:Tok):∃e,SeqAt.EqAt A s (.int a t) (.int c u) e/\(e=true ↔ a=c) :=
 ⟨(a == c),SeqAt.EqAt.int_int a t c u,by simp⟩
theorem rcLt_int (A:Around)(s:Shared)(a:Int)(t:Tok)(c:Int)(u:Tok)(prog:Program)(w:World)(E:cJ)(Q:cJ)(h:Q (.bool (decide (a<c))) s) :
  wpAny (model prog w) A (richCompare .Lt (.int a t) (.int c u)) Q E s :=
 (PyProof.Rows.lt_int h:wpAny (model prog w) A (compareOp .Lt (.int a t) (.int c u)) Q E s)
section
open PySem.SeqAt
open PySem.AutoSeq1 (wpAny_loadPart')
open PySem.MeetsSeq PySem.MeetsSeq2 PySem.MeetsSeq3
end
section
variable {prog:Program}{w:World}{A:Around}{E:cJ}{s:Shared}
theorem cat_tup {Q:cJ}(q:IsTup s.heap t vs.toArray)(hb:IsTup s.heap b ws.toArray)(m:vs≠[])
  (u:ws=[]->Q (.ref t) s) (r:ws≠[]->Q (.ref s.heap.objs.size) {s with heap:=s.heap.push {cls:=.type "tuple",data:=.seq (vs++ws).toArray} })
  (hsz:vs.length+ws.length<=sizeLine):wpAny (model prog w) A (binaryOp .Add (.ref t) (.ref b)) Q E s:=by
 obtain⟨⟨cls,o,data,l⟩,ho,hc,n,hd⟩:=id q;obtain⟨⟨p,h,j,d⟩,c,g,n2,f⟩:=id hb;simp only at hc hd g f;subst hc hd g f;have e:vs.toArray++ws.toArray=(vs++ws).toArray:=by simp
 by_cases i:ws=[]
 ·exact concat_meets ⟨_,ho,rfl⟩ ⟨_,c,rfl⟩ noFill_tuple_add seq_tuple_add PySem.F.slot_tuple_add PySem.F.entry_tuple_add (PySem.F.args_tuple_add_2 _ _)
   (tuple_addW1 t b vs.toArray ws.toArray n n2 o h l d (by simpa using m) (by simp[i])) ⟨ho,c,u i⟩
 ·refine concat_meets ⟨_,ho,rfl⟩ ⟨_,c,rfl⟩ noFill_tuple_add seq_tuple_add PySem.F.slot_tuple_add PySem.F.entry_tuple_add (PySem.F.args_tuple_add_2 _ _)
   (tuple_addW2 t b vs.toArray ws.toArray n n2 o h l d (by simpa using m) (by simpa using i) (by rw[ag,ag];exact hsz)) ⟨ho,c,?_⟩
  rw[e];exact r i
noncomputable def sIx (n d:Nat):Option Int->Nat
 | none=>d
 | some v=>if v<0 then(v+(n:Int)).toNat else min v.toNat n
theorem sIx_none (n d:Nat):sIx n d none=d:=rfl
theorem sIx_nat (n d k:Nat):sIx n d (some (k:Int))=min k n:=by show(if (k:Int)<0 then((k:Int)+(n:Int)).toNat else min (k:Int).toNat n)=min k n;rw[ab (by lia),cq]
theorem R7 (n d:Nat)(hd:d<=n)(o:Option Int):sIx n d o<=n:=by
 cases o with
 | none=>exact hd
 | some v =>
  show(if v<0 then(v+(n:Int)).toNat else min v.toNat n)<=n;by_cases c:v<0
  ·rw[ai c];lia
  ·rw[ab c];exact Nat.min_le_right _ _
theorem G2 (v:Int)(n d:Nat):(if v<0 then max (v+(n:Int)) 0 else min v (n:Int))=((sIx n d (some v):Nat):Int):=by
 show(if v<0 then max (v+(n:Int)) 0 else min v (n:Int))=(((if v<0 then(v+(n:Int)).toNat else min v.toNat n):Nat):Int);by_cases c:v<0
 ·simp only[ai c];lia
 ·simp only[ab c];lia
theorem FL (lo hi:Option Int)(n:Nat):Builtin.Slice.sliceAdjust lo hi 1 (n:Int)=(((sIx n 0 lo:Nat):Int),((sIx n n hi:Nat):Int)):=by
 have c:¬((1:Int)<0):=by lia
 unfold Builtin.Slice.sliceAdjust;simp only[c,if_false];refine Prod.ext ?_ ?_
 ·cases lo with
  | none=>rfl
  | some v=>exact G2 v n 0
 ·cases hi with
  | none=>rfl
  | some v=>exact G2 v n n
theorem D5 (i j:Nat):Builtin.Slice.slicePlaces (i:Int) (j:Int) 1=j - i:=by
 unfold Builtin.Slice.slicePlaces;have c:(1:Int) > 0:=by lia
 simp only[c,if_true,Int.ediv_one];split <;> lia
theorem slicePart_ {Q:Option Int->Shared->Prop}(p:IsPart v o)(h:Q o s):wpAny (model prog w) A (Builtin.Slice.slicePartIndex v) Q E s:=by
 cases p with
 | none=>exact slicePart_none h
 | int i t=>exact slicePart_int h
theorem pZ {g:Addr}{f e:Value}{lo hi:Option Int}{n:Nat}{Q:Int×Int×Nat->Shared->Prop}(j:s.heap.IsSliceOf g f e .none)(pl:IsPart f lo)(i:IsPart e hi)
  (h:Q (((sIx n 0 lo:Nat):Int),1,sIx n n hi - sIx n 0 lo) s):wpAny (model prog w) A (Builtin.Slice.sliceApplied (.ref g) (pure (n:Int))) Q E s:=by
 obtain⟨os,c,l,d⟩:=id j;unfold Builtin.Slice.sliceApplied Builtin.Slice.sliceFields;refine aa (aa (wpAny_field c d (x:=f) rfl (aa (wpAny_field c d (x:=e) rfl (aa (wpAny_field c d (x:=.none) rfl (ao ?_)))))));refine aa (slicePart_none ?_);show wpAny _ _ (if ((1:Int) == 0)=true then _ else _) _ _ s;rw[ab (by decide)];refine aa (slicePart_ pl (aa (slicePart_ i (aa (ao ?_)))));show wpAny _ _ (match Builtin.Slice.sliceAdjust lo hi 1 (n:Int)with|(lo,hi)=>pure (lo,(1:Int),Builtin.Slice.slicePlaces lo hi 1)) _ _ s;rw[FL lo hi n];show wpAny _ _ (pure (((sIx n 0 lo:Nat):Int),(1:Int),Builtin.Slice.slicePlaces ((sIx n 0 lo:Nat):Int) ((sIx n n hi:Nat):Int) 1)) _ _ s;rw[D5];exact ao h
theorem K4 (xs:n5)(i k:Nat):((List.range k).filterMap λ(m:Nat)=>xs[((i:Int)+(m:Int) * 1).toNat]?).toArray=((xs.toList.drop i).take k).toArray:=by
 have e:(λ(m:Nat)=>xs[((i:Int)+(m:Int) * 1).toNat]?)=λm=>xs[i+m]?:=by
  funext m;have:((i:Int)+(m:Int) * 1).toNat=i+m:=by lia
  rw[this]
 rw[e];have:=pick_run xs i k;rw[List.filterMap_map]at this;have c:((λx=>xs[x]?) ∘ λx=>i+x)=λm=>xs[i+m]?:=rfl;rw[c]at this;rw[this]
theorem getItem_tuple_cut {t e:Addr}{items:n5}{o l:Value}{lo hi:Option Int}{Q:cJ}(d:IsTup s.heap t items)(p:s.heap.IsSliceOf e o l .none)(pl:IsPart o lo)(r:IsPart l hi)
  (u:¬(sIx items.size 0 lo=0/\sIx items.size items.size hi=items.size))
  (h:Q (.ref s.heap.objs.size) {s with heap:=s.heap.push {cls:=.type "tuple",data:=.seq ((items.toList.drop (sIx items.size 0 lo)).take (sIx items.size items.size hi - sIx items.size 0 lo)).toArray} })
  (hsz:items.size<=sizeLine):wpAny (model prog w) A (getItem (.ref t) (.ref e)) Q E s:=by
 have c:sizeOk (.seq ((items.toList.drop (sIx items.size 0 lo)).take (sIx items.size items.size hi - sIx items.size 0 lo)).toArray):=by
  show((items.toList.drop (sIx items.size 0 lo)).take (sIx items.size items.size hi - sIx items.size 0 lo)).toArray.size<=sizeLine;rw[ag,bv,bx,br]
  lia
 have B:sIx items.size items.size hi<=items.size:=R7 _ _ (ac _) hi;obtain⟨os,f,i,v⟩:=id p;have j:s.TypeIs (.ref e) "slice":=⟨os,f,i⟩
 unfold getItem
 try with_reducible refine cj ?_
 first|refine aa (ao ?_)|skip
 refine aa (wpAny_sequenceKey d.typeIs (by decide) ?_)
 refine aa (wpAny_callSpecial?_slot (name:=Str.ofString "__getitem__") d.typeIs PyProof.Rows.slot_tuple_getitem
  (wpAny_call_entry PyProof.Rows.slot_tuple_getitem d.typeIs entry_tuple_getitem ?_ (args_tuple_getitem _ _)))
 show wpAny _ _ (Builtin.Tuple.tupleItemsOf (.ref t) >>= _) _ _ s;refine aa (tupleItemsOf_ d ?_);refine aa (wpAny_typeOf j ?_);rw[ai (by decide)];refine aa (pZ p pl r ?_);have g:¬((((sIx items.size 0 lo:Nat):Int) == 0 && (1:Int) == 1 && (sIx items.size items.size hi - sIx items.size 0 lo) == items.size)=true):=by intro q;rw[Bool.and_eq_true,Bool.and_eq_true]at q;have z:((sIx items.size 0 lo:Nat):Int)=0:=eq_of_beq q.1.1;have x:sIx items.size items.size hi - sIx items.size 0 lo=items.size:=eq_of_beq q.2;exact u ⟨by lia,by lia⟩
 show wpAny _ _ (if (((sIx items.size 0 lo:Nat):Int) == 0 && (1:Int) == 1 && (sIx items.size items.size hi - sIx items.size 0 lo) == items.size)=true then _ else _) _ _ s;rw[ab g,K4]
 first
  | exact aa (m:=Builtin.Tuple.tupleExact _) (cg (ao ⟨_,rfl,ao h⟩) c)
  | exact aa (m:=Builtin.Tuple.tupleExact _) (cg (aa (ao (ao ⟨_,rfl,ao h⟩))) c)
  | exact aa (aa (m:=Builtin.Tuple.tupleExact _) (cg (ao (ao ⟨_,rfl,ao h⟩)) c))
  | exact aa (aa (m:=Builtin.Tuple.tupleExact _) (cg (ao ⟨_,rfl,ao h⟩) c))
end
end HT
namespace L2
open PySem PySem.Spec PyProof.Rows
abbrev TO:=St->Hp->(Option Int->Hp->Prop)->Prop
def PO (X:Cx)(e:Option Expr)(t:TO):Prop :=
 ∀(c:cW) (s:Shared) (σ:St) (H:Hp) (Q:Option Int->Hp->Prop),aN X c σ H s->t σ H Q ->
  wpAny (model X.prog X.w) X.A (evalPart e X.env) (λu d=>∃o H',aN X c σ H' d/\IsPart u o/\Q o H') X.xe s
def tNoPart:TO:=λ_ H Q=>Q none H
def tPart (t:TE):TO:=λσ H Q=>t σ H λx c=>∃i,x = .int i/\Q (some i) c
theorem TN:∀{us:cS},aR (ns.map V.int) us->IntsAre us ns:=by
 induction ns with
 | nil=>intro us r;rw[List.map_nil]at r;cases r;exact .nil
 | cons n ns d =>
  intro us r;rw[bf]at r;cases r with
  | cons r1 c =>
   obtain⟨t,e⟩:=r1;subst e;exact .cons n t (d c)
section
variable {X:Cx}{e:Expr}{te:TE}{lo hi:Option Expr}{tl th:TO}{pos p2:Pos}
theorem fK:PO X none tNoPart:=by intro c s σ H Q I h;rw[evalPart_none];exact ao ⟨none,H,I,.none,h⟩
theorem eG (h:PE X e te):PO X (some e) (tPart te):=by intro c s σ H Q I f;rw[evalPart_some];refine thn (h c s σ H _ I f) λu l ⟨x,j,g,r1,d⟩=>?_;obtain⟨i,rfl,q⟩:=d;obtain⟨t,rfl⟩:=r1;exact⟨some i,j,g,.int i t,q⟩
def UX (X:Cx)(r:V->Option Int->Option Int->Hp->VK->Prop):Prop :=
 ∀(c:cW) (s:Shared) (σ:St) (H:Hp) (x:V) (v vl vu:Value) (lo hi:Option Int) (sl:Addr) (Q:VK),aN X c σ H s->aQ x v->s.heap.IsSliceOf sl vl vu .none->IsPart vl lo->IsPart vu hi->r x lo hi H Q ->
  ∃T id,typeLookup (.type T) "__getitem__" = pure (some (.builtin id))/\s.TypeIs v T/\wpAny (model X.prog X.w) X.A (getItem v (.ref sl)) (EP X c σ Q) X.xe s
def tSl (r:V->Option Int->Option Int->Hp->VK->Prop)(d:TE)(tl c:TO):TE:=λσ H Q=>d σ H λx g=>tl σ g λl f=>c σ f λu e=>r x l u e Q
theorem fH {r:V->Option Int->Option Int->Hp->VK->Prop}(C:UX X r)(G:PE X e te)(E:PO X lo tl)(z:PO X hi th):PE X (.Subscript e (.Slice lo hi none p2) pos) (tSl r te tl th):=by intro c s σ H Q I h;refine Subscript_ (thn (G c s σ H _ I h) λv j ⟨x,R,O,r1,p⟩=>?_);refine wpAny_Slice (thn (E c j σ R _ O p) λg s2 ⟨l,P,N,pl,o⟩=>thn (z c s2 σ P _ N o) λf d ⟨u,i,L,t,m⟩=>?_);rw[evalPart_none];refine ao ?_;have K:aN X c σ i {d with heap:=d.heap.push {cls:=.type "slice",data:=.fields #[g,f,.none]} }:=L.kept (t':=d.toks) λb S q=>af _ q;obtain⟨T,id,J,B,F⟩:=C c {d with heap:=d.heap.push {cls:=.type "slice",data:=.fields #[g,f,.none]} } σ i x v g f l u d.heap.objs.size Q K r1 (Heap.IsSliceOf.new ..) pl t m;show wpAny (model X.prog X.w) X.A (subscriptTail e (.Slice lo hi none p2) v (.ref d.heap.objs.size)) (EP X c σ Q) X.xe {d with heap:=d.heap.push {cls:=.type "slice",data:=.fields #[g,f,.none]} };exact tail_any (ops:=[.ref d.heap.objs.size,v]) B J F (by with_unfolding_all rfl)
noncomputable def cutV (xs:List V)(lo hi:Option Int):List V:=(xs.drop (HT.sIx xs.length 0 lo)).take (HT.sIx xs.length xs.length hi - HT.sIx xs.length 0 lo)
theorem rJ (xs:List V)(lo hi:Option Int):(cutV xs lo hi).length<=xs.length:=by
 unfold cutV;rw[bv,bx]
 lia
def rSlT (K:PySem.W.Frag):V->Option Int->Option Int->Hp->VK->Prop:=λx lo hi H Q=>∃a xs,x = .ref a/\iG K H a xs /\
 ¬(HT.sIx xs.length 0 lo=0/\HT.sIx xs.length xs.length hi=xs.length)/\∀p,H p=none->Q (.ref p) (upd H p (.tup (cutV xs lo hi)))
theorem R5:UX X (rSlT X.K):=by
 intro d s σ H x v p m lo hi t Q I f l pl g h;obtain⟨a,xs,rfl,i,j,q⟩:=h;cases f;obtain⟨its,r,e,hz⟩:=I.tuple i;have c:its.toArray.size=xs.length:=by rw[ag];exact r.length.symm
 refine⟨"tuple",_,PyProof.Rows.slot_tuple_getitem.lookup,e.typeIs,?_⟩;refine HT.getItem_tuple_cut e l pl g (by rw[c];exact j) ?_ (by rw[c];exact hz);rw[c];refine⟨.ref s.heap.objs.size,_,I.laid (t':=s.toks) (o:=.tup (cutV xs lo hi)) (λb u q=>af _ q) (ac _) ?_,rfl,q _ (I.hok.fresh (ac _))⟩;exact⟨aq (rJ xs lo hi) hz,_,(r.drop (HT.sIx xs.length 0 lo)).take (HT.sIx xs.length xs.length hi - HT.sIx xs.length 0 lo),IsTup.new _ _⟩
def rCatT (K:PySem.W.Frag):R2:=λx y H Q=>∃a b xs ys,x = .ref a/\y = .ref b/\iG K H a xs/\iG K H b ys/\xs≠[]/\xs.length+ys.length<=sizeLine /\
 (ys=[]->Q (.ref a) H)/\(ys≠[]->∀p,H p=none->Q (.ref p) (upd H p (.tup (xs++ys))))
theorem aR.nil_iff (r:aR xs us):us=[] ↔ xs=[]:=by
 cases r with
 | nil=>simp
 | cons _ _=>simp
theorem OY:jZ X (binaryOp .Add) (rCatT X.K):=by intro d s σ H x y v u Q I f e h;obtain⟨a,b,xs,ys,rfl,rfl,p,hb,m,hz,i,g⟩:=h;cases f;cases e;obtain⟨its,r1,l,_⟩:=I.tuple p;obtain⟨its2,c,j,_⟩:=I.tuple hb;refine HT.cat_tup l j (λz=>m (r1.nil_iff.mp z)) (λz=>⟨.ref a,H,I,rfl,i (c.nil_iff.mp z)⟩) (λz=>?_) (by rw[←r1.length,←c.length];exact hz);refine⟨.ref s.heap.objs.size,_,I.laid (t':=s.toks) (o:=.tup (xs++ys)) (λb r q=>af _ q) (ac _) ?_,rfl,g (λw=>z (c.nil_iff.mpr w)) _ (I.hok.fresh (ac _))⟩;exact⟨by rw[av];exact hz,_,r1.append c,IsTup.new _ _⟩
end
noncomputable def ixN (n:Nat)(i:Int):Option Nat:=if 0<=i then(if i<n then some i.toNat else none)else if -(n:Int)<=i then some (i+n).toNat else none
noncomputable def atI {α:Type}(xs:List α)(i:Int):Option α:=(ixN xs.length i).bind λj=>xs[j]?
theorem GU (h:ixN n i=some j):seqIndex? i n=some j/\j<n/\-(n:Int)<=i/\i<n:=by
 unfold ixN at h;by_cases d:0<=i
 ·rw[ai d]at h;by_cases c:i<n
  ·rw[ai c]at h;have e:i.toNat=j:=Option.some.inj h;exact⟨by rw[seqIndex_of d c,e],by lia,by lia,c⟩
  ·rw[ab c]at h;cases h
 ·rw[ab d]at h;by_cases c : -(n:Int)<=i
  ·rw[ai c]at h;have e:(i+n).toNat=j:=Option.some.inj h;exact⟨by rw[seqIndex_neg (by lia) c,e],by lia,c,by lia⟩
  ·rw[ab c]at h;cases h
theorem AN {α:Type}{xs:List α}{i:Int}{v:α}(h:atI xs i=some v):∃j,seqIndex? i xs.length=some j/\xs[j]?=some v/\j<xs.length/\-(xs.length:Int)<=i/\i<xs.length:=by
 unfold atI at h;cases e:ixN xs.length i with
 | none=>rw[e]at h;cases h
 | some j =>
  rw[e]at h;obtain⟨g,f,d,c⟩:=GU e;exact⟨j,g,h,f,d,c⟩
theorem G3 {α:Type}{xs:List α}{j:Nat}{v:α}(h:xs[j]?=some v):atI xs (j:Int)=some v:=by
 have c:j<xs.length:=(cr.mp h).1;have e:ixN xs.length (j:Int)=some j:=by unfold ixN;rw[ai (by lia),ai (by lia)];simp
 unfold atI;rw[e];exact h
def QT (b:Expr):Prop:=∀o i,subscripted b false o i=operate [o,i] (getItem o i)
def NM (X:Cx)(r:R2):Prop :=
 ∀(d c:Expr) (pins:cW) (s:Shared) (σ:St) (H:Hp) (x y:V) (v u:Value) (Q:VK),aN X pins σ H s->aQ x v->aQ y u->r x y H Q ->
  subscripted c false v u=operate [v,u] (getItem v u)->wpAny (model X.prog X.w) X.A (subscriptTail d c v u) (EP X pins σ Q) X.xe s
def VG (X:Cx)(id:String)(r:V->List V->Hp->VK->Prop):Prop :=
 ∀(c:cW) (s:Shared) (σ:St) (H:Hp) (x:V) (xs:List V) (v:Value) (us:cS) (Q:VK),aN X c σ H s->aQ x v->aR xs us->r x xs H Q ->
  wpAny (model X.prog X.w) X.A (call (.builtin id) (v::us)) (EP X c σ Q) X.xe s
section
variable {X:Cx}{a b:Expr}{ta tb:TE}{pos:Pos}
theorem NM.or (h:NM X r)(h':NM X r'):NM X (λx y H Q=>r x y H Q∨r' x y H Q):=by
 intro c d e s σ H x y v u Q I g f q i;rcases q with q|q
 ·exact h c d e s σ H x y v u Q I g f q i
 ·exact h' c d e s σ H x y v u Q I g f q i
theorem bM (g:NM X r)(i:PE X a ta)(hb:PE X b tb)(f:QT b):PE X (.Subscript a b pos) (tOp r ta tb):=by intro c s σ H Q I h;exact Subscript_ (binT i hb I h λv u s2 x y l j e d q=>g a b c s2 σ l x y v u Q j e d q (f _ _))
def rIxL (K:PySem.W.Frag):R2:=λx y H Q=>∃p xs i v,x = .ref p/\y = .int i/\eV K H p xs/\atI xs i=some v/\Q v H
def rIxT (K:PySem.W.Frag):R2:=λx y H Q=>∃p xs i v,x = .ref p/\y = .int i/\iG K H p xs/\atI xs i=some v/\Q v H
def rIxS:R2:=λx y H Q=>∃z i c,x = .str z/\y = .int i/\z.length<=sizeLine/\atI z.cps.toList i=some c/\Q (.str ⟨#[c]⟩) H
theorem P0:NM X (rIxL X.K):=by
 intro e f c s σ H x y v u Q I E C h m;obtain⟨p,xs,i,z,rfl,rfl,F,J,q⟩:=h;cases E;obtain⟨t,rfl⟩:=C;obtain⟨its,r,pl,hz⟩:=I.list F;obtain⟨j,d,O,R,N,L⟩:=AN J;obtain⟨w,A,g⟩:=r.get O;have G:=r.length;have P:=line63;have fin:EP X c σ Q w s:=⟨z,H,I,g,q⟩
 by_cases o:0<=i
 ·have l:i.toNat=j:=by rw[seqIndex_of o L]at d;exact Option.some.inj d
  exact item_listR pl.isList o (by lia) (by rw[l];simpa using A) fin m
 ·have l:(i+(its.toArray.size:Int)).toNat=j:=by rw[seqIndex_neg (by lia) N]at d;rw[ag,←G];exact Option.some.inj d
  exact subscriptTail_builtinR (x:=w) pl.isList.typeIs slot_list_getitem.lookup
   (wpAny_getItem_list_neg (Q:=λr B=>r=w/\EP X c σ Q r B) pl.isList (by lia) (by rw[ag] <;> lia) (by lia) (by rw[l];simpa using A) ⟨rfl,fin⟩) m
theorem TJ:NM X (rIxT X.K):=by
 intro d e c s σ H x y v u Q I m l h o;obtain⟨p,xs,i,z,rfl,rfl,A,C,q⟩:=h;cases m;obtain⟨t,rfl⟩:=l;obtain⟨its,r,pl,hz⟩:=I.tuple A;obtain⟨j,F,E,O,N,L⟩:=AN C;obtain⟨w,G,f⟩:=r.get E;have B:=r.length;have J:=line63;have fin:EP X c σ Q w s:=⟨z,H,I,f,q⟩
 exact subscriptTail_builtinR (x:=w) pl.typeIs slot_tuple_getitem.lookup
  (getItem_tuple (j:=j) (Q:=λr g=>r=w/\EP X c σ Q r g) pl (by lia) (by lia) (by rw[ag,←B];exact F) (by simpa using G) ⟨rfl,fin⟩) o
theorem TK:NM X rIxS:=by
 intro d e f s σ H x y v u Q I m l h o;obtain⟨z,i,c,rfl,rfl,hz,r,q⟩:=h;obtain⟨t,rfl⟩:=m;obtain⟨t',rfl⟩:=l;obtain⟨j,g,B,G,A,w⟩:=AN r;have p:z.cps.toList.length=z.length:=by simp[Str.length]
 rw[p]at g A w;have F:=line63
 exact tail_any (typeIs_str s z t) slot_str_getitem.lookup (getItem_str (c:=c) (by
  have E:decide (i < -(2 ^ 63:Int))=false:=bo (by lia);have C:decide (i ≥ 2 ^ 63)=false:=bo (by lia)
  rw[E,C,Bool.or_false]) (by rw[g];simpa using B) ⟨.str ⟨#[c]⟩,H,I.tok _,⟨_,rfl⟩,q⟩) o
def rIx (K:PySem.W.Frag):R2:=λx y H Q=>rIxL K x y H Q∨rIxT K x y H Q∨rIxS x y H Q
theorem MI:NM X (rIx X.K):=P0.or (TJ.or TK)
theorem EL (its:cS)(n j:Nat)(u:Value):Obj.mapSeq (·.setIfInBounds j u) {cls:=.type "list",data:=.seq its.toArray n}={cls:=.type "list",data:=.seq (its.set j u).toArray n}:=by simp[Obj.mapSeq]
theorem aN.lst {c:cW}{σ:St}{H:Hp}{s:Shared}{p:Addr}{xs:List V}(I:aN X c σ H s)(h:H p=some (.lst xs)) :
  ∃(its:cS) (n:Nat),aR xs its/\s.heap.get? p=some {cls:=.type "list",data:=.seq its.toArray n}/\xs.length<=sizeLine:=by
 obtain⟨z,its,n,r,e⟩:=I.hok p _ h;exact⟨its,n,r,e,z⟩
theorem aN.lstUpd {c:cW}{σ:St}{H:Hp}{s:Shared}{p:Addr}{xs ys:List V}{its its':cS}{n d:Nat}{f:Obj->Obj}(I:aN X c σ H s)(h:H p=some (.lst xs))
  (ho:s.heap.get? p=some {cls:=.type "list",data:=.seq its.toArray n}) (g:f {cls:=.type "list",data:=.seq its.toArray n}={cls:=.type "list",data:=.seq its'.toArray d}) (r:aR ys its') (hz:ys.length<=sizeLine) (t:Nat) :
  aN X c σ (upd H p (.lst ys)) {s with heap:=s.heap.update p f,toks:=t}:=by
 have e:(s.heap.update p f).get? p=some {cls:=.type "list",data:=.seq its'.toArray d}:=by rw[Heap.get?_update_self f ho (by rw[g] <;> rfl),g]
 refine I.write (x:=p) (e:=p) (by rw[h];trivial) (.inl rfl) (λb u hb q=>(Heap.get?_update_other _ _ (Ne.symm hb)).trans q) ⟨_,e⟩ ?_;exact⟨hz,its',d,r,e⟩
def rSetL:V->V->V->Hp->(Hp->Prop)->Prop:=λo i v H Q=>∃p xs k j,o = .ref p/\i = .int k/\H p=some (.lst xs)/\ixN xs.length k=some j/\Q (upd H p (.lst (xs.set j v)))
theorem BC:UZ X rSetL:=by
 intro c s σ H o i v C iv u Q I z A x h;obtain⟨p,xs,k,j,rfl,rfl,g,B,q⟩:=h;cases z;obtain⟨t,rfl⟩:=A;obtain⟨its,n,r,ho,hz⟩:=I.lst g;obtain⟨d,F,m,l⟩:=GU B;have e:=r.length;have E:=line63;have I':aN X c σ (upd H p (.lst (xs.set j v))) {s with heap:=s.heap.update p (Obj.mapSeq (·.setIfInBounds j u))} :=
  I.lstUpd g ho (EL its n j u) (r.set x j) (by rw[List.length_set];exact hz) s.toks
 by_cases w:0<=k
 ·have f:k.toNat=j:=by rw[seqIndex_of w l]at d;exact Option.some.inj d
  exact PySem.W.ki_setAt ho w (by lia) (by rw[ag,←e];exact l) (by rw[f];exact⟨_,I',q⟩)
 ·have f:(k+(its.toArray.size:Int)).toNat=j:=by rw[seqIndex_neg (by lia) m]at d;rw[ag,←e];exact Option.some.inj d
  exact PySem.W.ki_setBack ho (by lia) (by rw[ag,←e];exact m) (by lia) (by rw[f];exact⟨_,I',q⟩)
theorem y0 (lo hi:Option Int)(n:Nat):(sliceBounds lo hi none n).1=((HT.sIx n 0 lo:Nat):Int)/\(sliceBounds lo hi none n).2.1=((HT.sIx n n hi:Nat):Int)/\(sliceBounds lo hi none n).2.2=1:=by
 refine⟨?_,?_,rfl⟩
 ·cases lo with
  | none=>simp[sliceBounds,HT.sIx]
  | some i =>
   simp only[sliceBounds,HT.sIx,Option.getD_none,show(1:Int) > 0 by decide,if_true];by_cases h:i<0
   ·simp only[h,if_true] <;> lia
   ·simp only[h,if_false] <;> lia
 ·cases hi with
  | none=>simp[sliceBounds,HT.sIx]
  | some i =>
   simp only[sliceBounds,HT.sIx,Option.getD_none,show(1:Int) > 0 by decide,if_true];by_cases h:i<0
   ·simp only[h,if_true] <;> lia
   ·simp only[h,if_false] <;> lia
theorem wF (its:cS)(lo hi:Option Int):slicePick its.toArray lo hi none=((its.drop (HT.sIx its.length 0 lo)).take (HT.sIx its.length its.length hi - HT.sIx its.length 0 lo)).toArray:=by obtain⟨e,d,c⟩:=y0 lo hi its.toArray.size;unfold slicePick;rw[e,d,c];simp only[sliceRange_one,pick_run,ag] <;> rfl
def rSlL (K:PySem.W.Frag):V->Option Int->Option Int->Hp->VK->Prop:=λx lo hi H Q=>∃a xs,x = .ref a/\eV K H a xs/\∀p,H p=none->Q (.ref p) (upd H p (.lst (cutV xs lo hi)))
theorem NZ:UX X (rSlL X.K):=by intro d s σ H x v m l lo hi p Q I f j pl g h;obtain⟨a,xs,rfl,i,q⟩:=h;cases f;obtain⟨its,r,e,hz⟩:=I.list i;have c:=r.length;refine⟨"list",_,slot_list_getitem.lookup,e.isList.typeIs,?_⟩;refine wpAny_getItem_list_slice e.isList j pl g .none (by simp) ?_ (by rw[ag] <;> lia);rw[wF,←c];refine⟨.ref s.heap.objs.size,_,I.laid (t':=s.toks) (o:=.lst (cutV xs lo hi)) (λb t q=>af _ q) (ac _) ?_,rfl,q _ (I.hok.fresh (ac _))⟩;exact⟨aq (rJ xs lo hi) hz,_,0,(r.drop (HT.sIx xs.length 0 lo)).take (HT.sIx xs.length xs.length hi - HT.sIx xs.length 0 lo),aw _ rfl⟩
theorem zM:jZ X (compareOp .NotIn) (λx y H Q=>∃i j,x = .str i/\y = .str j/\Q (.bl (!(!(Builtin.Str.occurrences j i 0 j.length 1).isEmpty))) H):=by intro c s σ H x y v u Q I e d h;obtain⟨i,j,rfl,rfl,q⟩:=h;obtain⟨t,rfl⟩:=e;obtain⟨t',rfl⟩:=d;exact notIn_str ⟨.bl _,H,I,rfl,q⟩
theorem lC:cN X (.builtin "len") (λxs H Q=>∃p ys,xs=[.ref p]/\(eV X.K H p ys∨iG X.K H p ys)/\Q (.int ys.length) H):=by
 intro f s σ H xs us Q I r h;obtain⟨p,ys,rfl,d,q⟩:=h;obtain⟨u,rfl,g⟩:=vals1 r;cases g;have i:=line63;rcases d with d|d
 ·obtain⟨its,e,pl,hz⟩:=I.list d;have c:=e.length;exact Calls.call_len_list pl.isList (by simp only[ag] <;> lia) ⟨.int ys.length,H,I.tok _,⟨s.toks+1,by rw[ag,c]⟩,q⟩
 ·obtain⟨its,e,pl,hz⟩:=I.tuple d;have c:=e.length;exact len_tuple pl (by simp only[ag] <;> lia) ⟨.int ys.length,H,I.tok _,⟨s.toks+1,by rw[ag,c]⟩,q⟩
theorem AL:cN X (.builtin "len") (λxs H Q=>∃z,xs=[.str z]/\z.length<=sizeLine/\Q (.int z.length) H):=by intro c s σ H xs us Q I r h;obtain⟨z,rfl,hz,q⟩:=h;obtain⟨u,rfl,t,rfl⟩:=vals1 r;have d:=line63;exact len_str (by lia) ⟨.int z.length,H,I.tok _,⟨_,rfl⟩,q⟩
theorem AK:cN X (.type "list") (λxs H Q=>∃p ys,xs=[.ref p]/\(eV X.K H p ys∨iG X.K H p ys)/\∀l,H l=none->Q (.ref l) (upd H l (.lst ys))):=by
 intro f s σ H xs us Q I r h;obtain⟨p,ys,rfl,g,q⟩:=h;obtain⟨u,rfl,m⟩:=vals1 r;cases m;have fin:∀(its:cS),aR ys its->ys.length<=sizeLine->∀(h':Heap) (d:Nat),(∀b j,s.heap.get? b=some j->h'.get? b=some j) ->
   h'.get? s.heap.objs.size=some {cls:=.type "list",dict:=none,data:=.seq its.toArray d,slots:=#[]}->EP X f σ Q (.ref s.heap.objs.size) {s with heap:=h'}:=λits c hz h' d kp e =>
  ⟨.ref s.heap.objs.size,_,I.laid (t':=s.toks) kp (ac _) (show cD X.prog X.w _ h' _ (.lst ys)from⟨hz,its,d,c,e⟩),rfl,q _ (I.hok.fresh (ac _))⟩
 rcases g with g|g
 ·obtain⟨its,c,pl,hz⟩:=I.list g;have i:=c.length;obtain⟨o,ho,hc,n,hd⟩:=pl.isList;exact call_list_seq p (.inl rfl) ho hc hd (λh' d kp e=>fin its c hz h' d kp e) (by simp only[ag] <;> lia)
 ·obtain⟨its,c,pl,hz⟩:=I.tuple g;have i:=c.length;obtain⟨o,ho,hc,n,hd⟩:=pl;exact call_list_seq p (.inr rfl) ho hc hd (λh' d kp e=>fin its c hz h' d kp e) (by simp only[ag] <;> lia)
theorem wK:cN X (.type "tuple") (λxs H Q=>∃p ys,xs=[.ref p]/\((eV X.K H p ys/\∀l,H l=none->Q (.ref l) (upd H l (.tup ys)))∨(iG X.K H p ys/\Q (.ref p) H))):=by
 intro c s σ H xs us Q I r h;obtain⟨p,ys,rfl,h⟩:=h;obtain⟨u,rfl,j⟩:=vals1 r;cases j;rcases h with⟨f,q⟩|⟨f,q⟩
 ·obtain⟨its,d,pl,hz⟩:=I.list f;have g:=d.length;refine call_tuple_list pl.isList (λh' kp=>?_) (by simp only[ag] <;> lia);have i:aN X c σ H {s with heap:=h'}:=I.kept (t':=s.toks) kp;have m:aN X c σ (upd H h'.objs.size (.tup ys)) {s with heap:=h'.push {cls:=.type "tuple",data:=.seq its.toArray} } :=
   i.laid (t':=s.toks) (λb o e=>af _ e) (ac _) (show cD X.prog X.w _ _ _ (.tup ys)from⟨hz,its,d,IsTup.new _ _⟩)
  exact⟨.ref h'.objs.size,_,m,rfl,q _ (i.hok.fresh (ac _))⟩
 ·obtain⟨its,d,pl,hz⟩:=I.tuple f;exact call_tuple_same pl ⟨.ref p,H,I,rfl,q⟩
def tyV (K:PySem.W.Frag)(T:String)(x:V)(H:Hp):Prop:=match x with
 | .str _=>T="str"
 | .int _=>T="int"
 | .ref p=>(T="list"/\∃xs,eV K H p xs)∨(T="tuple"/\∃o,K.lookup p=some o/\o.cls = .type "tuple"/\o.dict=none) ∨
   (T="dict"/\((∃c,H p=some (.dK c))∨∃c,H p=some (.dT c)))∨(T="set"/\∃S n,H p=some (.set S n))
 | _=>False
theorem KB {f:cW}{σ:St}{H:Hp}{s:Shared}{T:String}{x:V}{v:Value}(I:aN X f σ H s)(r:aQ x v)(ty:tyV X.K T x H) :
  s.TypeIs v T/\∀a,v = .ref a->∃j,s.heap.get? a=some j/\j.dict=none:=by
 cases x with
 | str z =>
  obtain⟨t,rfl⟩:=r;cases (show T="str" from ty);exact⟨typeIs_str s z t,λ_ e=>nomatch e⟩
 | int i =>
  obtain⟨t,rfl⟩:=r;cases (show T="int" from ty);exact⟨typeIs_int s i t,λ_ e=>nomatch e⟩
 | ref p =>
  cases r;rcases ty with⟨rfl,xs,l⟩|⟨rfl,o,d,hc,hd⟩|⟨rfl,d⟩|⟨rfl,S,n,d⟩
  ·obtain⟨its,_,pl,_⟩:=I.list l;refine⟨pl.isList.typeIs,λa e=>?_⟩;cases e;obtain⟨o,n,e,c,hd,_⟩:=pl;exact⟨o,e,hd⟩
  ·refine⟨⟨o,I.kIn p o d,hc⟩,λa e=>?_⟩;cases e;exact⟨o,I.kIn _ o d,hd⟩
  ·have z:∃o,s.heap.get? p=some o/\o.ExactDict:=by
    rcases d with⟨g,d⟩|⟨g,d⟩
    ·obtain⟨_,_,_,_,o,_,_,e,ex,_⟩:=I.hok p _ d;exact⟨o,e,ex⟩
    ·obtain⟨_,_,_,_,o,_,_,e,ex,_⟩:=I.hok p _ d;exact⟨o,e,ex⟩
   obtain⟨o,e,ex⟩:=z;refine⟨⟨o,e,ex.1⟩,λa h=>?_⟩;cases h;exact⟨o,e,ex.2.1⟩
  ·obtain⟨o,_,_,_,e,ex,_⟩:=I.hok p _ d;refine⟨⟨o,e,ex.1⟩,λa h=>?_⟩;cases h;exact⟨o,e,ex.2.1⟩
 | _=>exact False.elim ty
def tBM0 (K:PySem.W.Frag)(T:String)(r:V->List V->Hp->VK->Prop)(d:TE):TE:=λσ H Q=>d σ H λx c=>tyV K T x c/\r x [] c Q
def tBM (K:PySem.W.Frag)(T:String)(r:V->List V->Hp->VK->Prop)(d:TE)(t:TA):TE:=λσ H Q=>d σ H λx c=>tyV K T x c/\t σ c λxs e=>r x xs e Q
variable {o e:Expr}{es:pO}{to:TE}{t:TA}{name:Str}{apos cpos:Pos}{T id:String}{r:V->List V->Hp->VK->Prop}
theorem EA (pa:PlainAttrs T)(slot:Slot T name id)(f:typeOf (.builtin id)=pure (.type "method_descriptor"))(l:VG X id r)(ho:PE X o to)
  (e:attributeBase o name X.env (eval o X.env)=eval o X.env:=by rfl) (d:(apos.endLine == cpos.line)=true:=by rfl):PE X (.Call (.Attribute o name apos) [] [] cpos) (tBM0 X.K T r to):=by
 intro c s σ H Q I h;refine wpAny_Call_method0_late e d (thn (ho c s σ H _ I h) λv i ⟨x,q,g,r1,ty,j⟩=>?_);obtain⟨p,m⟩:=KB g r1 ty;exact⟨T,id,pa,slot,f,p,m,Calls.callWith_builtin rfl (PySem.evalArgs_none (l c i σ q x [] v [] Q g r1 .nil j))⟩
theorem kH (pa:PlainAttrs T)(slot:Slot T name id)(j:typeOf (.builtin id)=pure (.type "method_descriptor"))(A:VG X id r)(ho:PE X o to)(B:PA X (e::es) t)
  (g:attributeBase o name X.env (eval o X.env)=eval o X.env:=by rfl)
  (i:((backTo cpos (starEach (e::es) X.env)).all (λx=>!x.1) && (backToKw cpos (keywordEach [] X.env)).all (λx=>x.1.isSome)
   && decide ((e::es).length+([]:List Keyword).length+(if ([]:List Keyword).isEmpty then 0 else 1)<30))=true:=by rfl)
  (f:(apos.endLine == cpos.line)=true:=by rfl) (z:starEach (e::es) X.env=(false,eval e X.env)::starEach es X.env:=by rfl) (d:(backTo cpos (starEach es X.env)).any (·.1)=false:=by rfl) :
  PE X (.Call (.Attribute o name apos) (e::es) [] cpos) (tBM X.K T r to t):=by
 intro c s σ H Q I h;refine wpAny_Call_method_late g i f rfl (thn (ho c s σ H _ I h) λv p ⟨x,J,m,r1,ty,w⟩=>?_);obtain⟨E,C⟩:=KB m r1 ty;refine⟨T,id,pa,slot,j,E,C,?_⟩;have l:=B cpos c p σ J _ m w;rw[z]at l⊢;refine Calls.callWith_builtin (by show(false || (backTo cpos (starEach es X.env)).any (·.1))=false;rw[d] <;> rfl) (Calls.evalArgs_plain ?_);exact thn l λus s2 ⟨vs,G,F,q,u⟩=>A c s2 σ G x vs v us Q F r1 q u
end
def UE (X:Cx)(id:String)(r:V->List V->Hp->VK->Prop):Prop :=
 ∀(c:cW) (s:Shared) (σ:St) (H:Hp) (x:V) (xs:List V) (v:Value) (us:cS) (Q:VK),aN X c σ H s->aQ x v->aR xs us->r x xs H Q ->
  wpAny (model X.prog X.w) X.A (call (.builtin id) (v::us)) (EP X c σ Q) X.xe s
theorem aR.one (h:aR [x] us):∃u,us=[u]/\aQ x u:=by cases h with|cons r t=>cases t;exact⟨_,rfl,r⟩
theorem aR.two (h:aR [x,y] us):∃u v,us=[u,v]/\aQ x u/\aQ y v:=by cases h with|cons r t=>obtain⟨v,rfl,q⟩:=aR.one t;exact⟨_,_,rfl,r,q⟩
theorem aR.zero:∀{us:cS},aR [] us->us=[]
 | _,.nil=>rfl
theorem aR.dropLast (h:aR xs us):aR xs.dropLast us.dropLast:=by
 induction h with
 | nil=>exact .nil
 | cons r t c =>
  cases t with
  | nil=>exact .nil
  | cons q t'=>exact .cons r c
theorem aR.eraseIdx:∀{xs:List V} {us:cS} (i:Nat),aR xs us->aR (xs.eraseIdx i) (us.eraseIdx i)
 | _,_,_,.nil=>.nil
 | _,_,0,.cons _ t=>t
 | _,_,i+1,.cons r t=>.cons r (aR.eraseIdx i t)
theorem aR.reverse (h:aR xs us):aR xs.reverse us.reverse:=by
 induction h with
 | nil=>exact .nil
 | cons r t c=>rw[List.reverse_cons,List.reverse_cons];exact aR.append c (.cons r .nil)
theorem aR.rep (h:aR xs us):∀k:Nat,aR (List.replicate k xs).flatten (List.replicate k us).flatten
 | 0=>.nil
 | k+1=>by rw[List.replicate_succ,List.replicate_succ,List.flatten_cons,List.flatten_cons];exact aR.append h (aR.rep h k)
theorem FE {α:Type}(l:List α):l.eraseIdx (l.length - 1)=l.dropLast:=by
 induction l with
 | nil=>rfl
 | cons a r c =>
  cases r with
  | nil=>rfl
  | cons b r =>
   have e:(a::b::r).length - 1=((b::r).length - 1)+1:=by
    have f:(a::b::r).length=r.length+2:=rfl;have d:(b::r).length=r.length+1:=rfl
    lia
   rw[e,List.eraseIdx_cons_succ,c]
   all_goals rfl
theorem xO {α:Type}:∀(l:List α) (i:Nat),(l.eraseIdx i).length<=l.length
 | [],_=>ac _
 | _::_,0=>Nat.le_succ _
 | _::r,i+1=>Nat.succ_le_succ (xO r i)
theorem xY (its:cS):∀(k:Nat) (c:cS),
  List.foldl (λf d=>f++d) c.toArray (List.replicate k its.toArray)=(c++(List.replicate k its).flatten).toArray
 | 0,c=>by simp
 | k+1,c=>by
  have e:c.toArray++its.toArray=(c++its).toArray:=by simp
  have g:(c++its)++(List.replicate k its).flatten=c++(List.replicate (k+1) its).flatten:=by rw[List.replicate_succ,List.flatten_cons,cp]
  rw[←g,←xY its k (c++its),←e,List.replicate_succ,List.foldl_cons]
section
variable {X:Cx}{pins:cW}{σ:St}{H:Hp}{s:Shared}{l b:Addr}{xs ys zs:List V}
theorem aN.lset {its its':cS}{n:Nat}{f:n5->n5}{t':Nat}(I:aN X pins σ H s)(h:H l=some (.lst xs))
  (e:s.heap.get? l=some {cls:=.type "list",data:=.seq its.toArray n}) (g:f its.toArray=its'.toArray) (c:aR ys its') (hz:ys.length<=sizeLine) :
  aN X pins σ (upd H l (.lst ys)) {s with heap:=s.heap.update l (Obj.mapSeq f),toks:=t'}:=by
 have q:=PySem.IsL.update e f;rw[g]at q;refine I.write (x:=l) (e:=l) (by rw[h];exact trivial) (.inl rfl) (λi u hb d=>(Heap.get?_update_other s.heap (Obj.mapSeq f) (Ne.symm hb)).trans d) ⟨_,q⟩ ?_;exact⟨hz,its',_,c,q⟩
theorem aN.lnew {its:cS}{t':Nat}(I:aN X pins σ H s)(c:aR ys its)(hz:ys.length<=sizeLine) :
  aN X pins σ (upd H s.heap.objs.size (.lst ys)) {s with heap:=s.heap.push {cls:=.type "list",data:=.seq its.toArray},toks:=t'} :=
 I.laid (λ_ _ q=>af _ q) (ac _) ⟨hz,its,0,c,aw _ rfl⟩
theorem aN.fresh (I:aN X pins σ H s):H s.heap.objs.size=none:=I.hok.fresh (ac _)
theorem aN.lstM (I:aN X pins σ H s)(c:H l=some (.lst xs)):xs.length<=sizeLine/\∃(its:cS) (n:Nat),aR xs its/\xs.length=its.length/\s.heap.get? l=some {cls:=.type "list",data:=.seq its.toArray n}:=by obtain⟨z,its,n,r,e⟩:=I.hok l _ c;exact⟨z,its,n,r,r.length,e⟩
theorem uM (h:n<=sizeLine):Builtin.List.listTooLong n=false:=by unfold Builtin.List.listTooLong;exact bo (by lia)
end
section
variable {X:Cx}
def rAppend:V->List V->Hp->VK->Prop:=λx vs H Q=>∃l xs y,x = .ref l/\vs=[y]/\H l=some (.lst xs)/\xs.length<sizeLine/\Q .non (upd H l (.lst (xs++[y])))
theorem fU:UE X "list.append" rAppend:=by
 intro c s σ H x vs v us Q I f g h;obtain⟨l,xs,y,rfl,rfl,d,hz,q⟩:=h;cases f;obtain⟨u,rfl,i⟩:=g.one;obtain⟨z,its,n,r,j,e⟩:=I.lstM d;refine call_meets F.slot_list_append ⟨_,e,rfl⟩ F.entry_list_append (F.args_list_append_2 _ _) (PySem.list_append l its.toArray n u (by rw[ag];lia)) ⟨e,?_⟩;refine⟨.non,_,I.lset (its':=its++[u]) d e (by simp) (r.append (.cons i .nil)) ?_,rfl,q⟩;rw[av,ck]
 lia
def rExtend:V->List V->Hp->VK->Prop:=λx vs H Q=>∃l b xs c,x = .ref l/\vs=[.ref b]/\H l=some (.lst xs)/\H b=some (.lst c)/\xs.length+c.length<=sizeLine/\Q .non (upd H l (.lst (xs++c)))
theorem IN:UE X "list.extend" rExtend:=by
 intro d s σ H x vs v us Q I g i h;obtain⟨l,b,xs,w,rfl,rfl,f,p,hz,q⟩:=h;cases g;obtain⟨u,rfl,j⟩:=i.one;cases j;obtain⟨z,its,n,r,B,e⟩:=I.lstM f;obtain⟨A,its2,n2,m,o,t⟩:=I.lstM p;have hsz:its.toArray.size+its2.toArray.size<=sizeLine:=by rw[ag,ag];lia
 have c:¬(!its.toArray.isEmpty && Builtin.List.listTooLong (its.toArray.size+its2.toArray.size))=true:=by rw[uM hsz,Bool.and_false];exact Bool.false_ne_true
 refine call_meets F.slot_list_extend ⟨_,e,rfl⟩ F.entry_list_extend (F.args_list_extend_2 _ _)
  (AutoSeq1.list_extend_list_list_0 l its.toArray n b its2.toArray n2 c (by rw[ag];lia) (by lia)) ⟨e,t,?_⟩
 refine⟨.non,_,I.lset (its':=its++its2) f e (by simp) (r.append m) ?_,rfl,q⟩;rw[av]
 lia
def rPop:V->List V->Hp->VK->Prop:=λx vs H Q=>∃l xs y,x = .ref l/\vs=[]/\H l=some (.lst xs)/\xs[xs.length - 1]?=some y/\Q y (upd H l (.lst xs.dropLast))
theorem EI:UE X "list.pop" rPop:=by
 intro d s σ H x vs v us Q I g i h;obtain⟨l,xs,y,rfl,rfl,f,m,q⟩:=h;cases g;have c:=i.zero;subst c;obtain⟨z,its,n,r,p,e⟩:=I.lstM f;obtain⟨u,o,j⟩:=r.get m;have hy':its.toArray[its.toArray.size - 1]?=some u:=by show its.toArray[its.length - 1]?=some u;rw[←Array.getElem?_toList,←p];exact o
 refine call_meets F.slot_list_pop ⟨_,e,rfl⟩ F.entry_list_pop (F.args_list_pop_1 _) (MeetsSeq.list_pop_last l its.toArray n u hy' (by rw[ag];lia)) ⟨e,?_⟩;refine⟨y,_,I.lset (its':=its.dropLast) f e ?_ r.dropLast ?_,j,q⟩
 ·show its.toArray.eraseIdxIfInBounds (its.toArray.size - 1)=its.dropLast.toArray;rw[ag,List.eraseIdxIfInBounds_toArray,FE]
 ·rw[List.length_dropLast]
  lia
def rPopAt:V->List V->Hp->VK->Prop:=λx vs H Q=>∃l xs i k y,x = .ref l/\vs=[.int i]/\H l=some (.lst xs)/\-(2 ^ 63)<=i/\i<2 ^ 63/\seqIndex? i xs.length=some k/\xs[k]?=some y/\Q y (upd H l (.lst (xs.eraseIdx k)))
theorem L4:UE X "list.pop" rPopAt:=by
 intro d s σ H x vs v us Q I g j h;obtain⟨l,xs,i,k,y,rfl,rfl,f,E,C,B,o,q⟩:=h;cases g;obtain⟨u,rfl,m⟩:=j.one;obtain⟨t,rfl⟩:=m;obtain⟨z,its,n,r,A,e⟩:=I.lstM f;obtain⟨w,p,c⟩:=r.get o;refine call_meets F.slot_list_pop ⟨_,e,rfl⟩ F.entry_list_pop (F.args_list_pop_2 _ _)
  (MeetsSeq.list_pop_at l its.toArray n i t k w (fitsIndex_both E C) (by rw[ag,←A];exact B) (by rw[←Array.getElem?_toList];exact p) (by rw[ag];lia)) ⟨e,?_⟩
 refine⟨y,_,I.lset (its':=its.eraseIdx k) f e ?_ (r.eraseIdx k) ?_,c,q⟩
 ·show its.toArray.eraseIdxIfInBounds k=(its.eraseIdx k).toArray;rw[List.eraseIdxIfInBounds_toArray]
 ·have:=xO xs k
  lia
def rCat:R2:=λx y H Q=>∃l b xs c,x = .ref l/\y = .ref b/\H l=some (.lst xs)/\H b=some (.lst c)/\xs.length+c.length<=sizeLine/\∀p,H p=none->Q (.ref p) (upd H p (.lst (xs++c)))
theorem SJ:jZ X (binaryOp .Add) rCat:=by
 intro c s σ H x y v u Q I f d h;obtain⟨l,b,xs,t,rfl,rfl,j,m,hz,q⟩:=h;cases f;cases d;obtain⟨z,its,n,r,A,e⟩:=I.lstM j;obtain⟨w,its2,n2,g,i,p⟩:=I.lstM m;refine PySem.P.add_list e p ?_ (by rw[ag,ag];lia);have o:its.toArray++its2.toArray=(its++its2).toArray:=by simp
 rw[o];exact⟨.ref _,_,I.lnew (t':=s.toks) (r.append g) (by rw[av];lia),rfl,q _ I.fresh⟩
def rRep:R2:=λx y H Q=>∃l k xs,x = .ref l/\y = .int k/\H l=some (.lst xs)/\-(2 ^ 63)<=k/\k<2 ^ 63/\xs.length * k.toNat<=sizeLine /\
 ∀p,H p=none->Q (.ref p) (upd H p (.lst (List.replicate k.toNat xs).flatten))
theorem PU {α:Type}(xs:List α)(k:Nat):(List.replicate k xs).flatten.length=k * xs.length:=by
 induction k with
 | zero=>simp
 | succ k c=>rw[List.replicate_succ,List.flatten_cons,av,c,Nat.succ_mul,Nat.add_comm]
theorem qE:jZ X (binaryOp .Mult) rRep:=by
 intro p s σ H x y v u Q I B A h;obtain⟨l,k,xs,rfl,rfl,E,J,G,hz,q⟩:=h;cases B;obtain⟨t,rfl⟩:=A;obtain⟨z,its,n,r,C,e⟩:=I.lstM E;have f:its.toArray.size * k.toNat<=sizeLine:=by rw[ag,←C];exact hz
 have i:¬its.toArray.size * k.toNat > (2 ^ 63 - 1) / 8:=by
  have:(sizeLine:Nat)<=(2 ^ 63 - 1) / 8:=by decide
  lia
 have g:¬(!Builtin.List.listFitsIndex k)=true:=by rw[fitsIndex_both J G];exact Bool.false_ne_true
 have c:¬Builtin.List.listTooLong (its.toArray.size * k.toNat)=true:=by rw[uM f];exact Bool.false_ne_true
 have d:List.foldl (λo j=>o++j) #[] (List.replicate (if its.toArray.isEmpty=true then 0 else k.toNat) its.toArray)=(List.replicate k.toNat its).flatten.toArray:=by
  have f0:∀m:Nat,List.foldl (λo j=>o++j) #[] (List.replicate m its.toArray)=(List.replicate m its).flatten.toArray:=λm=>by have:=xY its m [];rw[List.nil_append]at this;exact this
  rw[f0];cases its with
  | nil=>simp
  | cons a K=>rw[ab (by simp)]
 refine wpAny_binaryOp_repeat_ref (T:="list") (U:="int") (by decide) ⟨_,e,rfl⟩ (λw=>typeIs_int w k t) noFill_list_mul F.fills_int_mul F.slot_int_rmul repeat_list F.slot_int_index.lookup
  (call_meets F.slot_int_rmul (typeIs_int s k t) F.entry_int_rmul (F.args_int_rmul_2 _ _) (int___rmul___int_list k t l its.toArray n)
   ⟨e,rfl,⟨_,e,rfl⟩,call_meets F.slot_list_mul ⟨_,e,rfl⟩ F.entry_list_mul (F.args_list_mul_2 _ _) (AutoListH.list___mul___list_int_3 l its.toArray n k t g i c) ⟨e,?_⟩⟩)
 rw[d];exact⟨.ref _,_,I.lnew (t':=s.toks) (r.rep k.toNat) (by rw[PU,Nat.mul_comm];exact hz),rfl,q _ I.fresh⟩
end
end L2
namespace Att
open PySem PySem.W PySem.Calls PyProof.Rows
theorem sE:∀(ns:List Int) (vs:cS),WellAll P h vs (ns.map WData.int)->IntsAre vs ns:=by
 intro ns
 induction ns with
 | nil =>
  intro vs w;rw[List.map_nil]at w;cases w;exact .nil
 | cons n ns c =>
  intro vs w;rw[bf]at w;cases w with
  | cons a b =>
   cases a;exact .cons _ _ (c _ b)
theorem HN {l:OpenLaw}{n:Nat}(t:l.most=some n){P:Params}{h:Heap}{args:List WData}{c:cS}
  (e:l.row.toRowW.claim.pre args=true) (m:WellAll P h c args) :
  ∃a vs ns,c=[Value.ref a]/\args=[WData.list (ns.map WData.int)]/\h.get? a=some {cls:=.type "list",data:=.seq vs.toArray}/\IntsAre vs ns/\ns.length<=n:=by
 have o:WShape.hasAll [] args [.list .int]=true:=(pre_splitW e).1;have hc:l.pre.holds [] {args:=args}=true:=(pre_splitW e).2;obtain⟨d,r,rfl,w,v⟩:=hasAllW_cons o;obtain rfl:=hasAllW_nil v;obtain⟨xs,rfl,u⟩:=hasW_list w;obtain⟨ns,rfl⟩:=items_int u;have f:ns.length<=n:=by
  unfold OpenLaw.pre at hc;have j:(WTm.not (.lt (.lit (.int (n:Int))) (.len (.arg 0)))).holds [] {args:=[.list (ns.map .int)]}=true:=by have j:=(holds_andW hc).1;rw[t]at j;exact j
  have i:=condW_of j (w_not (w_lt w_lit (w_len_list (w_arg rfl))));rw[ae]at i;refine Nat.le_of_not_lt λq=>?_;have q':(n:Int)<((ns.length:Nat):Int):=by lia
  first
   | (rw[bi q']at i;exact absurd i (by decide))
   | (simp at i;lia)
 cases m with
 | cons s p =>
  cases p;cases s with
  | list ho g=>exact⟨_,_,ns,rfl,rfl,ho,sE ns _ g,f⟩
theorem HW (l:OpenLaw)(args:List WData):l.row.toRowW.claim.post args (.bool true) args=true :=
 postW_of (r:=l.row.toRowW) (X:=(true == true))
  (show WShape.has [] (.bool true) .bool=true by first|rfl|decide|simp[WShape.has,WShape.arms,WShape.armsAll])
  (show(WTm.eq .res (.lit (.bool true))).value [] {args:=args,res:=some (.bool true),after:=args}=some (.bool (true == true))from w_eq_bool (w_res rfl) w_lit) rfl
theorem C6 {l:OpenLaw}{n:Nat}{q:Program}{loose:aT}{XP:(jB)->Heap->Prop}{YP:World->Heap->Prop}{d:DefRec}
  (E:l.most=some n) (u:d.params.defaults=[])
  (call:∀(w:World) (s₀ c:Shared) (mg mb:jB) (fa:Addr) (o:Obj) (pm p g:Value) (a:Addr) (vs:cS) (ns:List Int),
   Ground q loose [] XP w s₀ mg mb c.heap->YP w c.heap ->
   c.heap.get? fa=some o->o.data = .func (docDef d.name d.params d.body d.scope pm p g)->c.heap.CodeRec p d.name->mg d.name=some (.ref fa) ->
   c.heap.get? a=some {cls:=.type "list",data:=.seq vs.toArray}->IntsAre vs ns->ns.length<=n->c.gens = #[] ->
   codeAny (model l.prog w) callerA (.call (.ref fa) ⟨[.ref a],[]⟩) (λr m=>r = .ok (.ret (.bool true))/\OldK c.heap m.heap/\m.os=c.os/\AllBare m.gens) c) :
  WalkO q loose XP YP l.row.toRowW d [] (λf vs=>PySem.call f vs):=by
 intro w s₀ c mg mb G Y fa o pm p g N kV ho hd v A t I args x as h z B s H;obtain rfl:N = .none:=Dflts.none A u;obtain rfl:kV = .none:=Dflts.noKw A;obtain⟨a,vs,ns,rfl,rfl,i,e,j⟩:=HN E h s;refine enter_call (codeAny_mono (call w s₀ c mg mb fa o pm p g a vs ns G Y ho (fd_plain hd) v t i e j I) λr m C=>?_);obtain⟨rfl,L,K,J⟩:=C;exact⟨.inl ⟨.bool true,.bool true,[],rfl,λ_=>rfl,.bool true,HW l _,λ_=>⟨List.Pairwise.nil,λ_ F=>(nomatch F)⟩⟩,L,K,J⟩
end Att
namespace L2
open PySem PySem.Spec PyProof.Rows
theorem wR:∀{vs:cS} {ns:List Int},IntsAre vs ns->aR (ns.map V.int) vs
 | _,_,.nil=>.nil
 | _,_,.cons n t h=>.cons ⟨t,rfl⟩ (wR h)
abbrev bJ:AW:=λ_ _ _ _ _ _=>False
abbrev E0:XK:=λ_ _ _=>False
theorem pass0:jY bJ X E0:=λ_ _ _ _ _ _ _ h=>h.elim
structure fP (K:PySem.W.Frag)(x qual:Str)(st:Stmt)(f:Addr)(fd:FuncData):Prop where
 ex:∃(oc:Value) (od:Option Addr) (kV doc pm:Value) (an:Option Addr) (cdv ct:Value) (osl:Array (Option Value)),
  fd=PySem.W.fnOf x qual (dD st) (cK st) (aH st) .none kV doc pm an cdv ct/\K.lookup f=some ⟨oc,od,.func fd,osl⟩/\PySem.W.codeIn K cdv qual=true
 kp:PySem.W.keepIn K (.ref f)=true
section
variable {P:Program}{w:World}{K:PySem.W.Frag}{mg:jB}{base:Heap}
theorem fP.ok {x c:Str}{st:Stmt}{f:Addr}{j:FuncData}{N ps:aT}{k:Nat}{sp:Sp}(F:fP K x c st f j)(S:aP N ps (aH st))(len:∀vs H Q E,sp vs H Q E->vs.length=ps.length)
  (e:∀(d:Value) (A:Around) (outer:List Env) (s:Shared) (H:Hp) (vs:List V) (Q:VK) (E:XK),dY k (A.deeper (envOfC c (aH st) s.heap.objs.size f d))->sp vs H Q E ->
   ∃t,DH (cxOf bJ P w K mg base N c (aH st) f d A outer s H E).nox (cK st) t/\t {nx:=λ_ H'=>Q .non H',rt:=Q} (start N vs) H):cA P w K mg base bJ (k+1) f j ps sp:=by
 obtain⟨p,od,kV,o,pm,r,d,ct,osl,rfl,l,i⟩:=F.ex;refine Q9 l i S len λA outer s H vs Q E m g=>?_;obtain⟨t,h,q⟩:=e d A outer s H vs Q E m g;exact⟨t,h.nox,q⟩
theorem fP.binds {x c:Str}{st:Stmt}{f:Addr}{i:FuncData}{ps:aT}(F:fP K x c st f i)
  (h:∀(kV d pm:Value) (g:Option Addr) (e ct:Value) (us:cS),us.length=ps.length->bindArgs (PySem.W.fnOf x c (dD st) (cK st) (aH st) .none kV d pm g e ct) ⟨us,[]⟩=pure (ps.zip us)):eI K i ps []:=by
 obtain⟨l,od,kV,d,pm,g,e,ct,osl,rfl,m,j⟩:=F.ex;exact .all (h kV d pm g e ct)
theorem nT {x d:Str}{st:Stmt}{f:Addr}{i:Value}{od h:Option Addr}{osl:Array (Option Value)}{kV g pm e ct:Value}(l:K.lookup f=some ⟨i,od,.func (PySem.W.fnOf x d (dD st) (cK st) (aH st) .none kV g pm h e ct),osl⟩)
  (c:PySem.W.codeIn K e d=true) (k:PySem.W.keepIn K (.ref f)=true):fP K x d st f (PySem.W.fnOf x d (dD st) (cK st) (aH st) .none kV g pm h e ct):=⟨⟨i,od,kV,g,pm,h,e,ct,osl,rfl,l,c⟩,k⟩
end
section
variable {X:Cx}
theorem pv (i:Nat)(e:X.N[i]?=some x:=by rfl)(d:U5 X.env.scope x:=by first|exact Or.inl rfl|exact Or.inr (Or.inl rfl)|exact Or.inr (Or.inr rfl))(hd:(x == ("__debug__" : Str))=false:=by decide)
  (c:(x == ("__classdict__" : Str))=false:=by decide):PE X (.Name x pos) (tVar i):=K9 e d hd c
end
theorem ite2 {c A B:Prop}[Decidable c](e:c->A)(d:¬c->B):if c then A else B:=by
 by_cases h:c
 ·rw[ai h];exact e h
 ·rw[ab h];exact d h
def aG (H H':Hp):Prop:=∀b o,H b=some o->H' b=some o
theorem aG.refl (H:Hp):aG H H:=λ_ _ h=>h
theorem aG.trans (a:aG H H1)(b:aG H1 H2):aG H H2:=λc o h=>b c o (a c o h)
theorem aG.free (e:aG H H')(h:H' l=Option.none):H l=Option.none:=by
 cases q:H l with
 | none=>rfl
 | some o =>
  rw[e l o q]at h;cases h
theorem aG.seq {K:PySem.W.Frag}{H H':Hp}{a:Addr}{xs:List V}(e:aG H H')(h:eV K H a xs):eV K H' a xs:=by
 rcases h with(h|⟨o,h⟩)|h
 ·exact .inl (.inl (e _ _ h))
 ·exact .inl (.inr ⟨o,e _ _ h⟩)
 ·exact .inr h
section
variable {κ:Type}[DecidableEq κ]
noncomputable def valV (c:List (κ×V))(k:κ):Option V:=(c.find? λkv=>decide (kv.1=k)).map (·.2)
noncomputable def putK (c:List (κ×V))(k:κ)(v:V):List (κ×V) :=
 if (c.any λkv=>decide (kv.1=k))=true then c.map (λkv=>if kv.1=k then(kv.1,v)else kv)else c++[(k,v)]
theorem j9 {p:κ×V}{r:List (κ×V)}{k:κ}(e:p.1=k):valV (p::r) k=some p.2:=by simp[valV,List.find?_cons,e]
theorem kA {p:κ×V}{r:List (κ×V)}{k:κ}(e:¬p.1=k):valV (p::r) k=valV r k:=by simp[valV,List.find?_cons,e]
theorem tN (k:κ):∀c:List (κ×V),(c.any λkv=>decide (kv.1=k))=(valV c k).isSome
 | []=>rfl
 | p::r=>by
  rw[List.any_cons];by_cases e:p.1=k
  ·simp only[j9 e,bi e,Bool.true_or,Option.isSome_some]
  ·rw[kA e,bo e,Bool.false_or];exact tN k r
theorem jO (c:List (κ×V))(k:κ)(v:V):(putK c k v).length<=c.length+1:=by
 unfold putK;split
 ·rw[ae];lia
 ·rw[av,au,List.length_nil];lia
theorem putK_new {c:List (κ×V)}{k:κ}(v:V)(h:valV c k=none):putK c k v=c++[(k,v)]:=by unfold putK;rw[tN,h];exact ab (by decide)
theorem lN.isSome_eq (r:lN o u):o.isSome=u.isSome:=by
 cases o with
 | none=>cases u with
  | none=>rfl
  | some _=>exact(show False from r).elim
 | some _=>cases u with
  | none=>exact(show False from r).elim
  | some _=>rfl
theorem lN.getD (r:lN o u)(c:aQ d d'):aQ (o.getD d) (u.getD d'):=by
 cases o with
 | none=>cases u with
  | none=>exact c
  | some _=>exact(show False from r).elim
 | some _=>cases u with
  | none=>exact(show False from r).elim
  | some _=>exact r
theorem KV.val {c:List (κ×V)}{vs:List (κ×Value)}(r:KV c vs)(k:κ):lN (valV c k) (valueAt vs k):=by
 unfold KV at r
 induction r with
 | nil=>exact True.intro
 | @cons p q ps qs h t f =>
  obtain⟨d,g⟩:=h;by_cases e:p.1=k
  ·have e':q.1=k:=d.symm.trans e;have b:valueAt (q::qs) k=some q.2:=by simp[valueAt,List.find?_cons,e']
   rw[j9 e,b];exact g
  ·have e':¬q.1=k:=λz=>e (d.trans z);have b:valueAt (q::qs) k=valueAt qs k:=by simp[valueAt,List.find?_cons,e']
   rw[kA e,b];exact f
theorem KV.any {c:List (κ×V)}{vs:List (κ×Value)}(r:KV c vs)(k:κ):(c.any λkv=>decide (kv.1=k))=vs.any λkv=>decide (kv.1=k):=by
 unfold KV at r
 induction r with
 | nil=>rfl
 | cons h t d=>rw[List.any_cons,List.any_cons,d,h.1]
theorem KV.repl {c:List (κ×V)}{vs:List (κ×Value)}(r:KV c vs)(k:κ){y:V}{u:Value}(f:aQ y u) :
  KV (c.map λkv=>if kv.1=k then(kv.1,y)else kv) (vs.map λkv=>if kv.1=k then(kv.1,u)else kv):=by
 unfold KV at r⊢
 induction r with
 | nil=>exact .nil
 | @cons p q ps qs h t g =>
  rw[bf,bf];refine .cons ?_ g;obtain⟨d,i⟩:=h;by_cases e:p.1=k
  ·rw[ai e,ai (d.symm.trans e)];exact⟨d,f⟩
  ·rw[ab e,ab (λz=>e (d.trans z))];exact⟨d,i⟩
theorem KV.put {c:List (κ×V)}{vs:List (κ×Value)}(r:KV c vs)(k:κ){y:V}{u:Value}(d:aQ y u):KV (putK c k y) (stored vs k u):=by
 unfold putK stored;rw[r.any k];by_cases e:(vs.any λkv=>decide (kv.1=k))=true
 ·rw[ai e,ai e];exact r.repl k d
 ·rw[ab e,ab e];exact Paired.snoc r ⟨rfl,d⟩
theorem KV.length {c:List (κ×V)}{vs:List (κ×Value)}(r:KV c vs):c.length=vs.length:=Paired.length r
end
theorem oZ (r:aQ (kV k) u):(bW P w).is k u=true:=by
 cases k with
 | inl i=>obtain⟨t,e⟩:=(show ∃t,u=Value.int i t from r);subst e;exact B4 P w i t
 | inr x=>obtain⟨t,e⟩:=(show ∃t,u=Value.str x t from r);subst e;exact B3 P w x t
theorem xT:∀{ks:List cM} {us:cS},aR (ks.map kV) us->ItemsAre (bW P w) ks us
 | [],_,r=>by rw[List.map_nil]at r;cases r;exact .nil
 | k::ks,_,r=>by
  rw[bf]at r;cases r with
  | cons h t=>exact .cons (oZ h) (xT t)
abbrev KT (H:Hp):List (List cM×V)->List (List cM×Addr×Value)->Prop:=Paired λp q=>p.1=q.1/\H q.2.1=some (.tup (p.1.map kV))/\aQ p.2 q.2.2
theorem KT.val (r:KT H kvs xs)(k:List cM):lN (valV kvs k) ((atKey xs k).map (·.2)):=by
 induction r with
 | nil=>exact True.intro
 | @cons p q ps qs h t d =>
  obtain⟨c,_,f⟩:=h;by_cases e:p.1=k
  ·have e':q.1=k:=c.symm.trans e;have b:atKey (q::qs) k=some q.2:=by simp[atKey,List.find?_cons,e']
   rw[j9 e,b];exact f
  ·have e':¬q.1=k:=λz=>e (c.trans z);have b:atKey (q::qs) k=atKey qs k:=by simp[atKey,List.find?_cons,e']
   rw[kA e,b];exact d
theorem KT.repl (r:KT H kvs xs)(k:List cM)(f:aQ y u) :
  KT H (kvs.map λkv=>if kv.1=k then(kv.1,y)else kv) (xs.map (putAt k u)):=by
 induction r with
 | nil=>exact .nil
 | @cons p q ps qs h t g =>
  rw[bf,bf];refine .cons ?_ g;obtain⟨c,d,i⟩:=h;unfold putAt;by_cases e:p.1=k
  ·rw[ai e,ai (c.symm.trans e)];exact⟨c,d,f⟩
  ·rw[ab e,ab (λz=>e (c.trans z))];exact⟨c,d,i⟩
theorem KT.put (r:KT H kvs xs)(k:List cM)(hb:H b=some (.tup (k.map kV)))(c:aQ y u) :
  KT H (putK kvs k y) (storedH xs k b u):=by
 have e:(kvs.any λkv=>decide (kv.1=k))=(atKey xs k).isSome:=by rw[tN,(r.val k).isSome_eq,Option.isSome_map]
 unfold putK storedH;rw[e];by_cases q:(atKey xs k).isSome=true
 ·rw[ai q,ai q];exact r.repl k c
 ·rw[ab q,ab q];exact Paired.snoc r ⟨rfl,hb,c⟩
theorem KT.keeps (r:KT H kvs xs)(c:∀b ys,H b=some (.tup ys)->H' b=some (.tup ys)):KT H' kvs xs :=
 Paired.mapP r λ_ _ z=>⟨z.1,c _ _ z.2.1,z.2.2⟩
section
variable {P:Program}{w:World}{H:Hp}{h:Heap}{a:Addr}
theorem Q4 (ok:gQ P w H h)(e:Rd H a u):cD P w H h a u:=e.ok ok
theorem rH (ok:gQ P w H h)(e:Rd H a (.dK kvs)):kvs.length<=sizeLine/\(a == sysModules)=false/\∃vs,KV kvs vs/\h.DictOf (bW P w) a vs :=
 show cD P w H h a (.dK kvs)from Q4 ok e
theorem RB (ok:gQ P w H h)(e:H a=some (.dK kvs)):kvs.length<=sizeLine/\(a == sysModules)=false/\∃vs,KV kvs vs/\h.DictOf (bW P w) a vs:=rH ok (.inl e)
theorem qK (ok:gQ P w H h)(e:H a=some (.tup (ks.map kV))):(tupleKind (bW P w)).is h ks a:=by
 obtain⟨_,its,r,o,f,d,n,c⟩:=(show cD P w H h a (.tup (ks.map kV))from ok a _ e)
 exact⟨o,its.toArray,n,f,d,c,by simpa using xT r⟩
theorem vB (ok:gQ P w H h)(e:Rd H a (.dT kvs)):kvs.length<=sizeLine/\(a == sysModules)=false /\
  ∃xs,KT H kvs xs/\h.DictOfH (tupleKind (bW P w)) a xs:=by
 obtain⟨z,y,xs,r,o,v,A,u,s,j,i,g⟩:=(show cD P w H h a (.dT kvs)from Q4 ok e)
 refine⟨z,y,xs,r,o,v,A,u,s,j,i,λx c=>?_,g⟩;have all:∀{l:List (List cM×V)} {m:List (List cM×Addr×Value)},KT H l m->∀x∈m,(tupleKind (bW P w)).is h x.1 x.2.1:=by
  intro l m q
  induction q with
  | nil=>intro x c;exact nomatch c
  | @cons p q ps qs d t f =>
   intro x c;rcases cu.mp c with e|c
   ·subst e;exact qK ok (by rw[←d.1];exact d.2.1)
   ·exact f x c
 exact all r x c
theorem UR (ok:gQ P w H h)(e:H a=some (.dT kvs)):kvs.length<=sizeLine/\(a == sysModules)=false /\
  ∃xs,KT H kvs xs/\h.DictOfH (tupleKind (bW P w)) a xs:=vB ok (.inl e)
end
def jE (H:Hp)(a:Addr)(y:V)(r:Option V):Prop :=
 (∃c k,Rd H a (.dK c)/\y=kV k/\r=valV c k)∨∃c k b,Rd H a (.dT c)/\y = .ref b/\H b=some (.tup (k.map kV))/\r=valV c k
def J3 (H:Hp)(a:Addr)(y v:V)(H':Hp):Prop :=
 (∃c k,H a=some (.dK c)/\y=kV k/\c.length<sizeLine/\H'=upd H a (.dK (putK c k v))) ∨
 ∃c k b,H a=some (.dT c)/\y = .ref b/\H b=some (.tup (k.map kV))/\c.length<sizeLine/\H'=upd H a (.dT (putK c k v))
theorem jE.k {H:Hp}{a:Addr}{c:List (cM×V)}{k:cM}(e:H a=some (.dK c)):jE H a (kV k) (valV c k):=.inl ⟨c,k,.inl e,rfl,rfl⟩
theorem J3.k {H:Hp}{a:Addr}{c:List (cM×V)}{k:cM}{v:V}(e:H a=some (.dK c))(d:c.length<sizeLine):J3 H a (kV k) v (upd H a (.dK (putK c k v))):=.inl ⟨c,k,e,rfl,d,rfl⟩
section
variable {X:Cx}{pins:cW}{σ:St}{H:Hp}{s:Shared}{a:Addr}{y v:V}{u r:Value}{o:Option V}{A:Around}{E:cJ}
theorem aN.big (I:aN X pins σ H s):sysModules<s.heap.objs.size:=by have h:mainGlobals<s.heap.objs.size:=(I.mod.glob.keeps I.bk).lt;exact Nat.lt_trans (by decide) h
theorem JO {Q:cJ}(B:A.units+1<cLine)(I:aN X pins σ H s)(g:jE H a y (some v))(x:aQ y u)(h:∀f t,aN X pins σ H t->aQ v f->Q f t) :
  wpAny (model X.prog X.w) A (getItem (.ref a) u) Q E s:=by
 rcases g with⟨i,k,e,q,l⟩|⟨i,k,b,e,q,F,l⟩
 ·subst q;obtain⟨z,hd,vs,d,r⟩:=rH I.hok e;obtain⟨f,j,c⟩:=lN.some_of (v:=v) (o:=valueAt vs k) (by rw[l];exact d.val k);exact wpAny_getItem_of (oZ x) r.mapOf j (h f _ (I.tok _) c)
 ·subst q;cases (show u=Value.ref b from x);obtain⟨z,hd,xs,d,r⟩:=vB I.hok e;obtain⟨f,j,c⟩:=lN.some_of (v:=v) (o:=(atKey xs k).map (·.2)) (by rw[l];exact d.val k);obtain⟨p,C,m⟩:=Option.map_eq_some_iff.mp j;refine wpAny_getItem_heap (tupleKind_room_in1 B) (qK I.hok F) r C ?_;rw[m];exact h f _ (I.tok _) c
theorem QH {Q:cJ}(p:A.units+1<cLine)(I:aN X pins σ H s)(g:jE H a y o)(m:aQ y u)(h:∀j,aN X pins σ H j->Q (.bool (!o.isSome)) j) :
  wpAny (model X.prog X.w) A (compareOp .NotIn u (.ref a)) Q E s:=by
 rcases g with⟨d,k,e,f,l⟩|⟨d,k,b,e,f,r,l⟩
 ·subst f;obtain⟨z,hd,vs,c,i⟩:=rH I.hok e;refine wpAny_notIn_of (oZ m) hd i.mapOf ?_;rw[←(c.val k).isSome_eq,←l];exact h _ (I.tok _)
 ·subst f;cases (show u=Value.ref b from m);obtain⟨z,hd,xs,c,i⟩:=vB I.hok e;refine wpAny_notIn_heap (tupleKind_room_in1 p) (qK I.hok r) hd i ?_;have q:=(c.val k).isSome_eq;rw[Option.isSome_map]at q;rw[←q,←l];exact h _ (I.tok _)
theorem tG {h':Heap}{t':Nat}{c:HO}(I:aN X pins σ H s)(d:U2 (H a))(f:Heap.SameBut a s.heap h')(g:∃q,h'.get? a=some q)(new:cD X.prog X.w (upd H a c) h' a c) :
  aN X pins σ (upd H a c) {s with heap:=h',toks:=t'} :=
 I.write (x:=a) (e:=a) d (.inl rfl) (λb q hb z=>(f.2 b hb).trans z) g new
theorem M0 (z:kvs.length<=sizeLine)(hd:(a == sysModules)=false)(c:KV kvs vs)(d:h'.DictOf (bW P w) a vs) :
  cD P w H' h' a (.dK kvs):=⟨z,hd,vs,c,d⟩
theorem JN {H':Hp}{Q:Unit->Shared->Prop}(K:A.units+1<cLine)(I:aN X pins σ H s)(g:J3 H a y v H')(C:aQ y u)(F:aQ v r)(h:∀B,aN X pins σ H' B->Q () B) :
  wpAny (model X.prog X.w) A (setItem (.ref a) u r) Q E s:=by
 rcases g with⟨f,k,e,p,l,t⟩|⟨f,k,b,e,p,J,l,t⟩
 ·subst p t;obtain⟨z,hd,vs,d,x⟩:=RB I.hok e;have hz:vs.length<=sizeLine:=by rw[←d.length];exact z
  have o:(putK f k v).length<=sizeLine:=by have:=jO f k v;lia
  refine wpAny_setItem_pairs (hsz:=hz) (oZ C) x λh' i m=>h _ ?_;have L:∃q,h'.get? a=some q:=let⟨q,_,_,j,_⟩:=i;⟨q,j⟩;exact tG I (by rw[e];exact True.intro) m L (M0 o hd (d.put k F) i)
 ·subst p t;cases (show u=Value.ref b from C);obtain⟨z,hd,xs,d,x⟩:=UR I.hok e;have hz:xs.length<=sizeLine:=by rw[←Paired.length d];exact z
  have o:(putK f k v).length<=sizeLine:=by have:=jO f k v;lia
  refine wpAny_setItem_heap (hsz:=hz) (tupleKind_room_in1 K) (qK I.hok J) x λh' i m=>h _ ?_;obtain⟨q,S,T,j,R,P,O,_,N⟩:=i;refine tG I (by rw[e];exact True.intro) m ⟨q,j⟩ ⟨o,hd,_,(d.put k J F).keeps λc ys G=>?_,q,S,T,j,R,P,O,N⟩;rw[aC (UO G e (λz=>nomatch z))];exact G
end
section
variable {X:Cx}{pins:cW}{σ:St}{H:Hp}{s:Shared}{a:Addr}{kvs:List (cM×V)}{k:cM}{u:Value}{A:Around}{E:cJ}
theorem US {Q:cJ}(I:aN X pins σ H s)(e:Rd H a (.dK kvs))(h:∀t d,aN X pins σ H d->Q (.int kvs.length t) d):wpAny (model X.prog X.w) A (call (.builtin "len") [.ref a]) Q E s:=by obtain⟨z,hd,vs,c,f⟩:=rH I.hok e;refine call_len_dict hd f (by rw[←c.length];rw[sizeLine_eq]at z;lia) ?_;rw[←c.length];exact h _ _ (I.tok _)
end
def U0 (i:Expr):Prop:=∀c iv,subscripted i false c iv=operate [c,iv] (getItem c iv)
theorem NW {prog:Program}{w:World}{A:Around}{E:cJ}{s:Shared}{env:Env}{d c:Expr}{f:Pos}{T id:String}{Q:cJ}
  (u:typeLookup (.type T) "__getitem__" = pure (some (.builtin id))) (t:U0 c)
  (h:wpAny (model prog w) A (eval d env) (λo l=>wpAny (model prog w) A (eval c env) (λi e=>e.TypeIs o T/\wpAny (model prog w) A (getItem o i) Q E e) E l) E s) :
  wpAny (model prog w) A (eval (.Subscript d c f) env) Q E s:=by
 refine Subscript_ (wpAny_mono h (λo l q=>wpAny_mono q (λi e g=>?_) λ_ _ x=>x) λ_ _ x=>x);obtain⟨m,g⟩:=g;unfold subscriptTail;refine aa ?_;rw[getitemInPython_of_ne m.not_modules];refine aa (wpAny_specialOf m u ?_);have fin:wpAny (model prog w) A (subscripted c false o i) (λr j=>wpAny (model prog w) A (letTemporaryGo d o r >>= λ_=>pure r) Q E j) E e:=by rw[t o i];exact wpAny_operating (wpAny_mono g (λr j p=>aa (wpAny_letTemporaryGo (ao p))) λ_ _ x=>x)
 first
  | exact ao (aa fin)
  | exact aa (ao (aa fin))
  | exact aa fin
theorem CY {X:Cx}{c:cW}{σ:St}{H:Hp}{s:Shared}{a:Addr}{y:V}{o:Option V}(I:aN X c σ H s)(g:jE H a y o):s.TypeIs (.ref a) "dict":=by
 rcases g with⟨d,k,e,_,_⟩|⟨d,k,b,e,_,_,_⟩
 ·obtain⟨_,_,vs,_,f⟩:=rH I.hok e;exact f.typeIs
 ·obtain⟨_,_,xs,_,f⟩:=vB I.hok e;exact f.typeIs
def tDGet (d ty:TE):TE:=λσ H Q=>d σ H λx e=>ty σ e λy c=>∃a v,x = .ref a/\jE c a y (some v)/\Q v c
def sDPut (e ty d:TE):TS:=λD σ H=>d σ H λv h=>e σ h λx g=>ty σ g λy f=>∃a c,x = .ref a/\J3 f a y v c/\D.nx σ c
section
variable {X:Cx}{o i e value:Expr}{pos pos' tpos:Pos}{td ty tv:TE}
theorem GA (q:X.A.units+1<cLine)(ho:PE X o td)(hi:PE X i ty)(r:U0 i):PE X (.Subscript o i pos) (tDGet td ty):=by intro c s σ H Q I h;refine NW PySem.F.slot_dict_getitem.lookup r (thn (ho c s σ H _ I h) λu f ⟨x,B,w,l,p⟩=>thn (hi c f σ B _ w p) λiv s2 ⟨y,z,e,j,a,v,ex,g,m⟩=>?_);subst ex;obtain rfl:u=Value.ref a:=l;exact⟨CY e g,JO q e g j λC E t d=>⟨v,z,t,d,m⟩⟩
theorem F7 (t:X.A.units+1<cLine)(ho:PE X o td)(hi:PE X i ty)(q:PE X value tv)(w:swapsWith value (some (.Subscript o i pos')) pos.line X.env=pure false) :
  PS X (.Assign [.Subscript o i pos'] value pos) (sDPut td ty tv):=by
 intro c s σ H D I h;refine wpAny_Assign_Subscript (thn (q c s σ H _ I h) λr d ⟨v,J,E,j,p⟩=>thn (ho c d σ J _ E p) λu s2 ⟨x,G,C,f,m⟩=>thn (hi c s2 σ G _ C m) λiv L ⟨y,N,B,e,a,F,ex,g,l⟩=>?_) w;subst ex;obtain rfl:u=Value.ref a:=f;exact JN t B g e j λK z=>⟨σ,F,z,l⟩
end
theorem M4 (h:Heap)(hb:sysModules<h.objs.size):cD P w H (h.push {cls:=.type "dict",data:=.dict #[]}) h.objs.size (.dK []) :=
 ⟨ax _,cy.mpr (Ne.symm (bq hb)),[],.nil,Heap.DictOf.new h⟩
def KH:TE:=λ_ H Q=>∀p,H p=none->Q (.ref p) (upd H p (.dK []))
section
variable {X:Cx}{pos:Pos}
theorem BN:PE X (.Dict [] [] pos) KH:=λc s σ H Q I h =>
 wpAny_Dict_empty ⟨.ref s.heap.objs.size,_,I.laid (a:=s.heap.objs.size) (o:=.dK []) (t':=s.toks) (λ_ _ q=>af _ q) (ac _) (M4 s.heap I.big),rfl,h _ (I.hok.fresh (ac _))⟩
end
noncomputable def jV (c more:List (cM×V)):List (cM×V):=more.foldl (λd kv=>putK d kv.1 kv.2) c
theorem KV.merge:∀{more:List (cM×V)} {rs:List (cM×Value)} {c:List (cM×V)} {vs:List (cM×Value)},KV more rs->KV c vs->KV (jV c more) (merged vs rs):=by
 intro more rs c vs r;unfold KV at r
 induction r generalizing c vs with
 | nil=>intro q;exact q
 | @cons p q ps qs h t f =>
  intro d;have e:KV (putK c p.1 p.2) (stored vs q.1 q.2):=by have:=d.put p.1 h.2;rw[←h.1];exact this
  exact f e
theorem m6:∀(more c:List (cM×V)),(jV c more).length<=c.length+more.length
 | [],c=>by show c.length<=c.length+0;lia
 | p::r,c=>by have e:=m6 r (putK c p.1 p.2);have d:=jO c p.1 p.2;show(jV (putK c p.1 p.2) r).length<=_;rw[au];lia
structure M1 (X:Cx)(o:Expr)(m:Str)(apos:Pos)(e:Expr)(cpos:Pos):Prop where
 base:attributeBase o m X.env (eval o X.env)=eval o X.env
 few:((backTo cpos (starEach [e] X.env)).all (λx=>!x.1) && (backToKw cpos (keywordEach [] X.env)).all (λx=>x.1.isSome)
  && decide (([e]:pO).length+([]:List Keyword).length+(if ([]:List Keyword).isEmpty then 0 else 1)<30))=true
 line:(apos.endLine == cpos.line)=true
 trees:backTo cpos (starEach [e] X.env)=[(false,eval e X.env)]
structure M2 (X:Cx)(o:Expr)(m:Str)(apos:Pos)(e f:Expr)(cpos:Pos):Prop where
 base:attributeBase o m X.env (eval o X.env)=eval o X.env
 few:((backTo cpos (starEach [e,f] X.env)).all (λx=>!x.1) && (backToKw cpos (keywordEach [] X.env)).all (λx=>x.1.isSome)
  && decide (([e,f]:pO).length+([]:List Keyword).length+(if ([]:List Keyword).isEmpty then 0 else 1)<30))=true
 line:(apos.endLine == cpos.line)=true
 trees:backTo cpos (starEach [e,f] X.env)=[(false,eval e X.env),(false,eval f X.env)]
def VL (H:Hp)(a:Addr):Prop:=(∃c,Rd H a (.dK c))∨∃c,Rd H a (.dT c)
theorem E6 {X:Cx}{f:cW}{σ:St}{H:Hp}{s:Shared}{a:Addr}(I:aN X f σ H s)(d:VL H a) :
  s.TypeIs (.ref a) "dict"/\(∀b,Value.ref a = .ref b->∃c,s.heap.get? b=some c/\c.dict=none)/\(a == sysModules)=false:=by
 rcases d with⟨h,e⟩|⟨h,e⟩
 ·obtain⟨_,hd,vs,_,g⟩:=rH I.hok e;refine⟨g.typeIs,λb q=>?_,hd⟩;cases q;obtain⟨c,_,_,j,i,_⟩:=g;exact⟨c,j,i.2.1⟩
 ·obtain⟨_,hd,xs,_,g⟩:=vB I.hok e;refine⟨g.typeIs,λb q=>?_,hd⟩;cases q;obtain⟨c,_,_,j,i,_⟩:=g;exact⟨c,j,i.2.1⟩
section
variable {X:Cx}{pins:cW}{σ:St}{H:Hp}{s:Shared}{a:Addr}{y d:V}{u r:Value}{o:Option V}{A:Around}{E:cJ}
theorem TV {Q:cJ}(q:A.units+1<cLine)(I:aN X pins σ H s)(g:jE H a y o)(p:aQ y u)(h:∀j m,aN X pins σ H m->aQ (o.getD .non) j->Q j m) :
  wpAny (model X.prog X.w) A (call (.builtin "dict.get") [.ref a,u]) Q E s:=by
 rcases g with⟨f,k,e,i,l⟩|⟨f,k,b,e,i,r,l⟩
 ·subst i;obtain⟨z,hd,vs,c,d⟩:=rH I.hok e;refine call_meetsIn PySem.F.slot_dict_get d.typeIs PySem.F.entry_dict_get (PySem.F.args_dict_get_2 _ _) (meets_dict_get (bW X.prog X.w) a (oZ p) hd) ⟨_,d.mapOf,h _ _ (I.tok _) ?_⟩;rw[l];exact(c.val k).getD rfl
 ·subst i;cases (show u=Value.ref b from p);obtain⟨z,hd,xs,c,d⟩:=vB I.hok e;refine call_meetsIn PySem.F.slot_dict_get d.typeIs PySem.F.entry_dict_get (PySem.F.args_dict_get_2 _ _) (meetsH_dict_get (tupleKind (bW X.prog X.w)) a b hd) ⟨tupleKind_room_in1 q,k,xs,qK I.hok r,d,h _ _ (I.tok _) ?_⟩;rw[l];exact(c.val k).getD rfl
theorem TU {Q:cJ}(v:A.units+1<cLine)(I:aN X pins σ H s)(g:jE H a y o)(q:aQ y u)(t:aQ d r)(h:∀m p,aN X pins σ H p->aQ (o.getD d) m->Q m p) :
  wpAny (model X.prog X.w) A (call (.builtin "dict.get") [.ref a,u,r]) Q E s:=by
 rcases g with⟨i,k,e,j,l⟩|⟨i,k,b,e,j,x,l⟩
 ·subst j;obtain⟨z,hd,vs,c,f⟩:=rH I.hok e;refine call_meetsIn PySem.F.slot_dict_get f.typeIs PySem.F.entry_dict_get (PySem.F.args_dict_get_3 _ _ _) (meets_dict_get_default (bW X.prog X.w) a (oZ q) hd r) ⟨_,f.mapOf,h _ _ (I.tok _) ?_⟩;rw[l];exact(c.val k).getD t
 ·subst j;cases (show u=Value.ref b from q);obtain⟨z,hd,xs,c,f⟩:=vB I.hok e;refine call_meetsIn PySem.F.slot_dict_get f.typeIs PySem.F.entry_dict_get (PySem.F.args_dict_get_3 _ _ _) (meetsH_dict_get_default (tupleKind (bW X.prog X.w)) a b hd r) ⟨tupleKind_room_in1 v,k,xs,qK I.hok x,f,h _ _ (I.tok _) ?_⟩;rw[l];exact(c.val k).getD t
end
def RX (e ty:TE):TE:=λσ H Q=>e σ H λx d=>∃a,x = .ref a/\VL d a/\ty σ d λy c=>∃o,jE c a y o/\Q (o.getD .non) c
def RW (f ty e:TE):TE:=λσ H Q=>f σ H λx d=>∃a,x = .ref a/\VL d a/\ty σ d λy g=>e σ g λz c=>∃o,jE c a y o/\Q (o.getD z) c
section
variable {X:Cx}{o e f:Expr}{apos cpos:Pos}{td ty tx:TE}
theorem BO (v:X.A.units+1<cLine)(ho:PE X o td)(w:PE X e ty)(m:M1 X o "get" apos e cpos):PE X (.Call (.Attribute o "get" apos) [e] [] cpos) (RX td ty):=by intro c s σ H Q I h;refine wpAny_Call_method m.base m.few m.line PySem.F.plainAttrs_dict PySem.F.slot_dict_get PySem.F.type_dict_get (thn (ho c s σ H _ I h) λu l ⟨x,E,i,q,a,ex,d,t⟩=>?_);subst ex;obtain rfl:u=Value.ref a:=q;obtain⟨t1,j,_⟩:=E6 i d;refine⟨t1,j,?_⟩;rw[m.trees];refine Calls.callWith_builtin rfl (Calls.evalArgs_plain (Calls.spliced_cons (thn (w c l σ E _ i t) λiv s2 ⟨y,C,B,p,K,g,r⟩=>Calls.spliced_nil ?_)));exact TV v B g p λG J z f=>⟨_,C,z,f,r⟩
theorem uI (C:X.A.units+1<cLine)(ho:PE X o td)(G:PE X e ty)(E:PE X f tx)(m:M2 X o "get" apos e f cpos):PE X (.Call (.Attribute o "get" apos) [e,f] [] cpos) (RW td ty tx):=by
 intro c s σ H Q I h;refine wpAny_Call_method m.base m.few m.line PySem.F.plainAttrs_dict PySem.F.slot_dict_get PySem.F.type_dict_get (thn (ho c s σ H _ I h) λu p ⟨x,P,j,t,a,ex,d,B⟩=>?_);subst ex;obtain rfl:u=Value.ref a:=t;obtain⟨t1,l,_⟩:=E6 j d;refine⟨t1,l,?_⟩;rw[m.trees]
 refine Calls.callWith_builtin rfl (Calls.evalArgs_plain (Calls.spliced_cons (thn (G c p σ P _ j B) λiv s2 ⟨y,O,L,r,w⟩ =>
  Calls.spliced_cons (thn (E c s2 σ O _ L w) λW T ⟨z,N,K,q,U,g,v⟩=>Calls.spliced_nil ?_))))
 exact TU C K g r q λR S J i=>⟨_,N,J,i,v⟩
end
section
variable {κ:Type}[DecidableEq κ]
theorem GG:∀{l:List κ} {k:κ},l.Nodup->¬k∈l->(l++[k]).Nodup
 | [],k,_,_=>by simp
 | a::r,k,h,c=>by
  obtain⟨e,d⟩:=cz.mp h;show(a::(r++[k])).Nodup;refine cz.mpr ⟨λm=>?_,GG d λm=>c (cu.mpr (Or.inr m))⟩;rcases cw.mp m with q|q
  ·exact e q
  ·exact c (cu.mpr (Or.inl (cs.mp q).symm))
end
section
variable {X:Cx}
theorem JV:cN X (.builtin "len") (λxs H Q=>∃a c,xs=[V.ref a]/\H a=some (.dK c)/\Q (.int c.length) H):=by intro d s σ H xs us Q I r h;obtain⟨a,c,rfl,f,q⟩:=h;obtain⟨u,rfl,e⟩:=vals1 r;cases e;exact US I (.inl f) λt i g=>⟨.int c.length,H,g,⟨t,rfl⟩,q⟩
end
noncomputable def closL (cells:List (Str×Addr)):List (Str×NameKind)->List (Str×Addr)->List (Str×Addr)
 | [],c=>c
 | (n,k)::r,c=>closL cells r (if k = .free then(n,(cells.lookup n).getD 0)::c else c)
theorem wJ (h:∀x∈scope.names,x.2 = .free->∃c,env.cells.lookup x.1=some c):closureFor scope env=pure (closL env.cells scope.names []):=by
 have go:∀(l:List (Str×NameKind)) (d:List (Str×Addr)),(∀x∈l,x.2 = .free->∃c,env.cells.lookup x.1=some c) ->
   (forIn l d λ(x:Str×NameKind) (r:List (Str×Addr))=>match x with|(name,kind)=>if (kind == NameKind.free)=true then do let a ←cellOf env name;pure (ForInStep.yield ((name,a)::r))else pure (ForInStep.yield r):Sem (List (Str×Addr)))=pure (closL env.cells l d):=by
  intro l
  induction l with
  | nil=>intro d _;rfl
  | cons x r f =>
   intro d g;obtain⟨n,k⟩:=x;have i:=λy j=>g y (bc _ j);rw[List.forIn_cons];by_cases e:k = .free
   ·subst e;obtain⟨c,hc⟩:=g (n,.free) ay rfl;have hc':List.lookup n env.cells=some c:=hc;have o:cellOf env n=pure c:=by unfold cellOf;rw[hc']
    simp only[beq_self_eq_true,if_true,o,pure_bind];rw[f _ i];show _=pure (closL env.cells r (if NameKind.free = .free then(n,(env.cells.lookup n).getD 0)::d else d));rw[ai rfl,hc'];rfl
   ·have hb:(k == NameKind.free)=false:=by simpa using e
    simp only[hb,Bool.false_eq_true,if_false,pure_bind];rw[f _ i];show _=pure (closL env.cells r (if k = .free then(n,(env.cells.lookup n).getD 0)::d else d));rw[ab e]
 exact(congrArg (λ(m:Sem (List (Str×Addr)))=>m >>= λs=>pure s) (go scope.names [] h)).trans rfl
theorem yC:∀(l:List (Str×NameKind)) (f:List (Str×Addr)),(closL cells l f).lookup x=some c->f.lookup x=some c∨(x,NameKind.free)∈l/\c=(cells.lookup x).getD 0
 | [],_,h=>.inl h
 | (n,k)::r,f,h=>by
  unfold closL at h;rcases yC r _ h with q|⟨q,e⟩
  ·by_cases d:k = .free
   ·rw[ai d]at q;rw[ca]at q;by_cases g:x=n
    ·subst g;rw[beq_self_eq_true]at q;subst d;exact .inr ⟨ay,(Option.some.inj q).symm⟩
    ·have hb:(x == n)=false:=by simpa using g
     rw[hb]at q;exact .inl q
   ·rw[ab d]at q;exact .inl q
  ·exact .inr ⟨bc _ q,e⟩
theorem yD:∀(l:List (Str×NameKind)) (c:List (Str×Addr)),((x,NameKind.free)∈l∨(c.lookup x).isSome)->((closL cells l c).lookup x).isSome
 | [],c,h=>by
  rcases h with h|h
  ·cases h
  ·exact h
 | (n,k)::r,c,h=>by
  unfold closL;refine yD r _ ?_;by_cases f:k = .free
  ·rw[ai f,ca];by_cases d:x=n
   ·subst d;rw[beq_self_eq_true];exact .inr rfl
   ·have hb:(x == n)=false:=by simpa using d
    rw[hb];rcases h with h|h
    ·rcases cu.mp h with e|e
     ·cases e;exact absurd rfl d
     ·exact .inl e
    ·exact .inr h
  ·rw[ab f];rcases h with h|h
   ·rcases cu.mp h with e|e
    ·cases e;exact absurd rfl f
    ·exact .inl e
   ·exact .inr h
theorem lX {α β:Type}[BEq α][LawfulBEq α]{x:α}{v:β}:∀{l:List (α×β)},l.lookup x=some v->(x,v)∈l
 | [],h=>by simp at h
 | (n,k)::r,h=>by
  rw[ca]at h;by_cases e:x=n
  ·subst e;rw[beq_self_eq_true]at h;cases h;exact ay
  ·have hb:(x == n)=false:=by simpa using e
   rw[hb]at h;exact bc _ (lX h)
theorem kZ {env:Env}{x:Str}:∀{names:List (Str×NameKind)} {c:NameKind},(∀y∈names,y.2≠.cell) ->
  (names.map λ(n,k)=>if (k == NameKind.free && env.scope.kind == .function && env.kindOf n == some .cell)then(n,NameKind.cell)else(n,k)).lookup x=some c->(c = .cell∨c = .free)->names.lookup x=some .free
 | [],_,_,h,_=>by simp at h
 | (n,k)::r,c,hc,h,d=>by
  have f:=@kZ env x r c (λy i=>hc y (bc _ i));have j:=hc (n,k) ay;have h:List.lookup x ((if (k == NameKind.free && env.scope.kind == .function && env.kindOf n == some .cell)=true then(n,NameKind.cell)else(n,k))::_)=some c:=h;by_cases g:x=n
  ·subst g;rw[ca,beq_self_eq_true];by_cases q:(k == NameKind.free && env.scope.kind == .function && env.kindOf x == some .cell)=true
   ·simp only[Bool.and_eq_true,beq_iff_eq]at q;show some k=some .free;rw[q.1.1]
   ·rw[ab q,ca,beq_self_eq_true]at h;have h:some k=some c:=h;cases h;rcases d with e|e
    ·exact absurd e j
    ·show some k=some .free;rw[e]
  ·have hb:(x == n)=false:=by simpa using g
   rw[ca,hb];by_cases q:(k == NameKind.free && env.scope.kind == .function && env.kindOf n == some .cell)=true
   ·rw[ai q,ca,hb]at h;exact f h d
   ·rw[ab q,ca,hb]at h;exact f h d
theorem lH {env:Env}{x:Str}:∀{names:List (Str×NameKind)},names.lookup x=some .free ->
  (names.map λ(n,k)=>if (k == NameKind.free && env.scope.kind == .function && env.kindOf n == some .cell)then(n,NameKind.cell)else(n,k)).lookup x=some .cell ∨
  (names.map λ(n,k)=>if (k == NameKind.free && env.scope.kind == .function && env.kindOf n == some .cell)then(n,NameKind.cell)else(n,k)).lookup x=some .free
 | [],h=>by simp at h
 | (n,k)::r,h=>by
  have c:=@lH env x r;show List.lookup x ((if (k == NameKind.free && env.scope.kind == .function && env.kindOf n == some .cell)=true then(n,NameKind.cell)else(n,k))::_)=_∨List.lookup x ((if (k == NameKind.free && env.scope.kind == .function && env.kindOf n == some .cell)=true then(n,NameKind.cell)else(n,k))::_)=_;by_cases d:x=n
  ·subst d;rw[ca,beq_self_eq_true]at h;have h:some k=some .free:=h;cases h;by_cases q:(NameKind.free == NameKind.free && env.scope.kind == .function && env.kindOf x == some .cell)=true
   ·rw[ai q,ca,beq_self_eq_true];exact .inl rfl
   ·rw[ab q,ca,beq_self_eq_true];exact .inr rfl
  ·have hb:(x == n)=false:=by simpa using d
   rw[ca,hb]at h;by_cases q:(k == NameKind.free && env.scope.kind == .function && env.kindOf n == some .cell)=true
   ·rw[ai q,ca,hb];exact c h
   ·rw[ab q,ca,hb];exact c h
noncomputable def srcOk (N:aT)(names:List (Str×NameKind)):List (Option Nat)->aT->Bool
 | [],[]=>true
 | none::r,_::n=>srcOk N names r n
 | some i::r,x::n=>N[i]? == some x && names.lookup x == some .free && srcOk N names r n
 | _,_=>false
theorem pU:∀{src:List (Option Nat)} {n:aT},srcOk N names src n=true->src.length=n.length
 | [],[],_=>rfl
 | none::r,_::n,h=>by simp[pU (src:=r) (n:=n) h]
 | some i::r,x::n,h=>by
  simp only[srcOk,Bool.and_eq_true]at h;simp[pU (src:=r) (n:=n) h.2]
 | [],_::_,h=>by simp[srcOk]at h
 | none::_,[],h=>by simp[srcOk]at h
 | some _::_,[],h=>by simp[srcOk]at h
theorem pV:∀{src:List (Option Nat)} {n:aT} {j i:Nat} {x:Str},srcOk N names src n=true->src[j]?=some (some i)->n[j]?=some x->N[i]?=some x/\names.lookup x=some .free
 | [],_,_,_,_,_,h,_=>by simp at h
 | _::_,[],_,_,_,_,_,h=>by simp at h
 | none::r,_::n,0,_,_,_,h,_=>by simp at h
 | none::r,_::n,j+1,_,_,h,d,c=>pV (src:=r) (n:=n) (j:=j) h (by simpa using d) (by simpa using c)
 | some k::r,y::n,0,i,x,h,d,c=>by
  simp at d c;subst d c;simp only[srcOk,Bool.and_eq_true,beq_iff_eq]at h;exact h.1
 | some _::r,_::n,j+1,_,_,h,d,c=>by simp only[srcOk,Bool.and_eq_true]at h;exact pV (src:=r) (n:=n) (j:=j) h.2 (by simpa using d) (by simpa using c)
structure bF (X:Cx)(scope:Scope)(N':aT)(src:List (Option Nat)):Prop where
 kind:scope.kind = .function
 cell:∀y∈scope.names,y.2≠.cell
 names:∀y∈scope.names,y.2 = .local->scope.names.lookup y.1=some .local
 free:∀y∈scope.names,y.2 = .free->(X.env.scope.names.lookup y.1=some .cell∨X.env.scope.names.lookup y.1=some .free)
 nd:N'.Nodup
 map:srcOk X.N scope.names src N'=true
noncomputable def stC (src:List (Option Nat))(σ:St):St:=src.map λo=>o.bind λi=>(σ[i]?).join
noncomputable def blk (X:Cx)(scope:Scope)(N':aT)(C:Addr)(c:Shared)(H₂:Hp)(fp:List Addr):Cx :=
 {X with N:=N',s₀:=c,H₀:=H₂,env:=compEnvC scope (closL X.env.cells scope.names []) C X.env,outer:=X.stack,stack:=X.stack,ex:=fp,fn:=λ_=>false,pn:=[],xe:=λ_ _=>False}
section
variable {X:Cx}{pins:cW}{σ:St}{H:Hp}{s:Shared}{scope:Scope}{N':aT}{src:List (Option Nat)}
theorem bF.cells (S:bF X scope N' src)(I:aN X pins σ H s):∀x∈scope.names,x.2 = .free->∃c,X.env.cells.lookup x.1=some c:=λx d e=>I.ok.has x.1 (S.free x d e)
theorem bF.cl (S:bF X scope N' src)(I:aN X pins σ H s){x:Str}{c:Addr}(h:(closL X.env.cells scope.names []).lookup x=some c):X.env.cells.lookup x=some c:=by
 rcases yC _ _ h with q|⟨q,e⟩
 ·simp at q
 ·obtain⟨d,hd⟩:=S.cells I (x,.free) q rfl;have hd:X.env.cells.lookup x=some d:=hd;rw[hd]at e;rw[hd,e];rfl
theorem bF.clHas (S:bF X scope N' src)(I:aN X pins σ H s){x:Str}(h:scope.names.lookup x=some .free):∃c,(closL X.env.cells scope.names []).lookup x=some c/\X.env.cells.lookup x=some c:=by have q:=yD (cells:=X.env.cells) (x:=x) scope.names [] (.inl (lX h));obtain⟨c,hc⟩:=Option.isSome_iff_exists.mp q;exact⟨c,hc,S.cl I hc⟩
theorem bF.ok (S:bF X scope N' src)(I:aN X pins σ H s){fp:List Addr}{C:Addr}(d:∀b∈fp,fC X pins H b)(f:∀b∈fp,b<s.heap.objs.size)(g:s.heap.objs.size<=C):(blk X scope N' C s H fp).Ok where
 mod:=I.mod
 kind:=S.kind
 glob:=I.ok.glob
 blt:=I.ok.blt
 above:=g
 inj:=λx y c l j=>I.ok.inj x y c (S.cl I l) (S.cl I j)
 has:=λx i=>by
  have q:scope.names.lookup x=some .free:=by
   rcases i with h|h
   ·exact kZ S.cell h (.inl rfl)
   ·exact kZ S.cell h (.inr rfl)
  obtain⟨c,hc,_⟩:=S.clHas I q;exact⟨c,hc⟩
 cab:=λx c h _=>by cases h
 hd:=I.ok.hd
 frames:=I.ok.frames
 stk:=.inl rfl
 exf:=λb hb=>⟨bq (bg (f b hb) g),λx c e=>(d b hb).2.2.2.2.1 x c (S.cl I e)⟩
 bs:=I.bs
 bsz:=aq I.ok.bsz I.sz
 noex:=λb o e hb=>by
  rcases(d b hb).2.2.2.1 with z|z
  ·exact I.ok.noex b o e z
  ·exact absurd (bg (bd e) (aq I.ok.bsz z)) (cb _)
 exfs:=λb hb z=>by
  rcases cu.mp (I.stkSub b z)with e|e
  ·exact(d b hb).2.1 e
  ·exact(d b hb).2.2.1 e
 funs:=I.stack
 frf:=I.stkFree
theorem bF.start (S:bF X scope N' src)(I:aN X pins σ H s){fp:List Addr}{C:Addr}{h':Heap}{tk:Nat}{m:jB}{pl:cW}(Q:∀b∈fp,fC X pins H b)(F:∀b∈fp,b<s.heap.objs.size)(L:s.heap.objs.size<=C)
  (h:∀b o,s.heap.get? b=some o->h'.get? b=some o) (E:h'.Ns C m)
  (B:∀p∈pl,h'.get? p.1=some p.2/\s.heap.objs.size<=p.1/\p.1≠C/\∀v,p.2.data≠.cell v) :
  aN (blk X scope N' C s H fp) pl (stC src σ) H {s with heap:=h',toks:=tk} where
 ok:=S.ok I Q F L
 os:=rfl
 bare:=I.bare
 base:=Un.kept h
 loc:=by
  obtain⟨U,P,G⟩:=I.loc;refine⟨m,E,λj x v R f W=>?_⟩;have f:(src.map λo=>o.bind λi=>(σ[i]?).join)[j]?=some (some v):=f;rw[bI]at f;cases e:src[j]? with
  | none=>rw[e]at f;cases f
  | some o =>
   rw[e]at f;cases o with
   | none=>cases f
   | some i =>
    have f:some ((σ[i]?).join)=some (some v):=f;obtain⟨T,K⟩:=pV S.map e R;have N:σ[i]?=some (some v):=by
     cases q:σ[i]? with
     | none=>rw[q]at f;cases f
     | some w=>rw[q]at f;cases w with
      | none=>cases f
      | some w=>cases f;rfl
    have g:=S.free (x,.free) (lX K) rfl;obtain⟨u,r,l⟩:=G i x v T N (.inr g);refine⟨u,r,.inr ⟨lH K,?_⟩⟩;obtain⟨c,hc,J⟩:=S.clHas I K;refine⟨c,hc,?_⟩;rcases l with⟨k,_⟩|⟨_,Y,A,t⟩
    ·have k:X.env.scope.names.lookup x=some .local:=k;have g:X.env.scope.names.lookup x=some .cell∨X.env.scope.names.lookup x=some .free:=g;rw[k]at g;rcases g with z|z <;> cases z
    ·rw[J]at A;cases A;obtain⟨o,ho,hd⟩:=t;exact⟨o,h _ _ ho,hd⟩
 cell:=λx c e=>by obtain⟨v,o,ho,hd⟩:=I.cell x c (S.cl I e);exact⟨v,o,h _ _ ho,hd⟩
 free:=I.hok.fresh L
 freeC:=λx c e=>I.freeC x c (S.cl I e)
 pin:=λp O=>by
  obtain⟨a,b,c,d⟩:=B p (by simpa [blk] using O);refine⟨a,I.hok.fresh b,c,λz=>?_,d⟩;rcases cu.mp (I.stkSub _ z)with e|e
  ·exact absurd (bg I.lt (by rw[←e];exact b)) (cb _)
  ·exact I.nofs b e
 hok:=I.hok.kept h
 len:=by show(src.map _).length=N'.length;rw[ae];exact pU S.map
end
noncomputable def yW (d:pO)(env:Env):Sem Bool:=forIn d true λc (b:Bool)=>if b=true then isTrue c env (eval c env) >>= λb=>pure (.yield b)else pure (.yield b)
section
variable (M:Model)(A:Around)(env:Env)(E:cJ)
def Drawn (it:Value)(c:Expr)(stop go:Shared->Prop)(s:Shared):Prop :=
 wpAny M A (pyNext it) (λr t=>r.elim (stop t) λv=>wpAny M A (letOwnedTupleGo c it v) (λ_ t=>wpAny M A (assign c env v) (λ_=>go) E t) E t) E s
def DG (d:pO)(lay:Sem Unit)(c:Shared->Prop)(s:Shared):Prop :=
 wpAny M A (yW d env) (λok t=>if ok=true then wpAny M A lay (λ_=>c) E t else c t) E s
end
noncomputable def nI (p:Pos)(it:Value)(c:Expr)(env:Env)(k:Sem PySem.Fin):Sem PySem.Fin:=standAt p >>= λ_=>pyNext it >>= λr=>match r with
 | none=>pure (.done .next)
 | some v=>letOwnedTupleGo c it v >>= λ_=>assign c env v >>= λ_=>k
noncomputable def layOn (d:pO)(lay:Sem Unit)(env:Env)(c:Code):Sem PySem.Fin:=yW d env >>= λok=>if ok=true then lay >>= λ_=>again c else again c
noncomputable def zU (c:Expr)(d:Value)(env:Env):Sem Unit:=eval c env >>= λx=>call (.builtin "list.append") [d,x] >>= λ_=>pure ()
section
variable {M:Model}{A:Around}{env:Env}{E:cJ}{it:Value}{tg:Expr}{s:Shared}
theorem Drawn.mono {stop go c d:Shared->Prop}(h:Drawn M A env E it tg stop go s)(f:∀t,stop t->c t)(e:∀t,go t->d t):Drawn M A env E it tg c d s :=
 thn h λr t q=>by
  cases r
  ·exact f t q
  ·exact thn q λ_ _ q=>thn q λ_ t q=>e t q
theorem Drawn.run {Q:PySem.Fin->Shared->Prop}(h:Drawn M A env E it tg (Q (.done .next)) (λt=>wpAny M A k Q E t) s):wpAny M A (nI p it tg env k) Q E s:=by
 unfold nI;refine aa (wpAny_standAt (aa (thn h λr t q=>?_)));cases r
 ·exact ao q
 ·exact aa (thn q λ_ _ q=>aa q)
theorem DG.run {Q:PySem.Fin->Shared->Prop}(h:DG M A env E ifs lay (Q (.again c)) s):wpAny M A (layOn ifs lay env c) Q E s:=by
 unfold layOn;refine aa (thn h λok t q=>?_);cases ok
 ·exact ao q
 ·exact aa (thn q λ_ _ q=>ao q)
end
theorem A6 (d g iter:Expr)(c:pO)(scope:Scope)(f:Pos)(it e:Value)(env:Env) :
  compTurn (.ListComp d [⟨g,iter,c,0⟩] scope f) 0 it e env=nI iter.pos it g env (layOn c (zU d e env) env (.compLoop (.ListComp d [⟨g,iter,c,0⟩] scope f) 0 it e env)):=rfl
section
variable {prog:Program}{w:World}{A:Around}{R:Result->Shared->Prop}{s:Shared}{tg ce:Expr}{d:Nat}{it acc:Value}{env:Env}{p:Pos}{k:Sem PySem.Fin}
abbrev XN (prog:Program)(w:World)(A:Around)(env:Env)(R:Result->Shared->Prop):cJ:=notedBy (model prog w) A env λx t=>R (.error x) t
inductive NP:Expr->Prop
 | lst (e gs sc p):NP (.ListComp e gs sc p)
 | set (e gs sc p):NP (.SetComp e gs sc p)
 | dct (k e gs sc p):NP (.DictComp k e gs sc p)
theorem M5 (c:NP ce){Q:PySem.Fin->Shared->Prop}{E:cJ}(h:wpAny (model prog w) A (Sem.onRaise (compTurn ce d it acc env) λx=>noteFrame x env >>= λ_=>theTreesLotGoes x) Q E s):wpAny (model prog w) (A.under (.compLoop ce d it acc env)) ((model prog w).den (.compLoop ce d it acc env)) Q E s:=by cases c <;> exact h
theorem JL (c:NP ce){Q:PySem.Fin->Shared->Prop}{E:cJ}(h:wpAny (model prog w) A (compStart ce d it acc env) Q (notedBy (model prog w) A env E) s):wpAny (model prog w) (A.under (.compStart ce d it acc env)) ((model prog w).den (.compStart ce d it acc env)) Q E s:=by cases c <;> exact wpAny_notedAt h
theorem uQ (c:NP ce)(hb:compTurn ce d it acc env=nI p it tg env k)(I:Nat->Shared->Prop)
  (turn:∀n s,I n s->Drawn (model prog w) A env (XN prog w A env R) it tg (R (.ok .next)) (λt=>wpAny (model prog w) A k (λf t=>f = .again (.compLoop ce d it acc env)/\∃m,m<n/\I m t) (XN prog w A env R) t) s)
  (n:Nat) (h:I n s):codeAny (model prog w) A (.compLoop ce d it acc env) R s:=by
 apply codeAny_loop rfl I _ n h;intro n s i;have q:=turn n s i;apply M5 c;rw[hb];apply wpAny_noted;apply Drawn.run;exact q.mono (λ_ z=>z) λt z=>thn z λf t ⟨e,m⟩=>by subst e;exact⟨rfl,m⟩
end
def RF (X:Cx)(d:pO)(t:TT):Prop :=
 ∀(c:cW) (s:Shared) (σ:St) (H:Hp) (Q:Bool->Hp->Prop),aN X c σ H s->t σ H Q->wpAny (model X.prog X.w) X.A (yW d X.env) (TP X c σ Q) X.xe s
def tYes:TT:=λ_ H Q=>Q true H
theorem eF:RF X [] tYes:=λ_ _ _ H _ I h=>wpAny_tests_nil ⟨H,I,h⟩
theorem k8 (h:PT X c t):RF X [c] t:=λd s σ H Q I q=>wpAny_tests_one (h d s σ H Q I q)
abbrev NO (β:Type):=Nat->Nat->β->St->Hp->Prop
abbrev CW:=NO (List V)
structure yM (Y:Cx)(tg:Expr)(J:It)(fp:List Addr)(it:Addr)(tn:NG):Prop where
 obj:∀i h,tn i h->∀b∈fp,∃o,h.get? b=some o/\∀v,o.data≠.cell v
 keep:∀i h h',tn i h->(∀b∈fp,∀o,h.get? b=some o->h'.get? b=some o)->tn i h'
 item:∀(i:Nat) (pins:cW) (s:Shared) (σ:St) (H:Hp) (E:cJ),aN Y pins σ H s->(∀b∈fp,fC Y pins H b)->tn i s.heap->J.go i H ->
  wpAny (model Y.prog Y.w) Y.A (pyNext (.ref it)) (λr s1=>∃u,r=some u /\
   wpAny (model Y.prog Y.w) Y.A (letOwnedTupleGo tg (.ref it) u) (λ_ s2=>∃x H',aN Y pins σ H' s2/\aQ x u/\J.yld i H x H'/\tn (i+1) s2.heap/\∀b∈fp,H' b=none) E s1) E s
 done:∀(i:Nat) (pins:cW) (s:Shared) (σ:St) (H:Hp) (E:cJ),aN Y pins σ H s->(∀b∈fp,fC Y pins H b)->tn i s.heap->J.stop i H ->
  wpAny (model Y.prog Y.w) Y.A (pyNext (.ref it)) (λr s1=>r=none/\aN Y pins σ H s1) E s
 self:∀(A:Around) (i:Nat) (s:Shared) (Q:cJ) (E:cJ),tn i s.heap->Q (.ref it) s->wpAny (model Y.prog Y.w) A (pyIter (.ref it)) Q E s
theorem pF.y {c:NG}(T:pF Y.prog Y.w Y.K tg J fp it c)(hc:Y.calm=true):yM Y tg J fp it c :=
 ⟨T.obj,T.keep,T.item Y rfl rfl rfl hc,T.done Y rfl rfl rfl hc,T.self⟩
def NI {β:Type}(F:Heap->Addr->β->Prop):Prop:=∀h a x,F h a x->∃o,h.get? a=some o/\(∀v,o.data≠.cell v)/\∀h':Heap,h'.get? a=some o->F h' a x
def QY (h:Heap)(a:Addr)(c:List V):Prop:=c.length<=sizeLine/\∃items,h.PlainList a items/\aR c items.toList
theorem xN:NI QY:=λ_ _ _ ⟨l,it,⟨n,e⟩,r⟩=>⟨_,e,(λ_ z=>nomatch z),λ_ c=>⟨l,it,⟨n,c⟩,r⟩⟩
section
variable {β:Type}{F:Heap->Addr->β->Prop}{Y:Cx}{pins:cW}{D it:Addr}{fp:List Addr}{tn:NG}{J:It}{W:NO β}{Fin:β->St->Hp->Prop}{R:Result->Shared->Prop}{tg:Expr}{g:TG}{Nx:Nat->Nat->β->St->Hp->Prop}
def FO (F:Heap->Addr->β->Prop)(Y:Cx)(c:cW)(D:Addr)(fp:List Addr)(e:NG)(W:NO β)(n:Nat)(s:Shared):Prop :=
 ∃i σ H d,aN Y c σ H s/\e i s.heap/\(∀b∈fp,H b=none)/\H D=none/\F s.heap D d/\W i n d σ H
structure VR (F:Heap->Addr->β->Prop)(Y:Cx)(D:Addr)(fp:List Addr)(tn:NG)(i:Nat)(acc:β)(more:cW)(o:Obj):Prop where
 fill:∀h:Heap,h.get? D=some o->F h D acc
 own:∀p∈more,p.1∈fp
 back:∀{pl:cW} {σ:St} {H:Hp} {s:Shared},(∀p∈more,p∈pl)->aN Y pl σ H s->tn i s.heap/\∀b∈fp,H b=none
structure rN (Y:Cx)(pins:cW)(D:Addr)(fp:List Addr):Prop where
 off:D∉fp
 list:∀H:Hp,H D=none->fC Y pins H D
 iter:∀H:Hp,(∀b∈fp,H b=none)->∀b∈fp,fC Y pins H b
theorem SB:a∈pn++(pins++a::more):=by simp
theorem rN.pin {σ:St}{H:Hp}{s:Shared}{o:Obj}(P:rN Y pins D fp)(I:aN Y pins σ H s)(d:H D=none)(ho:s.heap.get? D=some o)(hc:∀v,o.data≠.cell v):aN Y (pins++[(D,o)]) σ H s:=by
 refine I.pins_of λp c=>?_;simp only[cw,cs]at c;rcases c with c|rfl
 ·exact I.pin p (bz _ c)
 ·have f:=P.list H d;exact⟨ho,f.1,f.2.1,f.2.2.1,hc⟩
theorem rN.more (P:rN Y pins D fp)(H:Hp)(d:∀b∈fp,H b=none)(b:Addr)(hb:b∈fp):fC Y (pins++[(D,o)]) H b:=by
 have f:=P.iter H d b hb;refine⟨f.1,f.2.1,f.2.2.1,f.2.2.2.1,f.2.2.2.2.1,λp c z=>?_⟩;rw[←cp,cw,cs]at c;rcases c with c|rfl
 ·exact f.2.2.2.2.2 p c z
 ·exact P.off (show D∈fp from(show D=b from z) ▸ hb)
theorem EK {more:cW}{o:Obj}{σ:St}{H:Hp}{s:Shared}(I:aN Y (pins++(D,o)::more) σ H s):H D=none/\s.heap.get? D=some o/\aN Y pins σ H s:=by have q:=I.pin (D,o) SB;exact⟨q.2.1,q.1,I.pins_of λp c=>I.pin p (by simp[c])⟩
theorem x6 (hF:NI F)(hx:∀e s,¬Y.xe e s)(T:yM Y tg J fp it tn)(P:rN Y pins D fp)(hg:PG Y tg g)
  (turn:∀i m c σ H,W i m c σ H->(J.stop i H/\Fin c σ H)∨(J.go i H/\∀x H',J.yld i H x H'->g x σ H' (Nx i m c)))
  (hR:∀s σ H c,aN Y pins σ H s->H D=none->F s.heap D c->Fin c σ H->R (.ok .next) s)
  (n:Nat) (s:Shared) (B:FO F Y pins D fp tn W n s) {E:cJ} :
  Drawn (model Y.prog Y.w) Y.A Y.env E (.ref it) tg (R (.ok .next))
   (λt=>∃i c o more σ H,VR F Y D fp tn (i+1) c more o/\aN Y (pins++(D,o)::more) σ H t/\Nx i n c σ H) s:=by
 obtain⟨i,σ,H,c,I,st,K,fD,O,w⟩:=B;obtain⟨o,ho,v,f⟩:=hF _ _ _ O;have Ip:=P.pin I fD ho v;rcases turn i n c σ H w with⟨stop,fin⟩|⟨go,step⟩
 ·refine thn (T.done i _ s σ H _ Ip (P.more H K) st stop) λr t ⟨l,It⟩=>?_;subst l;obtain⟨Z,X,U⟩:=EK It;exact hR t σ H c U Z (f _ X) fin
 ·refine thn (T.item i _ s σ H _ Ip (P.more H K) st go) λr t ⟨u,l,q⟩=>?_;subst l;refine thn q λ_ t1 ⟨x,G,I1,r1,N,d,C⟩=>?_;have I1p:=I1.pinned (P.more G C) (T.obj _ _ d);rw[cp]at I1p;refine wpAny_mono (hg _ t1 σ G x u _ I1p r1 (step x G N)) (λ_ t2 ⟨L,H2,I2,S⟩=>?_) λe t z=>(hx e t z).elim;refine⟨i,c,o,uF fp t1.heap,L,H2,⟨f,λp hp=>(xF hp).1,λ{pl σ3 H3 Q} j I3=>?_⟩,I2,S⟩;have h:∀b∈fp,∀o,t1.heap.get? b=some o->Q.heap.get? b=some o/\H3 b=none:=λb hb o e=>by have z:=I3.pin (b,o) (bz _ (j _ (nN hb e)));exact⟨z.1,z.2.1⟩
  refine⟨T.keep _ _ _ d λb hb o e=>(h b hb o e).1,λb hb=>?_⟩;obtain⟨o,e,_⟩:=T.obj _ _ d b hb;exact(h b hb o e).2
def NJ (F:Heap->Addr->β->Prop)(Y:Cx)(D:Addr)(lay:Sem Unit)(q:St->Hp->(β->Hp->Prop)->Prop)(f:β):Prop :=
 ∀(E:cJ) (pl:cW) (o:Obj) (σ:St) (H:Hp) (t:Shared) (N:β->Hp->Prop),aN Y pl σ H t->(D,o)∈pl->(∀h:Heap,h.get? D=some o->F h D f)->q σ H N ->
  wpAny (model Y.prog Y.w) Y.A lay (λ_ t3=>∃d e tk g c,t3={d with heap:=e,toks:=tk}/\aN Y pl σ g d/\Heap.SameBut D d.heap e/\F e D c/\N c g) E t
theorem CB {g:pO}{lay:Sem Unit}{C:TT}{tl:St->Hp->(β->Hp->Prop)->Prop}{i n:Nat}{c:β}{more:cW}{o:Obj}{σ:St}{H:Hp}{t:Shared}{E:cJ}(S:∀e s,¬Y.xe e s)(P:rN Y pins D fp)(T:yM Y tg J fp it tn)(U:RF Y g C)(X:NJ F Y D lay tl c)
  (B:VR F Y D fp tn (i+1) c more o) (I:aN Y (pins++(D,o)::more) σ H t)
  (q:C σ H λb L=>if b=true then tl σ L λa H4=>∃d,d<n/\W (i+1) d a σ H4 else ∃d,d<n/\W (i+1) d c σ L) :
  DG (model Y.prog Y.w) Y.A Y.env E g lay (λt=>∃m,m<n/\FO F Y pins D fp tn W m t) t:=by
 refine wpAny_mono (U _ t σ H _ I q) (λok t1 ⟨O,x,j⟩=>?_) λe t z=>(S e t z).elim;cases ok
 ·rw[ab Bool.false_ne_true]at j⊢;obtain⟨m,v,w⟩:=j;obtain⟨b1,b2⟩:=B.back (λp u=>by simp[u]) x;obtain⟨l,G,r⟩:=EK x;exact⟨m,v,i+1,σ,O,c,r,b1,b2,l,B.fill _ G,w⟩
 ·rw[ai rfl]at j⊢;refine thn (X _ _ o σ O t1 _ x (by simp) B.fill j) λ_ t3 ⟨Q,Z,tk,N,h,e3,K,R,f3,m,v,w⟩=>?_;subst e3;obtain⟨b1,b2⟩:=B.back (λp u=>by simp[u]) K;obtain⟨l,G,r⟩:=EK K;have f:=P.list N l;have far:∀b o,b≠D->Q.heap.get? b=some o->Z.get? b=some o:=λb o hb e=>R.extBut b o hb e;exact⟨m,v,i+1,σ,N,h,r.turned (t':=tk) far f.1 f.2.1 f.2.2.2.1 f.2.2.2.2.1 f.2.2.2.2.2,T.keep _ _ _ b1 λb hb o e=>far b o (λz=>P.off (z ▸ hb)) e,b2,l,f3,w⟩
theorem DG.go {E:cJ}(h:DG (model Y.prog Y.w) Y.A Y.env E ifs lay (λt=>∃m,m<n/\FO F Y pins D fp tn W m t) t) :
  wpAny (model Y.prog Y.w) Y.A (layOn ifs lay Y.env c) (λf t=>f = .again c/\∃m,m<n/\FO F Y pins D fp tn W m t) E t :=
 DG.run (thn h λok t q=>by
  cases ok
  ·exact⟨rfl,q⟩
  ·exact thn q λ_ _ q=>⟨rfl,q⟩)
end
def tlLst (d:TE)(c:List V):St->Hp->(List V->Hp->Prop)->Prop:=λσ H N=>d σ H λy e=>c.length<sizeLine/\N (c++[y]) e
theorem CA (p:∀e s,¬Y.xe e s)(x:PE Y elt te):NJ QY Y D (zU elt (.ref D) Y.env) (tlLst te acc) acc:=by
 intro E pl o σ H t N I r v q;refine aa (wpAny_mono (x _ t σ H _ I q) (λy d ⟨h,B,g,j,u,w⟩=>?_) λe t z=>(p e t z).elim);obtain⟨hz,items,m,f⟩:=v _ (g.pin (D,o) (bz _ r)).1;have c:items.size<=sizeLine:=by rw[←br,←f.length];exact hz
 refine aa (wpAny_list_append_plain (hsz:=c) m λA l i=>ao ⟨d,A,d.toks,B,acc++[h],rfl,g,i,⟨?_,items.push y,l,?_⟩,w⟩)
 ·rw[av];exact u
 ·rw[Array.toList_push];exact f.append (.cons j .nil)
def RJ (J:It)(g:TG)(h:TT)(j:TE)(Fin:List V->Hp->Prop)(W:CW):Prop:=∀i m c σ H,W i m c σ H ->
 (J.stop i H/\Fin c H) ∨
 (J.go i H/\∀x H',J.yld i H x H'->g x σ H' λe o=>h e o λb f =>
  if b=true then j e f λy l=>c.length<sizeLine/\∃d,d<m/\W (i+1) d (c++[y]) e l else ∃d,d<m/\W (i+1) d c e f)
def tComp (src:List (Option Nat))(d:TI)(g:TG)(e:TT)(f:TE):TE:=λσ H Q=>d σ H λJ h=>∃W:CW,(∃m,W 0 m [] (stC src σ) h)/\RJ J g e f (λc H=>∀p,H p=none->Q (.ref p) (upd H p (.lst c))) W
section
variable {prog:Program}{w:World}{A:Around}{ce:Expr}{c:Comprehension}{rest:List Comprehension}
theorem C1 (i:NP ce)(e:clausesOf ce=c::rest)(j:c.is_async=0){R:Result->Shared->Prop}(l:codeAny (model prog w) A (.compLoop ce 0 it acc env) R s)
  (h:wpAny (model prog w) A (pyIter it) (λd f=>codeAny (model prog w) A (.compLoop ce 0 d acc env) R f) (XN prog w A env R) s) :
  codeAny (model prog w) A (.compStart ce 0 it acc env) R s:=by
 apply codeAny_of_tree;apply JL i;obtain⟨m,iter,g,_⟩:=c;cases j;unfold compStart;rw[e];change wpAny _ _ (ask >>= _) _ _ s;apply aa;apply wpAny_askSetting;by_cases b:(⟨(model prog w).prog,(model prog w).w.params⟩:Setting).params.followText "comprehension-iter-twice" = true
 ·rw[ai b];exact ao ⟨rfl,l⟩
 ·rw[ab b];refine aa (wpAny_rule ?_);change wpAny _ _ (standAt iter.pos >>= _) _ _ s;exact aa (wpAny_standAt (aa (thn h λd f z=>ao ⟨rfl,z⟩)))
def DE {β:Type}(F:Heap->Addr->β->Prop)(c:β)(prog:Program)(w:World)(A:Around)(mk:Sem Value):Prop :=
 ∀(Q:cJ) (E:cJ) (s:Shared),(∀o:Obj,o.isFreed=false->(∀h:Heap,h.get? s.heap.objs.size=some o->F h s.heap.objs.size c)->Q (.ref s.heap.objs.size) {s with heap:=s.heap.push o})->wpAny (model prog w) A mk Q E s
theorem xK:DE QY [] prog w A (newList []):=λ_ _ _ q=>cg (q _ rfl λ_ e=>⟨ax _,#[],⟨_,e⟩,.nil⟩)
end
section
variable {β:Type}{F:Heap->Addr->β->Prop}{e0:β}{mk:Sem Value}{ce:Expr}{cls:List Comprehension}{ob:HO}
variable {X:Cx}{scope:Scope}{N':aT}{src:List (Option Nat)}{pins:cW}{σ:St}{H₂:Hp}{s₂:Shared}{fp:List Addr}{it:Addr}{tn:NG}{J:It}{tg iter:Expr}{ifs:pO}
theorem QJ {pl:cW}{j:St}{H':Hp}{g:Shared}{C D:Addr}(s:aN X pins σ H₂ s₂)(m:∀b∈fp,fC X pins H₂ b)
  (f:aN (blk X scope N' C s₂ H₂ fp) pl j H' g) (p:s₂.heap.objs.size<=D) (i:H' D=none) (ok:cD X.prog X.w (upd H' D ob) g.heap D ob):aN X pins σ (upd H' D ob) g:=by
 have u:=f.base;have h:∀b o,s₂.heap.get? b=some o->b≠D:=λb o e=>bq (bg (bd e) p);have d:∀b o,H' b=some o->b≠D:=λb o e z=>by rw[z,i]at e;cases e
 refine s.call' (ch:=fp) f.os ⟨u.keep,u.slot,λb o e n l=>?_,u.there,λb xs e=>?_,λb o xs e=>?_,λb ps e=>?_⟩ (λb o e=>?_) f.bare λb hb=>?_
 ·rw[aC (h b o e)];exact u.free b o e n l
 ·have q:=u.tups b xs e;rw[aC (d b _ q)];exact q
 ·have q:=u.frzs b o xs e;rw[aC (d b _ q)];exact q
 ·obtain⟨more,q⟩:=u.tbls b ps e;exact⟨more,by rw[aC (d b _ q)];exact q⟩
 ·by_cases hb:b=D
  ·subst hb;rw[upd_same]at e;cases e;exact ok
  ·rw[aC hb]at e;exact(f.hok b o e).stay (λ_ _ _ q=>q) (λc q=>by rw[aC (d c _ q)];exact q) λc xs q=>by rw[aC (d c _ q)];exact q
 ·obtain⟨f0,f1,f2,f3,f4,r⟩:=m b hb;exact⟨f3,f1,f4,r⟩
theorem GK:QY h a acc->cD P w H h a (.lst acc):=λ⟨hz,items,⟨n,ho⟩,r⟩=>⟨hz,items.toList,n,r,by simpa using ho⟩
structure G4 (F:Heap->Addr->β->Prop)(e0:β)(X:Cx)(scope:Scope)(N':aT)(src:List (Option Nat))(s₂:Shared)(H₂:Hp)(σ:St)(fp:List Addr)(tn:NG)(D C:Addr)(t:Shared):Prop where
 at_:s₂.heap.objs.size=D
 le:s₂.heap.objs.size<=C
 ne:D≠C
 place:rN (blk X scope N' C s₂ H₂ fp) [] D fp
 betw:∀W:NO β,(∃m,W 0 m e0 (stC src σ) H₂)->∃m,FO F (blk X scope N' C s₂ H₂ fp) [] D fp tn W m t
theorem KC {h h':Heap}{o c:Obj}(ho:o.isFreed=false)(d:Heap.SameBut (h.push o).objs.size ((h.push o).push c) h'):(∀b x,h.get? b=some x->h'.get? b=some x)/\h'.get? h.objs.size=some o:=by have key:∀b x,(h.push o).get? b=some x->h'.get? b=some x:=λb x e=>d.extBut b x (bq (bd e)) (af c e);exact⟨λb x e=>key b x (af o e),key _ _ (aw h ho)⟩
theorem rL {RR:Value->Addr->Result->Shared->Prop}{E:cJ}(q:DE F e0 X.prog X.w X.A mk)(K:NP ce)(s:clausesOf ce=⟨tg,iter,ifs,0⟩::cls)(S:bF X scope N' src)(h:aN X pins σ H₂ s₂)(T:∀C,yM (blk X scope N' C s₂ H₂ fp) tg J fp it tn)(i:tn 0 s₂.heap)(r:∀b∈fp,fC X pins H₂ b)
  (k:∀D C t,G4 F e0 X scope N' src s₂ H₂ σ fp tn D C t->codeAny (model X.prog X.w) X.A (.compLoop ce 0 (.ref it) (.ref D) (blk X scope N' C s₂ H₂ fp).env) (RR (.ref D) C) t) :
  wpAny (model X.prog X.w) X.A mk (λl G=>wpAny (model X.prog X.w) X.A (newFunctionEnv scope X.env.globals (closL X.env.cells scope.names []) [] X.env.qual none .none (some X.env)) (λd B =>
   codeAny (model X.prog X.w) X.A (.compStart ce 0 (.ref it) l {d with scope:=relabel scope X.env}) (RR l d.locals) B) E G) E s₂:=by
 refine q _ _ _ λo of I=>?_;refine wpAny_newFunctionEnv S.cell (λ_ z=>nomatch z) (λu ns sb=>?_) S.kind;obtain⟨g,new⟩:=KC of sb;have sz:(s₂.heap.push o).objs.size=s₂.heap.objs.size+1:=Heap.size_push ..;dsimp only at ns g new⊢;rw[sz]at ns⊢;have lt:∀b∈fp,b<s₂.heap.objs.size:=λb hb=>let⟨_,e,_⟩:=(T 0).obj 0 _ i b hb;bd e;have j:tn 0 u:=(T 0).keep _ _ _ i λb _ o e=>g b o e;have off:s₂.heap.objs.size∉fp:=λz=>cb _ (lt _ z);have v:=S.start (tk:=s₂.toks+([]:List (Str×Value)).length) (pl:=[]) h r lt (Nat.le_succ _) g ns (λ_ z=>nomatch z);have pl:rN (blk X scope N' (s₂.heap.objs.size+1) s₂ H₂ fp) [] s₂.heap.objs.size fp:=by
  refine⟨off,λH p=>?_,λH p b hb=>?_⟩
  ·have f:=h.fpOk (ac _) p;refine⟨p,bq (Nat.lt_succ_self _),λz=>?_,.inr (ac _),λx c e=>f.2.2.2.2.1 x c (S.cl h e),λ_ z=>nomatch z⟩;exact(cu.mp (h.stkSub _ z)).elim f.2.1 f.2.2.1
  ·exact⟨p b hb,bq (Nat.lt_succ_of_lt (lt b hb)),v.ok.exfs b hb,.inl hb,λx c e=>(r b hb).2.2.2.2.1 x c (S.cl h e),λ_ z=>nomatch z⟩
 have L:G4 F e0 X scope N' src s₂ H₂ σ fp tn s₂.heap.objs.size (s₂.heap.objs.size+1) {s₂ with heap:=u,toks:=s₂.toks+([]:List (Str×Value)).length} :=
  ⟨rfl,Nat.le_succ _,bq (Nat.lt_succ_self _),pl,λW ⟨m,w⟩=>⟨m,0,_,H₂,e0,v,j,λb hb=>(r b hb).1,h.hok.fresh (ac _),I _ new,w⟩⟩
 have go:=k _ _ _ L;exact C1 K s rfl go ((T 0).self _ 0 _ _ _ j go)
theorem G4.out {D C:Addr}{t s:Shared}{H':Hp}{c:St}(B:G4 F e0 X scope N' src s₂ H₂ σ fp tn D C t)(f:aN X pins σ H₂ s₂)(d:∀b∈fp,fC X pins H₂ b)(I:aN (blk X scope N' C s₂ H₂ fp) [] c H' s)(e:H' D=none)(ok:cD X.prog X.w (upd H' D ob) s.heap D ob) :
  H' C=none/\(∃m,s.heap.Ns C m)/\aN X pins σ (upd H' D ob) s :=
 ⟨I.free,⟨_,I.loc.choose_spec.1⟩,QJ f d I (Nat.le_of_eq B.at_) e ok⟩
variable {elt:Expr}{pos:Pos}{g:TG}{tt:TT}{te:TE}{tl:β->St->Hp->(β->Hp->Prop)->Prop}
def vZ (J:It)(g:TG)(h:TT)(tl:β->St->Hp->(β->Hp->Prop)->Prop)(Fin:β->Hp->Prop)(W:NO β):Prop:=∀i m c σ H,W i m c σ H ->
 (J.stop i H/\Fin c H) ∨
 (J.go i H/\∀x H',J.yld i H x H'->g x σ H' λe l=>h e l λb f =>
  if b=true then tl c e f λa j=>∃d,d<m/\W (i+1) d a e j else ∃d,d<m/\W (i+1) d c e f)
theorem vG {W:NO β}{Fin:β->Hp->Prop}{RR:Value->Addr->Result->Shared->Prop}{E:cJ}{lay:Value->Env->Sem Unit}{obj:Addr->β->HO}{ps:Pos}(Z:NI F)(l:DE F e0 X.prog X.w X.A mk)(r:NP ce)(p:clausesOf ce=⟨tg,iter,ifs,0⟩::cls)(hb:∀it c env,compTurn ce 0 it c env=nI ps it tg env (layOn ifs (lay c env) env (.compLoop ce 0 it c env)))(hok:∀H h D c,F h D c->cD X.prog X.w H h D (obj D c))
  (S:bF X scope N' src) (x:aN X pins σ H₂ s₂) (T:∀C,yM (blk X scope N' C s₂ H₂ fp) tg J fp it tn) (e:tn 0 s₂.heap) (u:∀b∈fp,fC X pins H₂ b)
  (U:∀C,PG (blk X scope N' C s₂ H₂ fp) tg g) (P:∀C,RF (blk X scope N' C s₂ H₂ fp) ifs tt) (R:∀C D c,NJ F (blk X scope N' C s₂ H₂ fp) D (lay (.ref D) (blk X scope N' C s₂ H₂ fp).env) (tl c) c)
  (G:∃m,W 0 m e0 (stC src σ) H₂) (turn:vZ J g tt tl Fin W)
  (q:∀D C f H' c,s₂.heap.objs.size<=C->H' C=none->D≠C->(∃m,f.heap.Ns C m)->aN X pins σ (upd H' D (obj D c)) f->H' D=none->Fin c H'->RR (.ref D) C (.ok .next) f) :
  wpAny (model X.prog X.w) X.A mk (λc L=>wpAny (model X.prog X.w) X.A (newFunctionEnv scope X.env.globals (closL X.env.cells scope.names []) [] X.env.qual none .none (some X.env)) (λd K =>
   codeAny (model X.prog X.w) X.A (.compStart ce 0 (.ref it) c {d with scope:=relabel scope X.env}) (RR c d.locals) K) E L) E s₂:=by
 refine rL l r p S x T e u λD C t B=>?_;obtain⟨m,b⟩:=B.betw W G;refine uQ r (hb ..) (FO F (blk X scope N' C s₂ H₂ fp) [] D fp tn W) (λn s b=>?_) m b;refine(x6 (Y:=blk X scope N' C s₂ H₂ fp) Z (λ_ _ z=>z) (T C) B.place (U C) turn (λs σc H c I v Q fin=>?_) n s b).mono (λ_ z=>z) ?_
 ·obtain⟨o1,o2,O⟩:=B.out x u I v (hok _ _ _ _ Q);exact q D C s H c B.le o1 B.ne o2 O v fin
 ·rintro t ⟨i,c,o,more,σ3,H3,j,I3,N⟩;exact DG.go (CB (W:=W) (λ_ _ z=>z) B.place (T C) (P C) (R C D c) j I3 N)
theorem CU {Q:VK}{D C:Addr}{c:Shared}{H':Hp}(p:aN X pins σ H₂ s₂)(l:s₂.heap.objs.size<=C)(i:H' C=none)(h:D≠C)(g:∃m,c.heap.Ns C m)(r:aN X pins σ (upd H' D ob) c)(q:Q (.ref D) (upd H' D ob)) :
  compPost (model X.prog X.w) X.A X.xe none (EP X pins σ Q) (.ref D) C (.ok .next) c:=by
 obtain⟨m,j⟩:=g;have f:=p.fpOk (H':=upd H' D ob) l (by rw[aC (Ne.symm h)];exact i);exact⟨m,j,λh' d=>⟨.ref D,_,r.turned (t':=c.toks) (λb o hb e=>d.extBut b o hb e) f.1 f.2.1 f.2.2.2.1 f.2.2.2.2.1 f.2.2.2.2.2,rfl,q⟩⟩
theorem MZ {r:jD}{D C:Addr}{c:Shared}{H':Hp}{i:Nat}{y:Str}{s:Pos}(B:X.N.Nodup)(h:X.N[i]?=some y)(p:X.env.scope.names.lookup y=some .local)(F:aN X pins σ H₂ s₂)(E:s₂.heap.objs.size<=C)(l:H' C=none)(j:D≠C)(g:∃m,c.heap.Ns C m)(G:aN X pins σ (upd H' D ob) c)(q:r.nx (σ.set i (some (.ref D))) (upd H' D ob)) :
  compPost (model X.prog X.w) X.A X.xe (some (assign (.Name y s) X.env)) (λ_ c=>SP X pins r .next c) (.ref D) C (.ok .next) c:=by
 obtain⟨m,u⟩:=g;have f:=F.fpOk (H':=upd H' D ob) E (by rw[aC (Ne.symm j)];exact l);refine wpAny_assign_Name (wW G B h (.inl p) (v:=.ref D) rfl (λt It ⟨a,sb,x⟩=>?_) (.inr p));have ne:C≠a:=x.elim (λe=>e ▸ f.2.1) λe z=>f.2.2.2.2.1 y a e z.symm;exact⟨m,u.sameBut sb ne,λh' d=>⟨_,_,It.turned (t':=t.toks) (λb o hb e=>d.extBut b o hb e) f.1 f.2.1 f.2.2.2.1 f.2.2.2.2.1 f.2.2.2.2.2,q⟩⟩
theorem G7 {Q:Flow->Shared->Prop}(c:swapsWith (.ListComp elt gens scope pos) (some (.Name y py)) spos.line X.env=pure true)
  (h:wpAny (model X.prog X.w) X.A (comprehension (.ListComp elt gens scope pos) scope X.env (firstIterPos gens pos) (newList []) (firstAsync gens) (firstIter gens X.env) (some (assign (.Name y py) X.env))) (λ_=>Q .next) X.xe s) :
  wpAny (model X.prog X.w) X.A (exec (.Assign [.Name y py] (.ListComp elt gens scope pos) spos) X.env) Q X.xe s:=by
 have u:wpAny (model X.prog X.w) X.A (evalThenUse (.ListComp elt gens scope pos) X.env (assign (.Name y py) X.env)) (λ_=>Q .next) X.xe s:=aa (thn h λ_ _ q=>ao q);exact(exec_Assign_Name_used y py _ spos c) ▸ aa (wpAny_standAt (aa (thn u λ_ _ q=>ao q)))
theorem qS {j:TI}{use:Option (Value->Sem Unit)}{Q:cJ}{s:Shared}{H:Hp}{K:It->Hp->Prop}{ps:Pos}(i:clausesOf ce=⟨tg,iter,ifs,0⟩::cls)(S:bF X scope N' src)(hi:PI X tg iter j)(o:∀x,foldedSetIterable iter X.env x=pure x)(I:aN X pins σ H s)(h:j σ H K)
  (k:∀d H₂ it fp g J,aN X pins σ H₂ d->pF X.prog X.w X.K tg J fp it g->g 0 d.heap->(∀b∈fp,fC X pins H₂ b)->K J H₂ ->
   wpAny (model X.prog X.w) X.A mk (λe m=>wpAny (model X.prog X.w) X.A (newFunctionEnv scope X.env.globals (closL X.env.cells scope.names []) [] X.env.qual none .none (some X.env)) (λc l =>
    codeAny (model X.prog X.w) X.A (.compStart ce 0 (.ref it) e {c with scope:=relabel scope X.env}) (compPost (model X.prog X.w) X.A X.xe use Q e c.locals) l) X.xe m) X.xe d) :
  wpAny (model X.prog X.w) X.A (comprehension ce scope X.env ps mk false (eval iter X.env) use) Q X.xe s:=by
 refine wpAny_comprehension_free i o (wJ (S.cells I)) S.kind S.names (thn (hi pins s σ H K I h) λ_ _ q=>thn q ?_);rintro _ d ⟨it,fp,g,J,H₂,rfl,p,T,st,f,q⟩;exact k d H₂ it fp g J p T st f q
theorem hV (hc:X.calm=true)(S:bF X scope N' src)(hi:PI X tg iter wi)(o:∀C s H fp,PG (blk X scope N' C s H fp) tg g)(l:∀C s H fp,RF (blk X scope N' C s H fp) ifs tt)(p:∀C s H fp,PE (blk X scope N' C s H fp) elt te)
  (m:∀x,foldedSetIterable iter X.env x=pure x:=by intro _;rfl):PE X (.ListComp elt [⟨tg,iter,ifs,0⟩] scope pos) (tComp src wi g tt te):=by
 intro e s σ H Q I h;rw[eval_ListComp];refine qS rfl S hi m I h λc H₂ it fp v J i T st f ⟨W,j,turn⟩=>?_;exact vG (lay:=zU elt) (tl:=tlLst te) (obj:=λ_=>.lst) xN xK (.lst ..) rfl (A6 elt tg iter ifs scope pos) (λ_ _ _ _=>GK) S i (λC=>pF.y (Y:=blk X scope N' C c H₂ fp) T hc) st f (λC=>o C c H₂ fp) (λC=>l C c H₂ fp) (λC D d=>CA (λ_ _ z=>z) (p C c H₂ fp)) j turn λD C w H' d a1 a2 u t r q fin=>CU i a1 a2 u t r (fin D q)
theorem iQ (v:X.N.Nodup)(e:X.N[i]?=some y)(p:X.env.scope.names.lookup y=some .local)(d:swapsWith (.ListComp elt [⟨tg,iter,ifs,0⟩] scope pos) (some (.Name y py)) spos.line X.env=pure true)
  (hc:X.calm=true) (S:bF X scope N' src) (hi:PI X tg iter wi) (t:∀C s H fp,PG (blk X scope N' C s H fp) tg g) (q:∀C s H fp,RF (blk X scope N' C s H fp) ifs tt) (u:∀C s H fp,PE (blk X scope N' C s H fp) elt te)
  (r:∀x,foldedSetIterable iter X.env x=pure x:=by intro _;rfl):PS X (.Assign [.Name y py] (.ListComp elt [⟨tg,iter,ifs,0⟩] scope pos) spos) (tAsg (tComp src wi g tt te) (gName i)):=by
 intro l s σ H D I h;refine G7 d ?_;refine qS rfl S hi r I h λc H₂ it fp F J m T st f ⟨W,o,turn⟩=>?_;exact vG (lay:=zU elt) (tl:=tlLst te) (obj:=λ_=>.lst) xN xK (.lst ..) rfl (A6 elt tg iter ifs scope pos) (λ_ _ _ _=>GK) S m (λC=>pF.y (Y:=blk X scope N' C c H₂ fp) T hc) st f (λC=>t C c H₂ fp) (λC=>q C c H₂ fp) (λC D j=>CA (λ_ _ z=>z) (u C c H₂ fp)) o turn λD C G H' j a1 a2 E B A w fin=>MZ v e p m a1 a2 E B A (fin D w)
end
noncomputable def zN:aT->Bool
 | []=>true
 | x::r=>!r.contains x && zN r
theorem xH:∀{l:aT},zN l=true->l.Nodup
 | [],_=>List.nodup_nil
 | x::r,h=>by simp only[zN,Bool.and_eq_true,Bool.not_eq_true',List.contains_eq_mem,decide_eq_false_iff_not]at h;exact cz.mpr ⟨h.1,xH h.2⟩
noncomputable def compB (N:aT)(names:List (Str×NameKind))(scope:Scope)(N':aT)(src:List (Option Nat)):Bool :=
 decide (scope.kind = .function) && scope.names.all (λy=>decide (y.2≠.cell)) && scope.names.all (λy=>decide (y.2≠.local) || decide (scope.names.lookup y.1=some .local)) &&
 scope.names.all (λy=>decide (y.2≠.free) || (decide (names.lookup y.1=some .cell) || decide (names.lookup y.1=some .free))) && zN N' && srcOk N scope.names src N'
theorem bF.by {X:Cx}{N:aT}{names:List (Str×NameKind)}{scope:Scope}{N':aT}{src:List (Option Nat)}(h:compB N names scope N' src=true)(e:X.N=N)(f:X.env.scope.names=names):bF X scope N' src:=by subst e f;simp only[compB,Bool.and_eq_true,List.all_eq_true,Bool.or_eq_true,decide_eq_true_eq]at h;obtain⟨⟨⟨⟨⟨o,m⟩,l⟩,j⟩,i⟩,g⟩:=h;exact⟨o,m,λy c d=>(l y c).resolve_left λz=>z d,λy c d=>(j y c).resolve_left λz=>z d,xH i,g⟩
def dG (P:Program)(w:World)(K:PySem.W.Frag)(mg:jB)(base:Heap)(CX:AW)(k:Nat)(x:Str)(sp:Sp):Prop :=
 ∃f c ps,cA P w K mg base CX k f c ps sp/\mg x=some (.ref f)/\PySem.W.keepIn K (.ref f)=true/\eI K c ps []
section
variable {X:Cx}{CX:AW}{k:Nat}{sp:Sp}{E:XK}{x:Str}{p pos:Pos}{e:Expr}{es:pO}{t:TA}
theorem aL (O:dG X.prog X.w X.K X.mg X.base CX k x sp)(h:dY k X.A)(g:jY CX X E)(l:Gl X x)(o:PA X (e::es) t)(d:(x == ("__debug__" : Str))=false:=by decide)
  (m:starEach (e::es) X.env=(false,eval e X.env)::starEach es X.env:=by rfl) (c:(backTo pos (starEach es X.env)).any (·.1)=false:=by rfl):PE X (.Call (.Name x p) (e::es) [] pos) (tCall sp [] E t):=by
 obtain⟨f,q,ps,F,i,j,hb⟩:=O;exact OP F h l i j hb .nil g o d m c
theorem gH (c:∃u,X.mg x=some u/\aQ v u)(d:Gl X x)(hd:(x == ("__debug__" : Str))=false:=by decide):PE X (.Name x pos) (tC v):=by obtain⟨u,h,r⟩:=c;exact OO d h r hd
end
def J1 (P:Program)(w:World)(K:PySem.W.Frag)(mg:jB)(base:Heap)(CX:AW)(k:Nat)(C:Addr)(m:Str)(sp:Sp):Prop :=
 ∃f c ps,cA P w K mg base CX k f c ps sp/\QU K C m f/\eI K c ps []/\J4 K C
section
variable {X:Cx}
noncomputable def ixV (H:Hp):V->V->Option V
 | .ref p,.int i=>match H p with
  | some (.lst xs)=>atI xs i
  | some (.tup xs)=>atI xs i
  | some (.frz _ (.lst xs))=>atI xs i
  | _=>none
 | .str z,.int i=>if z.length<=sizeLine then(atI z.cps.toList i).map λc=>.str ⟨#[c]⟩else none
 | _,_=>none
theorem cY:NM X (λx y H Q=>∃v,ixV H x y=some v/\Q v H):=by
 intro d f g s σ H x y v u Q I m l h r;obtain⟨z,e,q⟩:=h;refine MI d f g s σ H x y v u Q I m l ?_ r;cases x with
 | ref p =>
  cases y with
  | int i =>
   unfold ixV at e;dsimp only at e;split at e
   ·rename_i xs j;exact .inl ⟨p,xs,i,z,rfl,rfl,eV.of j,e,q⟩
   ·rename_i xs j;exact .inr (.inl ⟨p,xs,i,z,rfl,rfl,iG.of j,e,q⟩)
   ·rename_i o xs j;exact .inl ⟨p,xs,i,z,rfl,rfl,.inl (.inr ⟨o,j⟩),e,q⟩
   ·cases e
  | _=>cases e
 | str t =>
  cases y with
  | int i =>
   unfold ixV at e;dsimp only at e;split at e
   ·rename_i hz;cases ea:atI t.cps.toList i with
    | none=>rw[ea]at e;cases e
    | some c =>
     rw[ea]at e;cases e;exact .inr (.inr ⟨t,i,c,rfl,rfl,hz,ea,q⟩)
   ·cases e
  | _=>cases e
 | _=>cases e
noncomputable def lenV (H:Hp):V->Option Nat
 | .ref p=>match H p with
  | some (.lst xs)=>some xs.length
  | some (.tup xs)=>some xs.length
  | some (.frz _ (.lst xs))=>some xs.length
  | some (.dK c)=>some c.length
  | _=>none
 | .str z=>if z.length<=sizeLine then some z.length else none
 | _=>none
theorem cN.or' {r d:List V->Hp->VK->Prop}(h:cN X f r)(h':cN X f d):cN X f (λxs H Q=>r xs H Q∨d xs H Q):=by
 intro c s σ H xs us Q I rs q;rcases q with q|q
 ·exact h c s σ H xs us Q I rs q
 ·exact h' c s σ H xs us Q I rs q
theorem cN.imp {r d:List V->Hp->VK->Prop}(h:cN X f r)(i:∀xs H Q,d xs H Q->r xs H Q):cN X f d:=λc s σ H xs us Q I rs q=>h c s σ H xs us Q I rs (i _ _ _ q)
theorem jZ.imp {f:Value->Value->Sem Value}(h:jZ X f r)(i:∀x y H Q,r' x y H Q->r x y H Q):jZ X f r':=λc s σ H x y v u Q I e d q=>h c s σ H x y v u Q I e d (i _ _ _ _ q)
def r1 (f:Hp->V->Option V):List V->Hp->VK->Prop:=λxs H Q=>∃x v,xs=[x]/\f H x=some v/\Q v H
theorem bG:cN X (.builtin "len") (r1 λH x=>(lenV H x).map λn=>.int n):=by
 refine((lC.or' AL).or' JV).imp λxs H Q h=>?_;obtain⟨x,v,rfl,e,q⟩:=h;cases x with
 | ref p =>
  unfold lenV at e;dsimp only at e;split at e
  ·rename_i xs c;cases e;exact .inl (.inl ⟨p,xs,rfl,.inl (eV.of c),q⟩)
  ·rename_i xs c;cases e;exact .inl (.inl ⟨p,xs,rfl,.inr (iG.of c),q⟩)
  ·rename_i o xs c;cases e;exact .inl (.inl ⟨p,xs,rfl,.inl (.inl (.inr ⟨o,c⟩)),q⟩)
  ·rename_i d c;cases e;exact .inr ⟨p,d,rfl,c,q⟩
  ·cases e
 | str z =>
  unfold lenV at e;dsimp only at e;split at e
  ·rename_i hz;cases e;exact .inl (.inr ⟨z,rfl,hz,q⟩)
  ·cases e
 | _=>cases e
noncomputable def intV:V->Option V
 | .int i=>some (.int i)
 | .bl k=>some (.int (if k then 1 else 0))
 | _=>none
theorem qT:cN X (.type "int") (r1 λ_ x=>intV x):=by
 refine JW.imp λxs H Q h=>?_;obtain⟨x,v,rfl,e,q⟩:=h;cases x with
 | int i=>cases e;exact .inl ⟨i,rfl,q⟩
 | bl k=>cases e;exact .inr ⟨k,rfl,q⟩
 | _=>cases e
noncomputable def addV:V->V->Option V
 | .int i,.int j=>some (.int (i+j))
 | .str i,.str j=>if i.length+j.length<=sizeLine then some (.str (i++j))else none
 | _,_=>none
noncomputable def catO (H:Hp):V->V->Option HO
 | .ref a,.ref b=>match H a,H b with
  | some (.lst xs),some (.lst ys)=>if xs.length+ys.length<=sizeLine then some (.lst (xs++ys))else none
  | some (.tup xs),some (.tup ys)=>if xs.length+ys.length<=sizeLine/\xs≠[]/\ys≠[]then some (.tup (xs++ys))else none
  | _,_=>none
 | _,_=>none
def rAddF:R2:=λx y H Q=>(∃v,addV x y=some v/\Q v H)∨(∃o,catO H x y=some o/\∀p,H p=none->Q (.ref p) (upd H p o))
theorem bQ:jZ X (binaryOp .Add) rAddF:=by
 refine((SK.or EB).or (SJ.or OY)).imp λx y H Q h=>?_;rcases h with⟨v,e,q⟩|⟨o,e,q⟩
 ·cases x with
  | int i=>cases y with
   | int j=>cases e;exact .inl (.inl ⟨i,j,rfl,rfl,q⟩)
   | _=>cases e
  | str i=>cases y with
   | str j =>
    unfold addV at e;dsimp only at e;split at e
    ·rename_i hz;cases e;exact .inl (.inr ⟨i,j,rfl,rfl,hz,q⟩)
    ·cases e
   | _=>cases e
  | _=>cases e
 ·cases x with
  | ref a=>cases y with
   | ref b =>
    unfold catO at e;dsimp only at e;split at e
    ·rename_i xs ys c hb;split at e
     ·rename_i hz;cases e;exact .inr (.inl ⟨a,b,xs,ys,rfl,rfl,c,hb,hz,q⟩)
     ·cases e
    ·rename_i xs ys c hb;split at e
     ·rename_i hz;cases e;exact .inr (.inr ⟨a,b,xs,ys,rfl,rfl,iG.of c,iG.of hb,hz.2.1,hz.1,λw=>absurd w hz.2.2,λ_=>q⟩)
     ·cases e
    ·cases e
   | _=>cases e
  | _=>cases e
end
inductive D where
 | non|bl (b:Bool)|int (i:Int)|str (x:Str)|tup (xs:List D)|lst (xs:List D)
mutual
def aY (H:Hp):D->V->Prop
 | .non,v=>v = .non
 | .bl b,v=>v = .bl b
 | .int i,v=>v = .int i
 | .str x,v=>v = .str x
 | .tup ds,v=>∃a vs,v = .ref a/\H a=some (.tup vs)/\Reps H ds vs
 | .lst ds,v=>∃a vs,v = .ref a/\H a=some (.lst vs)/\Reps H ds vs
def Reps (H:Hp):List D->List V->Prop
 | [],vs=>vs=[]
 | d::ds,vs=>∃v r,vs=v::r/\aY H d v/\Reps H ds r
end
mutual
theorem aY.same (s:aG H H'):∀{d:D} {v:V},aY H d v->aY H' d v
 | .non,_,h=>h
 | .bl _,_,h=>h
 | .int _,_,h=>h
 | .str _,_,h=>h
 | .tup _,_,⟨a,vs,e,h,r⟩=>⟨a,vs,e,s _ _ h,Reps.same s r⟩
 | .lst _,_,⟨a,vs,e,h,r⟩=>⟨a,vs,e,s _ _ h,Reps.same s r⟩
theorem Reps.same (s:aG H H'):∀{ds:List D} {vs:List V},Reps H ds vs->Reps H' ds vs
 | [],_,h=>h
 | _::_,_,⟨v,r,e,h,q⟩=>⟨v,r,e,aY.same s h,Reps.same s q⟩
end
theorem Reps.length:∀{ds:List D} {vs:List V},Reps H ds vs->vs.length=ds.length
 | [],_,h=>by cases h;rfl
 | _::_,_,⟨v,r,e,_,q⟩=>by subst e;simp[Reps.length q]
theorem Reps.append:∀{ds c:List D} {vs ws:List V},Reps H ds vs->Reps H c ws->Reps H (ds++c) (vs++ws)
 | [],_,_,_,h,k=>by cases h;exact k
 | _::_,_,_,_,⟨v,r,e,h,q⟩,k=>by subst e;exact⟨v,r++_,rfl,h,Reps.append q k⟩
theorem Reps.get:∀{ds:List D} {vs:List V} {i:Nat} {v:V},Reps H ds vs->vs[i]?=some v->∃d,ds[i]?=some d/\aY H d v
 | [],_,_,_,h,e=>by cases h;simp at e
 | d::_,_,0,_,⟨v,r,e,h,q⟩,k=>by subst e;simp at k;subst k;exact⟨d,rfl,h⟩
 | _::_,_,i+1,_,⟨v,r,e,h,q⟩,k=>by subst e;simp at k;obtain⟨d,f,c⟩:=Reps.get q k;exact⟨d,by simpa using f,c⟩
theorem Reps.get':∀{ds:List D} {vs:List V} {i:Nat} {d:D},Reps H ds vs->ds[i]?=some d->∃v,vs[i]?=some v/\aY H d v
 | [],_,_,_,_,e=>by simp at e
 | d::_,_,0,_,⟨v,r,e,h,q⟩,k=>by subst e;simp at k;subst k;exact⟨v,rfl,h⟩
 | _::_,_,i+1,_,⟨v,r,e,h,q⟩,k=>by subst e;simp at k;obtain⟨w,f,c⟩:=Reps.get' q k;exact⟨w,by simpa using f,c⟩
mutual
noncomputable def eqD:D->D->Bool
 | .non,.non=>true
 | .bl a,.bl b=>a == b
 | .bl a,.int b=>(if a then 1 else 0) == b
 | .int a,.bl b=>a == (if b then 1 else 0)
 | .int a,.int b=>a == b
 | .str a,.str b=>a == b
 | .tup xs,.tup ys=>eqDs xs ys
 | .lst xs,.lst ys=>eqDs xs ys
 | _,_=>false
noncomputable def eqDs:List D->List D->Bool
 | [],[]=>true
 | x::xs,y::ys=>eqD x y && eqDs xs ys
 | _,_=>false
end
mutual
noncomputable def depD:D->Nat
 | .tup xs=>depDs xs+1
 | .lst xs=>depDs xs+1
 | _=>0
noncomputable def depDs:List D->Nat
 | []=>0
 | x::xs=>max (depD x) (depDs xs)
end
end L2
namespace L2
open PySem PySem.Spec PyProof.Rows PySem.SeqAt
mutual
theorem aY.inj:∀{d e:D} {v:V},aY H d v->aY H e v->d=e
 | .non,e,v,h,k=>by cases h;cases e <;> first|rfl|(exact absurd k (by simp[aY]))|(obtain⟨_,_,z,_⟩:=k;cases z)
 | .bl b,e,v,h,k=>by cases h;cases e <;> first|(cases k;rfl)|(exact absurd k (by simp[aY]))|(obtain⟨_,_,z,_⟩:=k;cases z)
 | .int b,e,v,h,k=>by cases h;cases e <;> first|(cases k;rfl)|(exact absurd k (by simp[aY]))|(obtain⟨_,_,z,_⟩:=k;cases z)
 | .str b,e,v,h,k=>by cases h;cases e <;> first|(cases k;rfl)|(exact absurd k (by simp[aY]))|(obtain⟨_,_,z,_⟩:=k;cases z)
 | .tup ds,e,v,⟨a,vs,m,i,l⟩,k=>by
  subst m;cases e with
  | tup o =>
   obtain⟨b,j,f,c,g⟩:=k;cases f;rw[i]at c;cases c;rw[Reps.inj l g]
  | lst o =>
   obtain⟨b,j,f,c,g⟩:=k;cases f;rw[i]at c;cases c
  | _=>exact absurd k (by simp[aY])
 | .lst ds,e,v,⟨a,vs,m,i,l⟩,k=>by
  subst m;cases e with
  | lst o =>
   obtain⟨b,j,f,c,g⟩:=k;cases f;rw[i]at c;cases c;rw[Reps.inj l g]
  | tup o =>
   obtain⟨b,j,f,c,g⟩:=k;cases f;rw[i]at c;cases c
  | _=>exact absurd k (by simp[aY])
theorem Reps.inj:∀{ds c:List D} {vs:List V},Reps H ds vs->Reps H c vs->ds=c
 | [],[],_,_,_=>rfl
 | [],e::c,_,h,k=>by cases h;obtain⟨_,_,z,_⟩:=k;cases z
 | d::ds,[],_,h,k=>by cases k;obtain⟨_,_,z,_⟩:=h;cases z
 | d::ds,e::c,_,⟨v,r,m,l,j⟩,⟨w,q,i,g,f⟩=>by subst m;cases i;rw[aY.inj l g,Reps.inj j f]
end
mutual
theorem gK:∀d:D,eqD d d=true
 | .non=>rfl
 | .bl b=>by simp[eqD]
 | .int b=>by simp[eqD]
 | .str b=>by simp[eqD]
 | .tup xs=>by rw[eqD];exact qR xs
 | .lst xs=>by rw[eqD];exact qR xs
theorem qR:∀ds:List D,eqDs ds ds=true
 | []=>rfl
 | d::ds=>by rw[eqDs,gK d,qR ds];rfl
end
theorem vL (n:Nat)(f:Nat->Bool):(List.range (n+1)).all f=(f 0 && (List.range n).all λj=>f (j+1)):=by have e:=List.range_succ_eq_map (n:=n);rw[e,List.all_cons,List.all_map];rfl
theorem iE:∀ds c:List D,eqDs ds c=((List.range (min ds.length c.length)).all (λj=>eqD (ds.getD j .non) (c.getD j .non)) && ds.length == c.length)
 | [],[]=>rfl
 | [],e::c=>by simp[eqDs]
 | d::ds,[]=>by simp[eqDs]
 | d::ds,e::c=>by
  rw[eqDs,iE ds c];have f:min (d::ds).length (e::c).length=min ds.length c.length+1:=by simp only[au];lia
  rw[f,vL];simp only[List.getD_cons_zero,List.getD_cons_succ,au];rw[Bool.and_assoc];congr 2;rw[cf];simp
section
variable {P:Program}{w:World}{H:Hp}{s:Shared}
theorem iD (ok:gQ P w H s.heap)(h:H a=some (.lst vs)):∃its:cS,aR vs its/\s.heap.IsList a its.toArray:=by obtain⟨_,its,n,r,e⟩:=ok a _ h;exact⟨its,r,⟨_,e,rfl,n,rfl⟩⟩
theorem jP (ok:gQ P w H s.heap)(h:H a=some (.tup vs)):∃its:cS,aR vs its/\s.heap.IsTuple a its.toArray:=by obtain⟨_,its,r,e⟩:=ok a _ h;exact⟨its,r,e⟩
theorem eD (A:Around):A.in1.units=A.units+1:=rfl
def VD (u:Value):Prop:=u = .none∨(∃b,u = .bool b)∨(∃i t,u = .int i t)∨(∃x t,u = .str x t)∨∃a,u = .ref a
theorem KR (h:aY H d v)(r:aQ v u):VD u:=by
 cases d with
 | non=>cases h;exact .inl r
 | bl b=>cases h;exact .inr (.inl ⟨b,r⟩)
 | int i=>cases h;obtain⟨t,e⟩:=r;exact .inr (.inr (.inl ⟨i,t,e⟩))
 | str x=>cases h;obtain⟨t,e⟩:=r;exact .inr (.inr (.inr (.inl ⟨x,t,e⟩)))
 | tup ds=>obtain⟨a,vs,e,_⟩:=h;subst e;exact .inr (.inr (.inr (.inr ⟨a,r⟩)))
 | lst ds=>obtain⟨a,vs,e,_⟩:=h;subst e;exact .inr (.inr (.inr (.inr ⟨a,r⟩)))
theorem QG (f:VD u)(c:VD u')(g:u≠u')(q:RcAt A s u u' b):EqAt A s u u' b:=by intro prog w E Q h;unfold eqBool;refine cj ?_;refine wpAny_ite_split (λd=>absurd (eq_of_beq d) g) (λ_=>?_);have q':=q prog w E (λv e=>wpAny (model prog w) A (truthOfDropped v) Q E e) (wpAny_truthy_bool h);rcases f with rfl|⟨_,rfl⟩|⟨_,_,rfl⟩|⟨_,_,rfl⟩|⟨_,rfl⟩ <;> rcases c with rfl|⟨_,rfl⟩|⟨_,_,rfl⟩|⟨_,_,rfl⟩|⟨_,rfl⟩ <;> exact aa q'
theorem GZ (h:aY H d v)(k:aY H e v')(r:aQ v u)(c:aQ v' u')(q:RcAt A s u u' (eqD d e)):EqAt A s u u' (eqD d e):=by
 by_cases f:u=u'
 ·subst f;have i:v=v':=r.inj c;subst i;have g:=aY.inj h k;subst g;rw[gK];exact EqAt.same u
 ·exact QG (KR h r) (KR k c) f q
def tI (s:Shared)(H:Hp)(n:Nat):Prop:=∀(d e:D) (A:Around) (v v':V) (u u':Value),depD d<n->aY H d v->aY H e v'->aQ v u->aQ v' u'->A.units+depD d<cLine->RcAt A s u u' (eqD d e)
theorem AI (F:tI s H n):∀{ds f:List D} {A:Around} {vs i:List V} {us c:cS},depDs ds<n->Reps H ds vs->Reps H f i->aR vs us->aR i c->A.units+depDs ds<cLine ->
  ∀j (l:j<us.length) (q:j<c.length),EqAt A s us[j] c[j] (eqD (ds.getD j .non) (f.getD j .non)):=by
 intro ds
 induction ds with
 | nil=>intro f A vs i us c _ h _ r _ _ j l;cases h;cases r;exact absurd l (Nat.not_lt_zero _)
 | cons d ds G =>
  intro f A vs i us c p h k r t o j l q;cases f with
  | nil=>cases k;cases t;exact absurd q (Nat.not_lt_zero _)
  | cons e f =>
   obtain⟨v,J,B,u,z⟩:=h;obtain⟨y,I,E,w,C⟩:=k;subst B E;rw[depDs]at o p;cases r with
   | cons r1 x =>
    cases t with
    | cons g m =>
     cases j with
     | zero=>exact GZ u w r1 g (F d e A v y _ _ (aj (Nat.le_max_left _ _) p) u w r1 g (aj (bS (Nat.le_max_left _ _) _) o))
     | succ j=>exact G (aj (Nat.le_max_right _ _) p) z C x m (aj (bS (Nat.le_max_right _ _) _) o) j (Nat.lt_of_succ_lt_succ l) (Nat.lt_of_succ_lt_succ q)
theorem N9 (ok:gQ P w H s.heap)(x:tI s H n)(z:depDs ds<n)(h:aY H (.tup ds) v)(k:aY H (.tup es) v')(r:aQ v u)(o:aQ v' u')(G:A.units+depDs ds+1<cLine):RcAt A s u u' (eqD (.tup ds) (.tup es)):=by
 obtain⟨a,vs,g,f,m⟩:=h;obtain⟨b,F,t,p,l⟩:=k;subst g t;cases r;cases o;obtain⟨its,i,B⟩:=jP ok f;obtain⟨its2,c,d⟩:=jP ok p;have q:=RcAt.tuples (A:=A) B d (by lia) (e:=λj=>eqD (ds.getD j .non) (es.getD j .non)) λj g f=>AI x z m l i c (A:=A.in1) (by rw[eD];lia) j g f;have E:its.toArray.size=ds.length:=by rw[ag,←i.length,m.length]
 have C:its2.toArray.size=es.length:=by rw[ag,←c.length,l.length]
 rw[E,C,←iE]at q;exact q
theorem OA (ok:gQ P w H s.heap)(F:tI s H n)(G:depDs ds<n)(h:aY H (.lst ds) v)(k:aY H (.lst es) v')(r:aQ v u)(B:aQ v' u')(J:A.units+depDs ds+1<cLine):RcAt A s u u' (eqD (.lst ds) (.lst es)):=by
 obtain⟨a,vs,g,f,t⟩:=h;obtain⟨b,I,E,C,o⟩:=k;subst g E;cases r;cases B;obtain⟨its,m,p⟩:=iD ok f;obtain⟨its2,c,d⟩:=iD ok C;have l:its.toArray.size=ds.length:=by rw[ag,←m.length,t.length]
 have z:its2.toArray.size=es.length:=by rw[ag,←c.length,o.length]
 by_cases hz:its.toArray.size=its2.toArray.size
 ·have q:=RcAt.lists (A:=A) p d hz (by lia) (e:=λj=>eqD (ds.getD j .non) (es.getD j .non)) λj g f=>AI F G t o m c (A:=A.in1) (by rw[eD];lia) j g f;have x:ds.length=es.length:=by rw[←l,←z];exact hz
  have i:eqD (.lst ds) (.lst es)=(List.range its.toArray.size).all λj=>eqD (ds.getD j .non) (es.getD j .non):=by rw[eqD,iE,x,Nat.min_self,l,x,beq_self_eq_true,Bool.and_true]
  rw[i];exact q
 ·have q:=RcAt.lists_lengths (A:=A) p d (bne_iff_ne.mpr hz) (by lia);have i:eqD (.lst ds) (.lst es)=false:=by rw[eqD,iE];have:(ds.length == es.length)=false:=cy.mpr (by rw[←l,←z];exact hz);rw[this,Bool.and_false]
  rw[i];exact q
inductive Kd (s:Shared):D->Value->Prop
 | non:Kd s .non .none
 | bl (b:Bool):Kd s (.bl b) (.bool b)
 | int (i:Int) (t:Tok):Kd s (.int i) (.int i t)
 | str (x:Str) (t:Tok):Kd s (.str x) (.str x t)
 | tup {ds:List D} {a:Addr} {its:cS}:s.heap.IsTuple a its.toArray->Kd s (.tup ds) (.ref a)
 | lst {ds:List D} {a:Addr} {its:cS}:s.heap.IsList a its.toArray->Kd s (.lst ds) (.ref a)
theorem GS (ok:gQ P w H s.heap):∀{d:D} {v:V} {u:Value},aY H d v->aQ v u->Kd s d u
 | .non,_,_,h,r=>by cases h;cases r;exact .non
 | .bl b,_,_,h,r=>by cases h;cases r;exact .bl b
 | .int i,_,_,h,r=>by cases h;obtain⟨t,rfl⟩:=r;exact .int i t
 | .str x,_,_,h,r=>by cases h;obtain⟨t,rfl⟩:=r;exact .str x t
 | .tup _,_,_,⟨_,_,e,h,_⟩,r=>by subst e;cases r;obtain⟨_,_,c⟩:=jP ok h;exact .tup c
 | .lst _,_,_,⟨_,_,e,h,_⟩,r=>by subst e;cases r;obtain⟨_,_,c⟩:=iD ok h;exact .lst c
theorem OB (f:A.units<cLine)(h:Kd s d u)(k:Kd s e u')(n1:∀xs ys,d = .tup xs->e≠.tup ys)(n2:∀xs ys,d = .lst xs->e≠.lst ys):RcAt A s u u' (eqD d e):=by
 cases h with
 | non=>cases k with
  | non=>exact RcAt.none_none
  | bl c=>exact RcAt.none_bool c
  | int c t=>exact RcAt.none_int c t
  | str c t=>exact RcAt.none_str c t
  | tup l=>exact RcAt.none_tuple l f
  | lst l=>exact RcAt.none_list l f
 | bl x=>cases k with
  | non=>exact RcAt.bool_none x
  | bl c=>exact RcAt.bool_bool x c
  | int c t=>exact RcAt.bool_int x c t
  | str c t=>exact RcAt.bool_str x c t
  | tup l=>exact RcAt.bool_tuple x l f
  | lst l=>exact RcAt.bool_list x l f
 | int x g=>cases k with
  | non=>exact RcAt.int_none x g
  | bl c=>exact RcAt.int_bool x g c
  | int c t=>exact RcAt.int_int x g c t
  | str c t=>exact RcAt.int_str x g c t
  | tup l=>exact RcAt.int_tuple x g l f
  | lst l=>exact RcAt.int_list x g l f
 | str x g=>cases k with
  | non=>exact RcAt.str_none x g
  | bl c=>exact RcAt.str_bool x g c
  | int c t=>exact RcAt.str_int x g c t
  | str c t=>exact RcAt.str_str x g c t
  | tup l=>exact RcAt.str_tuple x g l f
  | lst l=>exact RcAt.str_list x g l f
 | tup m=>cases k with
  | non=>exact RcAt.tuple_none m f
  | bl c=>exact RcAt.tuple_bool c m f
  | int c t=>exact RcAt.tuple_int c t m f
  | str c t=>exact RcAt.tuple_str c t m f
  | tup l=>exact absurd rfl (n1 _ _ rfl)
  | lst l=>exact RcAt.tuple_list m l f
 | lst m=>cases k with
  | non=>exact RcAt.list_none m f
  | bl c=>exact RcAt.list_bool c m f
  | int c t=>exact RcAt.list_int c t m f
  | str c t=>exact RcAt.list_str c t m f
  | tup l=>exact RcAt.list_tuple m l f
  | lst l=>exact absurd rfl (n2 _ _ rfl)
theorem oM (ok:gQ P w H s.heap):∀n,tI s H n
 | 0=>λ_ _ _ _ _ _ _ h=>absurd h (Nat.not_lt_zero _)
 | n+1=>λd e A v p u q f h k r g c=>by
  have o:A.units<cLine:=aj (Nat.le_add_right _ _) c;by_cases m:∃xs ys,d = .tup xs/\e = .tup ys
  ·obtain⟨xs,ys,rfl,rfl⟩:=m;rw[depD]at c f;exact N9 ok (oM ok n) (Nat.lt_of_succ_lt_succ f) h k r g c
  ·by_cases l:∃xs ys,d = .lst xs/\e = .lst ys
   ·obtain⟨xs,ys,rfl,rfl⟩:=l;rw[depD]at c f;exact OA ok (oM ok n) (Nat.lt_of_succ_lt_succ f) h k r g c
   ·exact OB o (GS ok h r) (GS ok k g) (λxs ys j i=>m ⟨xs,ys,j,i⟩) (λxs ys j i=>l ⟨xs,ys,j,i⟩)
theorem rcAtD (ok:gQ P w H s.heap)(d e:D)(A:Around)(v c:V)(u f:Value)(h:aY H d v)(k:aY H e c)(r:aQ v u)(g:aQ c f)(i:A.units+depD d<cLine):RcAt A s u f (eqD d e):=oM ok _ d e A v c u f (Nat.lt_succ_self _) h k r g i
theorem eqAtD (ok:gQ P w H s.heap)(d e:D)(A:Around)(v c:V)(u f:Value)(h:aY H d v)(k:aY H e c)(r:aQ v u)(g:aQ c f)(i:A.units+depD d<cLine):EqAt A s u f (eqD d e):=GZ h k r g (rcAtD ok d e A v c u f h k r g i)
end
section
variable {X:Cx}
def rEqD:R2:=λx y H Q=>∃d e,aY H d x/\aY H e y/\depD d<=60/\Q (.bl (eqD d e)) H
def rNeD:R2:=λx y H Q=>∃d e,aY H d x/\aY H e y/\depD d<=60/\Q (.bl (!eqD d e)) H
theorem dL (j:X.A.units+64<cLine):jZ X (compareOp .Eq) rEqD:=by intro c s σ H x y v u Q I g f h;obtain⟨d,e,hd,i,hz,q⟩:=h;exact rcAtD I.hok d e X.A x y v u hd i g f (by lia) X.prog X.w X.xe _ ⟨.bl _,H,I,rfl,q⟩
end
section
variable {P:Program}{w:World}{H:Hp}{s:Shared}
theorem N4 (ok:gQ P w H s.heap)(h:aY H (.tup ds) v)(k:aY H (.tup es) v')(r:aQ v u)(o:aQ v' u')(E:A.units+depDs ds+1<cLine):RcNeAt A s u u' (!eqD (.tup ds) (.tup es)):=by
 obtain⟨a,vs,g,f,m⟩:=h;obtain⟨b,C,t,p,l⟩:=k;subst g t;cases r;cases o;obtain⟨its,i,x⟩:=jP ok f;obtain⟨its2,c,d⟩:=jP ok p;have q:=RcNeAt.tuples (A:=A) x d (by lia) (e:=λj=>eqD (ds.getD j .non) (es.getD j .non)) λj g f=>AI (oM ok _) (Nat.lt_succ_self _) m l i c (A:=A.in1) (by rw[eD];lia) j g f;have B:its.toArray.size=ds.length:=by rw[ag,←i.length,m.length]
 have z:its2.toArray.size=es.length:=by rw[ag,←c.length,l.length]
 rw[B,z,←iE]at q;exact q
theorem N5 (ok:gQ P w H s.heap)(h:aY H (.lst ds) v)(k:aY H (.lst es) v')(r:aQ v u)(B:aQ v' u')(G:A.units+depDs ds+1<cLine):RcNeAt A s u u' (!eqD (.lst ds) (.lst es)):=by
 obtain⟨a,vs,g,f,t⟩:=h;obtain⟨b,F,E,C,o⟩:=k;subst g E;cases r;cases B;obtain⟨its,m,p⟩:=iD ok f;obtain⟨its2,c,d⟩:=iD ok C;have l:its.toArray.size=ds.length:=by rw[ag,←m.length,t.length]
 have z:its2.toArray.size=es.length:=by rw[ag,←c.length,o.length]
 by_cases hz:its.toArray.size=its2.toArray.size
 ·have q:=RcNeAt.lists (A:=A) p d hz (by lia) (e:=λj=>eqD (ds.getD j .non) (es.getD j .non)) λj g f=>AI (oM ok _) (Nat.lt_succ_self _) t o m c (A:=A.in1) (by rw[eD];lia) j g f;have x:ds.length=es.length:=by rw[←l,←z];exact hz
  have i:eqD (.lst ds) (.lst es)=(List.range its.toArray.size).all λj=>eqD (ds.getD j .non) (es.getD j .non):=by rw[eqD,iE,x,Nat.min_self,l,x,beq_self_eq_true,Bool.and_true]
  rw[i];exact q
 ·have q:=RcNeAt.lists_lengths (A:=A) p d (bne_iff_ne.mpr hz) (by lia);have i:eqD (.lst ds) (.lst es)=false:=by rw[eqD,iE];have:(ds.length == es.length)=false:=cy.mpr (by rw[←l,←z];exact hz);rw[this,Bool.and_false]
  rw[i];exact q
theorem N6 (f:A.units<cLine)(h:Kd s d u)(k:Kd s e u')(n1:∀xs ys,d = .tup xs->e≠.tup ys)(n2:∀xs ys,d = .lst xs->e≠.lst ys):RcNeAt A s u u' (!eqD d e):=by
 cases h with
 | non=>cases k with
  | non=>exact RcNeAt.none_none
  | bl c=>exact RcNeAt.none_bool c
  | int c t=>exact RcNeAt.none_int c t
  | str c t=>exact RcNeAt.none_str c t
  | tup l=>exact RcNeAt.none_tuple l f
  | lst l=>exact RcNeAt.none_list l f
 | bl x=>cases k with
  | non=>exact RcNeAt.bool_none x
  | bl c=>exact RcNeAt.bool_bool x c
  | int c t=>exact RcNeAt.bool_int x c t
  | str c t=>exact RcNeAt.bool_str x c t
  | tup l=>exact RcNeAt.bool_tuple x l f
  | lst l=>exact RcNeAt.bool_list x l f
 | int x g=>cases k with
  | non=>exact RcNeAt.int_none x g
  | bl c=>exact RcNeAt.int_bool x g c
  | int c t=>exact RcNeAt.int_int x g c t
  | str c t=>exact RcNeAt.int_str x g c t
  | tup l=>exact RcNeAt.int_tuple x g l f
  | lst l=>exact RcNeAt.int_list x g l f
 | str x g=>cases k with
  | non=>exact RcNeAt.str_none x g
  | bl c=>exact RcNeAt.str_bool x g c
  | int c t=>exact RcNeAt.str_int x g c t
  | str c t=>exact RcNeAt.str_str x g c t
  | tup l=>exact RcNeAt.str_tuple x g l f
  | lst l=>exact RcNeAt.str_list x g l f
 | tup m=>cases k with
  | non=>exact RcNeAt.tuple_none m f
  | bl c=>exact RcNeAt.tuple_bool c m f
  | int c t=>exact RcNeAt.tuple_int c t m f
  | str c t=>exact RcNeAt.tuple_str c t m f
  | tup l=>exact absurd rfl (n1 _ _ rfl)
  | lst l=>exact RcNeAt.tuple_list m l f
 | lst m=>cases k with
  | non=>exact RcNeAt.list_none m f
  | bl c=>exact RcNeAt.list_bool c m f
  | int c t=>exact RcNeAt.list_int c t m f
  | str c t=>exact RcNeAt.list_str c t m f
  | tup l=>exact RcNeAt.list_tuple m l f
  | lst l=>exact absurd rfl (n2 _ _ rfl)
theorem OC (ok:gQ P w H s.heap)(d e:D)(A:Around)(v j:V)(u l:Value)(h:aY H d v)(k:aY H e j)(r:aQ v u)(f:aQ j l)(c:A.units+depD d<cLine):RcNeAt A s u l (!eqD d e):=by
 have p:A.units<cLine:=aj (Nat.le_add_right _ _) c;by_cases o:∃xs ys,d = .tup xs/\e = .tup ys
 ·obtain⟨xs,ys,rfl,rfl⟩:=o;rw[depD]at c;exact N4 ok h k r f c
 ·by_cases m:∃xs ys,d = .lst xs/\e = .lst ys
  ·obtain⟨xs,ys,rfl,rfl⟩:=m;rw[depD]at c;exact N5 ok h k r f c
  ·exact N6 p (GS ok h r) (GS ok k f) (λxs ys i g=>o ⟨xs,ys,i,g⟩) (λxs ys i g=>m ⟨xs,ys,i,g⟩)
end
section
variable {X:Cx}
theorem dS (j:X.A.units+64<cLine):jZ X (compareOp .NotEq) rNeD:=by intro c s σ H x y v u Q I g f h;obtain⟨d,e,hd,i,hz,q⟩:=h;exact OC I.hok d e X.A x y v u hd i g f (by lia) X.prog X.w X.xe _ ⟨.bl _,H,I,rfl,q⟩
noncomputable def inD (d:D)(ds:List D):Bool:=ds.any λe=>eqD e d
def rInD (c:Bool):R2:=λx y H Q=>∃d ds,aY H d x/\(aY H (.lst ds) y∨aY H (.tup ds) y)/\depDs ds<=60/\Q (.bl (if c then !inD d ds else inD d ds)) H
open Classical in
noncomputable def datOf (H:Hp)(y:Value):D:=if h:∃d v,absV y=some v/\aY H d v then h.choose else .non
theorem M7 (r:aQ v y)(h:aY H d v):datOf H y=d:=by
 have e:∃d v,absV y=some v/\aY H d v:=⟨d,v,r.abs,h⟩
 unfold datOf;rw[dif_pos e];obtain⟨g,c,f⟩:=e.choose_spec;rw[r.abs]at c;cases c;exact aY.inj f h
theorem uW (ok:gQ P w H s.heap)(h:aY H d v)(r:aQ v u):∀(ds:List D) (vs:List V) (us:cS),Reps H ds vs->aR vs us->A.units+depDs ds<cLine ->
  (∀y∈us,EqAt A s y u (eqD (datOf H y) d))/\us.any (λy=>eqD (datOf H y) d)=inD d ds
 | [],vs,us,c,r1,_=>by cases c;cases r1;exact⟨by simp,rfl⟩
 | e::ds,vs,us,c,r1,x=>by
  obtain⟨j,i,q,f,p⟩:=c;subst q;rw[depDs]at x;cases r1 with
  | @cons _ m _ l r1 o =>
   obtain⟨C,B⟩:=uW ok (A:=A) h r ds i l p o (by lia);have hd:=eqAtD ok e d A j v m u f h r1 r (by lia);have g:=M7 r1 f;refine⟨λy t=>?_,?_⟩
   ·rcases cu.mp t with z|z
    ·subst z;rw[g];exact hd
    ·exact C y z
   ·rw[List.any_cons,g,B];rfl
theorem SL (z:X.A.units+64<cLine):jZ X (compareOp .In) (λx y H Q=>rInD false x y H Q∨∃i j,x = .str i/\y = .str j/\Q (.bl (!(Builtin.Str.occurrences j i 0 j.length 1).isEmpty)) H):=by
 refine jZ.or ?_ qG;intro w s σ H x y v u Q I t r h;obtain⟨d,ds,hd,c,hz,q⟩:=h;have q:Q (.bl (inD d ds)) H:=q;rcases c with⟨a,vs,e,m,g⟩|⟨a,vs,e,m,g⟩
 ·subst e;cases r;obtain⟨its,f,l⟩:=iD I.hok m;obtain⟨p,o⟩:=uW I.hok (A:=X.A.in1) hd t ds vs its g f (by rw[eD];lia);refine in_listAt (λy=>eqD (datOf H y) d) l (λy c=>p y (by simpa using c)) ?_;refine⟨.bl (inD d ds),H,I,?_,q⟩;show _=Value.bool _;rw[←o];simp
 ·subst e;cases r;obtain⟨its,f,l⟩:=jP I.hok m;obtain⟨p,o⟩:=uW I.hok (A:=X.A.in1) hd t ds vs its g f (by rw[eD];lia);refine in_tupleAt (λy=>eqD (datOf H y) d) l (λy c=>p y (by simpa using c)) ?_;refine⟨.bl (inD d ds),H,I,?_,q⟩;show _=Value.bool _;rw[←o];simp
theorem IC (z:X.A.units+64<cLine):jZ X (compareOp .NotIn) (λx y H Q=>rInD true x y H Q∨∃i j,x = .str i/\y = .str j/\Q (.bl (!(!(Builtin.Str.occurrences j i 0 j.length 1).isEmpty))) H):=by
 refine jZ.or ?_ zM;intro w s σ H x y v u Q I t r h;obtain⟨d,ds,hd,c,hz,q⟩:=h;have q:Q (.bl (!inD d ds)) H:=q;rcases c with⟨a,vs,e,m,g⟩|⟨a,vs,e,m,g⟩
 ·subst e;cases r;obtain⟨its,f,l⟩:=iD I.hok m;obtain⟨p,o⟩:=uW I.hok (A:=X.A.in1) hd t ds vs its g f (by rw[eD];lia);refine notIn_listAt (λy=>eqD (datOf H y) d) l (λy c=>p y (by simpa using c)) ?_;refine⟨.bl (!inD d ds),H,I,?_,q⟩;show _=Value.bool _;rw[←o];simp
 ·subst e;cases r;obtain⟨its,f,l⟩:=jP I.hok m;obtain⟨p,o⟩:=uW I.hok (A:=X.A.in1) hd t ds vs its g f (by rw[eD];lia);refine notIn_tupleAt (λy=>eqD (datOf H y) d) l (λy c=>p y (by simpa using c)) ?_;refine⟨.bl (!inD d ds),H,I,?_,q⟩;show _=Value.bool _;rw[←o];simp
end
end L2
namespace L2
open PySem PySem.Spec PyProof.Rows
section
variable {X:Cx}{pins:cW}{σ:St}{H:Hp}{s:Shared}
noncomputable def tyN (H:Hp):V->Option String
 | .non=>some "NoneType"
 | .bl _=>some "bool"
 | .int _=>some "int"
 | .str _=>some "str"
 | .ref p=>match H p with
  | some (.lst _)=>some "list"
  | some (.tup _)=>some "tuple"
  | some (.dK _)=>some "dict"
  | _=>none
 | _=>none
noncomputable def okT (c:String):Bool:=c == "str" || c == "int" || c == "bool" || c == "list" || c == "tuple" || c == "dict"
noncomputable def subT (t c:String):Bool:=t == c || (t == "bool" && c == "int")
noncomputable def tysV:List V->Option (List String)
 | []=>some []
 | .ty n::r=>(tysV r).map (n :: ·)
 | _::_=>none
noncomputable def clsV (H:Hp):V->Option (List String)
 | .ty n=>some [n]
 | .ref p=>match H p with
  | some (.tup vs)=>tysV vs
  | _=>none
 | _=>none
noncomputable def isV (H:Hp)(x c:V):Option Bool:=match tyN H x,clsV H c with
 | some t,some d=>if d.all okT then some (d.any (subT t))else none
 | _,_=>none
theorem UP {x:V}{u:Value}{t:String}(I:aN X pins σ H s)(c:aQ x u)(e:tyN H x=some t) :
  ∃HH:Heap->Prop,PySem.W.KitX X.K u (.type t) HH/\HH s.heap/\u≠.builtin "__main__.__loader__#opaque":=by
 cases x with
 | non=>cases e;cases c;exact⟨_,PySem.W.kitx_none,True.intro,λz=>nomatch z⟩
 | bl b=>cases e;cases c;exact⟨_,PySem.W.kitx_bool,True.intro,λz=>nomatch z⟩
 | int i=>cases e;obtain⟨t,rfl⟩:=c;exact⟨_,PySem.W.kitx_int,True.intro,λz=>nomatch z⟩
 | str i=>cases e;obtain⟨t,rfl⟩:=c;exact⟨_,PySem.W.kitx_str,True.intro,λz=>nomatch z⟩
 | ref p =>
  cases c;unfold tyN at e;dsimp only at e;split at e
  ·rename_i xs d;cases e;obtain⟨_,_,n,_,f⟩:=(show cD X.prog X.w H s.heap p (.lst xs)from I.hok p _ d)
   exact⟨_,PySem.W.kitx_list,⟨_,f,rfl⟩,λz=>nomatch z⟩
  ·rename_i xs d;cases e;obtain⟨_,_,_,o,f,h,_⟩:=(show cD X.prog X.w H s.heap p (.tup xs)from I.hok p _ d)
   exact⟨_,PySem.W.kitx_tuple,⟨o,f,h⟩,λz=>nomatch z⟩
  ·rename_i g d;cases e;obtain⟨_,_,vs,_,o,j,l,f,h,_⟩:=(show cD X.prog X.w H s.heap p (.dK g)from I.hok p _ d)
   exact⟨_,PySem.W.kitx_dict,⟨o,f,h.1⟩,λz=>nomatch z⟩
  ·cases e
 | _=>cases e
theorem RQ (e:tyN H x=some t):t="NoneType"∨t="bool"∨t="int"∨t="str"∨t="list"∨t="tuple"∨t="dict":=by
 cases x with
 | non=>cases e;simp
 | bl b=>cases e;simp
 | int i=>cases e;simp
 | str i=>cases e;simp
 | ref p =>
  unfold tyN at e;dsimp only at e;split at e <;> cases e <;> simp
 | _=>cases e
theorem SW (e:okT c=true):c="str"∨c="int"∨c="bool"∨c="list"∨c="tuple"∨c="dict":=by simp only[okT,Bool.or_eq_true,beq_iff_eq]at e;rcases e with((((e|e)|e)|e)|e)|e <;> simp[e]
theorem GO {K:PySem.W.Frag}{x:V}{t c:String}(e:tyN H x=some t)(hc:okT c=true):PySem.W.kitOne K (.type t) (.type c)=some (subT t c):=by rcases RQ e with rfl|rfl|rfl|rfl|rfl|rfl|rfl <;> rcases SW hc with rfl|rfl|rfl|rfl|rfl|rfl <;> with_unfolding_all rfl
theorem GP {K:PySem.W.Frag}{x:V}{t:String}(e:tyN H x=some t):∀{d:List String},d.all okT=true->PySem.W.kitAny K (.type t) (d.map Value.type)=some (d.any (subT t))
 | [],_=>rfl
 | c::r,h=>by
  replace h:=Bool.and_eq_true_iff.mp (List.all_cons ▸ h)
  rw[bf];unfold PySem.W.kitAny;rw[GO e h.1];cases q:subT t c with
  | true=>simp[q]
  | false=>simp only[List.any_cons,q,Bool.false_or];exact GP e h.2
theorem wS:∀{vs:List V} {c:List String} {us:cS},tysV vs=some c->aR vs us->us=c.map Value.type
 | [],c,us,h,r=>by cases h;cases r;rfl
 | .ty n::vs,c,us,h,r=>by
  unfold tysV at h;cases e:tysV vs with
  | none=>rw[e]at h;cases h
  | some f =>
   rw[e]at h;cases h;cases r with
   | cons r1 d =>
    cases r1;rw[bf,wS e d]
 | .non::_,_,_,h,_=>by cases h
 | .bl _::_,_,_,h,_=>by cases h
 | .int _::_,_,_,h,_=>by cases h
 | .str _::_,_,_,h,_=>by cases h
 | .byt _::_,_,_,h,_=>by cases h
 | .flt _::_,_,_,h,_=>by cases h
 | .ref _::_,_,_,h,_=>by cases h
def rIs:List V->Hp->VK->Prop:=λxs H Q=>∃x c b,xs=[x,c]/\isV H x c=some b/\Q (.bl b) H
theorem aM:cN X (.builtin "isinstance") rIs:=by
 intro f s σ H xs us Q I r h;obtain⟨x,c,b,rfl,e,q⟩:=h;cases r with
 | cons v B =>
  cases B with
  | cons m A =>
   cases A;unfold isV at e;split at e
   ·rename_i t J l d;split at e
    ·rename_i i;cases e;obtain⟨HH,Z,u,g⟩:=UP I v l;have fin:∀tk,EP X f σ Q (.bool (J.any (subT t))) {s with toks:=tk}:=λtk=>⟨.bl _,H,I.tok tk,rfl,q⟩
     cases c with
     | ty n =>
      cases m;cases d;have j:okT n=true:=by simpa using i
      refine PySem.W.kia_one Z I.kIn u (GO l j) g ?_;intro tk;have:=fin tk
      simpa using this
     | ref p =>
      cases m;unfold clsV at d;dsimp only at d;split at d
      ·rename_i vs C;obtain⟨_,its,z,o,j,F,n,E⟩:=(show cD X.prog X.w H s.heap p (.tup vs)from I.hok p _ C)
       obtain⟨cl,N,L,K⟩:=o;cases F;cases E;have G:=wS d z;subst G;exact PySem.W.kia_tup Z I.kIn u j (GP l i) g fin
      ·cases d
     | _=>cases d
    ·cases e
   ·cases e
noncomputable def seqV (H:Hp):V->Option (List V)
 | .ref p=>match H p with
  | some (.lst xs)=>some xs
  | some (.tup xs)=>some xs
  | _=>none
 | _=>none
theorem vJ:cN X (.type "list") (λxs H Q=>∃x ys,xs=[x]/\seqV H x=some ys/\∀l,H l=none->Q (.ref l) (upd H l (.lst ys))):=by
 refine AK.imp λxs H Q h=>?_;obtain⟨x,ys,rfl,e,q⟩:=h;cases x with
 | ref p =>
  unfold seqV at e;dsimp only at e;split at e
  ·rename_i d c;cases e;exact⟨p,_,rfl,.inl (eV.of c),q⟩
  ·rename_i d c;cases e;exact⟨p,_,rfl,.inr (iG.of c),q⟩
  ·cases e
 | _=>cases e
theorem JY:cN X (.builtin "abs") (λxs H Q=>∃i,xs=[.int i]/\Q (.int (if i<0 then -i else i)) H):=M8
def rSlF:V->Option Int->Option Int->Hp->VK->Prop:=λx lo hi H Q=>∃a,x = .ref a /\
 ((∃xs,H a=some (.lst xs)/\∀p,H p=none->Q (.ref p) (upd H p (.lst (cutV xs lo hi)))) ∨
  (∃xs,H a=some (.tup xs)/\¬(HT.sIx xs.length 0 lo=0/\HT.sIx xs.length xs.length hi=xs.length)/\∀p,H p=none->Q (.ref p) (upd H p (.tup (cutV xs lo hi)))))
end
def sI (J:It)(g:TG)(f:TS)(D:jD)(σ:St)(j:Hp):Prop:=∃W:Nat->Nat->St->Hp->Prop,(∃m,W 0 m σ j)/\∀i m σ H,W i m σ H ->
 (J.stop i H/\D.nx σ H)∨(J.go i H/\∃N:St->Hp->Prop,(∀c H',N c H'->∃d,d<m/\W (i+1) d c H')/\∀x H',J.yld i H x H'->g x σ H' λe h=>f {D with nx:=N,ct:=N,bk:=D.nx} e h)
theorem tFor_eq {c:TI}{g:TG}{d:TS}{D:jD}{σ:St}{H:Hp}:tFor c g d D σ H=c σ H λJ e=>sI J g d D σ e:=rfl
def nH (J:It)(g:TG)(d:TT)(e:TE)(Q:VK)(σ:St)(f:Hp):Prop:=∃W:CW,(∃m,W 0 m [] σ f)/\RJ J g d e (λc H=>∀p,H p=none->Q (.ref p) (upd H p (.lst c))) W
theorem tComp_eq {src:List (Option Nat)}{c:TI}{g:TG}{d:TT}{e:TE}{σ:St}{H:Hp}{Q:VK}:tComp src c g d e σ H Q=c σ H λJ f=>nH J g d e Q (stC src σ) f:=rfl
section
variable {X:Cx}{tg:Expr}
def iAny (K:PySem.W.Frag)(tl:TE):TI:=λσ H R=>tl σ H λx c=>∃a,x = .ref a/\((∃xs,c a=some (.lst xs)/\R (RH K a) c)∨(∃xs,c a=some (.tup xs)/\R (RG K a) c))
end
section
variable {g:TG}{tb:TS}{D:jD}{σ:St}{H:Hp}{tt:TT}{te:TE}{Q:VK}{K:PySem.W.Frag}
theorem fR {lo:Int}{n:Nat}(Pv:Nat->St->Hp->Prop)(e:Pv 0 σ H)
  (d:∀i σ H,i<n->Pv i σ H->g (.int (lo+i)) σ H λc f=>tb {D with nx:=Pv (i+1),ct:=Pv (i+1),bk:=D.nx} c f) (hd:∀σ H,Pv n σ H->D.nx σ H):sI (NN lo n) g tb D σ H:=JE Pv e d hd
theorem JG {a:Addr}(xs:List V)(Pv:Nat->St->Hp->Prop)(f:Pv 0 σ H)(e:∀i σ H,i<=xs.length->Pv i σ H->H a=some (.lst xs))
  (d:∀i x σ H,xs[i]?=some x->Pv i σ H->g x σ H λc h=>tb {D with nx:=Pv (i+1),ct:=Pv (i+1),bk:=D.nx} c h) (hd:∀σ H,Pv xs.length σ H->D.nx σ H):sI (RH K a) g tb D σ H :=
 MO Pv f (λi σ H hi p=>eV.of (e i σ H hi p)) d hd
theorem MP {a:Addr}(xs:List V)(Pv:Nat->St->Hp->Prop)(f:Pv 0 σ H)(e:∀i σ H,i<=xs.length->Pv i σ H->H a=some (.tup xs))
  (d:∀i x σ H,xs[i]?=some x->Pv i σ H->g x σ H λc h=>tb {D with nx:=Pv (i+1),ct:=Pv (i+1),bk:=D.nx} c h) (hd:∀σ H,Pv xs.length σ H->D.nx σ H):sI (RG K a) g tb D σ H :=
 P6 Pv f (λi σ H hi p=>iG.of (e i σ H hi p)) d hd
def CStep (g:TG)(f:TT)(h:TE)(x:V)(c:List V)(σ:St)(H:Hp)(N:List V->St->Hp->Prop):Prop :=
 g x σ H λd j=>f d j λb e=>if b=true then h d e λy i=>c.length<sizeLine/\N (c++[y]) d i else N c d e
theorem pD {J:It}{n:Nat}(Pv:Nat->List V->St->Hp->Prop)(j:Pv 0 [] σ H)
  (h:∀i c σ H,i<n->Pv i c σ H->J.go i H/\∀x H',J.yld i H x H'->CStep g tt te x c σ H' (Pv (i+1)))
  (hd:∀c σ H,Pv n c σ H->J.stop n H/\∀p,H p=none->Q (.ref p) (upd H p (.lst c))):nH J g tt te Q σ H:=by
 refine⟨λi m c σ H=>m=n - i/\i<=n/\Pv i c σ H,⟨n,by simp,ax _,j⟩,?_⟩;rintro i m c σ H ⟨rfl,hi,p⟩;by_cases d:i<n
 ·obtain⟨go,step⟩:=h i c σ H d p;refine .inr ⟨go,λx H' y=>?_⟩;have e:∀c σ H,(∃f,f<n - i/\f=n - (i+1)/\i+1<=n/\Pv (i+1) c σ H)=Pv (i+1) c σ H:=λc σ H=>propext ⟨λ⟨_,_,_,_,q⟩=>q,λq=>⟨n - (i+1),by lia,rfl,d,q⟩⟩;simp only[e];exact step x H' y
 ·have e:i=n:=by lia
  subst e;obtain⟨a,b⟩:=hd c σ H p;exact .inl ⟨a,b⟩
theorem C3 {lo:Int}{n:Nat}(Pv:Nat->List V->St->Hp->Prop)(e:Pv 0 [] σ H)(d:∀i c σ H,i<n->Pv i c σ H->CStep g tt te (.int (lo+i)) c σ H (Pv (i+1)))
  (hd:∀c σ H,Pv n c σ H->∀p,H p=none->Q (.ref p) (upd H p (.lst c))):nH (NN lo n) g tt te Q σ H :=
 pD Pv e (λi c σ H hi p=>⟨hi,λx H' y=>by obtain⟨rfl,rfl⟩:=y;exact d i c σ _ hi p⟩) λc σ H p=>⟨ac _,hd c σ H p⟩
theorem FH {a:Addr}(xs:List V)(Pv:Nat->List V->St->Hp->Prop)(f:Pv 0 [] σ H)(d:∀i c σ H,i<=xs.length->Pv i c σ H->H a=some (.lst xs))
  (e:∀i x c σ H,xs[i]?=some x->Pv i c σ H->CStep g tt te x c σ H (Pv (i+1))) (hd:∀c σ H,Pv xs.length c σ H->∀p,H p=none->Q (.ref p) (upd H p (.lst c))):nH (RH K a) g tt te Q σ H :=
 pD (n:=xs.length) Pv f (λi c σ H hi p=>⟨⟨xs,xs[i],eV.of (d i c σ H (Nat.le_of_lt hi) p),by simp[hi]⟩,λx H' y=>by obtain⟨rfl,y⟩:=y;exact e i x c σ _ (y xs (eV.of (d i c σ _ (Nat.le_of_lt hi) p))) p⟩)
  λc σ H p=>⟨⟨xs,eV.of (d _ c σ H (ac _) p),ac _⟩,hd c σ H p⟩
theorem JP {a:Addr}(xs:List V)(Pv:Nat->List V->St->Hp->Prop)(f:Pv 0 [] σ H)(d:∀i c σ H,i<=xs.length->Pv i c σ H->H a=some (.tup xs))
  (e:∀i x c σ H,xs[i]?=some x->Pv i c σ H->CStep g tt te x c σ H (Pv (i+1))) (hd:∀c σ H,Pv xs.length c σ H->∀p,H p=none->Q (.ref p) (upd H p (.lst c))):nH (RG K a) g tt te Q σ H :=
 pD (n:=xs.length) Pv f (λi c σ H hi p=>⟨⟨xs,xs[i],iG.of (d i c σ H (Nat.le_of_lt hi) p),by simp[hi]⟩,λx H' y=>by obtain⟨rfl,y⟩:=y;exact e i x c σ _ (y xs (iG.of (d i c σ _ (Nat.le_of_lt hi) p))) p⟩)
  λc σ H p=>⟨⟨xs,iG.of (d _ c σ H (ac _) p),ac _⟩,hd c σ H p⟩
theorem RO {c:TT}(Pv:St->Hp->Prop)(μ:St->Hp->Nat)(i:Pv σ H)
  (g:∀σ H,Pv σ H->∃b:Bool,(∀R:Bool->Hp->Prop,R b H->c σ H R)/\(b=true->tb {D with nx:=λd H'=>Pv d H'/\μ d H'<μ σ H,ct:=λd H'=>Pv d H'/\μ d H'<μ σ H,bk:=D.nx} σ H)/\(b=false->D.nx σ H)):tR c tb D σ H:=by
 refine⟨λm σ H=>m=μ σ H/\Pv σ H,⟨_,rfl,i⟩,?_⟩;rintro m σ H ⟨rfl,p⟩;obtain⟨b,hc,f,h⟩:=g σ H p;refine hc _ ?_;cases b with
 | true=>exact⟨_,λd H' ⟨e,l⟩=>⟨_,l,rfl,e⟩,f rfl⟩
 | false=>exact h rfl
theorem EY {n:Nat}{i:Int}(d:0<=i)(c:i<n):ixN n i=some i.toNat:=by unfold ixN;rw[ai d,ai c]
theorem jW {α:Type}{xs:List α}{i:Int}(d:0<=i)(c:i<xs.length):atI xs i=xs[i.toNat]?:=by unfold atI;rw[EY d c];rfl
theorem atI_zero {α:Type}{a:α}{xs:List α}:atI (a::xs) 0=some a:=by rw[jW (by decide) (by simp only[au];lia)];rfl
theorem atI_one {α:Type}{a b:α}{xs:List α}:atI (a::b::xs) 1=some b:=by rw[jW (by decide) (by simp only[au];lia)];rfl
theorem ixN_zero:ixN (n+1) 0=some 0:=by rw[EY (by decide) (by lia)];rfl
theorem ixN_one:ixN (n+1+1) 1=some 1:=by rw[EY (by decide) (by lia)];rfl
end
theorem aG.upd (h:H a=none):aG H (upd H a o):=λb u e=>by rw[aC (aE e h)];exact e
def bU (p:Addr)(H H':Hp):Prop:=∀b o,b≠p->H b=some o->H' b=some o
theorem bU.refl (p:Addr)(H:Hp):bU p H H:=λ_ _ _ h=>h
theorem bU.trans (a:bU p H H1)(b:bU p H1 H2):bU p H H2:=λc o n h=>b c o n (a c o n h)
theorem bU.upd (p:Addr)(H:Hp)(o:HO):bU p H (upd H p o):=λc u n h=>by rw[aC n];exact h
theorem bU.new (h:H a=none):bU p H (L2.upd H a o):=λc u n e=>by rw[aC (aE e h)];exact e
theorem aG.but (s:aG H H'):bU p H H':=λb o _ h=>s b o h
end L2
namespace L2
open PySem PySem.Spec PyProof.Rows PyProof.Rows.LSm
section
variable {X:Cx}
theorem rK:∀{bs:List Bool} {us:cS},aR (bs.map V.bl) us->BoolsAre us bs
 | [],_,r=>by cases r;exact .nil
 | b::bs,_,r=>by
  cases r with
  | cons r1 c=>cases r1;exact .cons b (rK c)
theorem EZ {E:cJ}(d:Bool){K:Bool->Shared->Prop}{c:Nat->(Nat->Bool)->Bool}(o:A.handled=none)(at_:s.heap.IsList p its.toArray)(g:BoolsAre its bs)
  (k:∀h' tk,(∀b x,s.heap.get? b=some x->h'.get? b=some x)->K (c bs.length λi=>(bs[i]?).getD d) {s with heap:=h',toks:=tk}) :
  wpAny (model prog w) A (pyIter (.ref p)) (λit t=>∃I fp j n P St tr,it = .ref I/\Walks prog w A I fp j n P St/\St 0 t.heap/\TruthOf prog w A P tr /\
   ∀h' tk,(∀b x,b∉j->t.heap.get? b=some x->h'.get? b=some x)->K (c n tr) {t with heap:=h',toks:=tk}) E s:=by
 have ne:p≠s.heap.objs.size:=let⟨_,e,_⟩:=id at_;bq (bd e);have f:TruthOf prog w A (λi v=>its.toArray[i]?=some v) λi=>(bs[i]?).getD d:=by intro i v t Q X l h;obtain⟨b,is,rfl⟩:=LSm.BoolsAre.get g i v (by simpa using l);have h:Q ((bs[i]?).getD d) t:=h;rw[is]at h;exact wpAny_truthy_bool h
 have len:its.toArray.size=bs.length:=(ag ..).trans (LSm.BoolsAre.length g);refine wpAny_pyIter_list at_ ⟨_,_,_,_,_,_,_,rfl,Walks.list o s.heap.objs.size p ne its.toArray,?_,f,λh' tk m=>?_⟩
 ·exact aI ⟨_,aw _ rfl,rfl,rfl⟩ (at_.push _)
 ·rw[len];exact k h' tk (LSm.kept_iter m)
def rAll:List V->Hp->VK->Prop:=λxs H Q=>∃(p:Addr) (bs:List Bool),xs=[.ref p]/\H p=some (.lst (bs.map V.bl))/\Q (.bl (bs.all id)) H
def rAny:List V->Hp->VK->Prop:=λxs H Q=>∃(p:Addr) (bs:List Bool),xs=[.ref p]/\H p=some (.lst (bs.map V.bl))/\Q (.bl (bs.any id)) H
def rSum:List V->Hp->VK->Prop:=λxs H Q=>∃(p:Addr) (ns:List Int),xs=[.ref p]/\H p=some (.lst (ns.map V.int))/\Q (.int ns.sum) H
theorem vK (hc:X.calm=true){f:Nat->(Nat->Bool)->Bool}{c:List Bool->Bool}(d:Bool)(is:∀bs:List Bool,f bs.length (λi=>(bs[i]?).getD d)=c bs)
  (h:∀{s:Shared} {x:Value} {Q E:cJ},wpAny (model X.prog X.w) X.A.in1 (pyIter x) (λit t=>∃I fp j n P St tr,it = .ref I/\Walks X.prog X.w X.A.in1 I fp j n P St/\St 0 t.heap/\TruthOf X.prog X.w X.A.in1 P tr /\
   ∀h' tk,(∀b x,b∉j->t.heap.get? b=some x->h'.get? b=some x)->Q (.bool (f n tr)) {t with heap:=h',toks:=tk}) E s->wpAny (model X.prog X.w) X.A (call (.builtin nm) [x]) Q E s) :
  cN X (.builtin nm) λxs H Q=>∃(p:Addr) (bs:List Bool),xs=[.ref p]/\H p=some (.lst (bs.map V.bl))/\Q (.bl (c bs)) H:=by
 rintro g s σ H _ us Q I r ⟨p,bs,rfl,m,q⟩;obtain⟨u,rfl,e⟩:=vals1 r;cases e;obtain⟨its,l,pl,_⟩:=I.list (eV.of m);refine h (EZ (K:=λb t=>EP X g σ Q (.bool b) t) d (show X.A.in1.handled=none from I.ok.hd hc) pl.isList (rK l) λh' tk o=>?_);rw[is bs];exact⟨.bl (c bs),H,I.kept (t':=tk) o,rfl,q⟩
theorem qU (hc:X.calm=true):cN X (.builtin "all") rAll:=vK hc true LSm.range_all call_all_walk
theorem JX (hc:X.calm=true):cN X (.builtin "any") rAny:=vK hc false LSm.range_any call_any_walk
theorem JT (hc:X.calm=true):cN X (.builtin "max") (λxs H Q=>∃i j,xs=[.int i,.int j]/\Q (.int (if j > i then j else i)) H):=JU hc
theorem yF (hc:X.calm=true):cN X (.builtin "min") (λxs H Q=>∃i j,xs=[.int i,.int j]/\Q (.int (if j<i then j else i)) H):=JS hc
end
end L2
namespace L2
open PySem PySem.Spec PyProof.Rows
section
variable {X:Cx}{pins:cW}{σ:St}{H:Hp}{s:Shared}{h':Heap}
theorem aN.turnedL {t':Nat}{ch:List Addr}(I:aN X pins σ H s)(k:∀b o,b∉ch->s.heap.get? b=some o->h'.get? b=some o)(f:∀b∈ch,fC X pins H b):aN X pins σ H {s with heap:=h',toks:=t'}:=by
 have d:∀b u,H b=some u->b∉ch:=λb u e z=>by rw[(f b z).1]at e;cases e
 have h:X.env.locals∉ch:=λz=>(f _ z).2.1 rfl;refine I.step (g':=s.gens) (d':=s.drawn) (ch:=ch) (λb hb=>?_) (λb o _ _ hc e _=>k b o hc e) (λb o _ _ hc e _=>⟨o.slots,k b o hc e⟩) (λ_ _ _ _ n=>n)
  (λb o hc e=>⟨o,k b o hc e⟩) (λ_ _ e=>e) (λ_ _ _ e=>e) (λb ps e=>⟨#[],by rw[e];simp⟩) (λm g=>?_) (λb u e=>?_) I.bare
 ·obtain⟨f0,f1,f2,f3,f4,i⟩:=f b hb;exact⟨f3,f1,f4,i⟩
 ·obtain⟨o,j,l,ho,r⟩:=g;exact⟨o,j,l,k _ o h ho,r⟩
 ·refine(I.hok b u e).stay (λc v hc q=>k c v ?_ q) (λ_ q=>q) λ_ _ q=>q;rcases hc with z|z
  ·rw[z];exact d b u e
  ·exact d c _ z
theorem aN.turnedLaid {t':Nat}{ch:List Addr}{T:Addr}{o:HO}(I:aN X pins σ H s)(k:∀b o,b∉ch->s.heap.get? b=some o->h'.get? b=some o)(h:∀b∈ch,fC X pins H b)
  (i:s.heap.objs.size<=T) (new:cD X.prog X.w (upd H T o) h' T o):aN X pins σ (upd H T o) {s with heap:=h',toks:=t'}:=by
 have f:H T=none:=I.hok.fresh i;have d:∀b u,H b=some u->b∉ch:=λb u e z=>by rw[(h b z).1]at e;cases e
 have l:X.env.locals∉ch:=λz=>(h _ z).2.1 rfl;have lt:∀b g,s.heap.get? b=some g->b≠T:=λb g e=>bq (bg (bd e) i);refine I.step (g':=s.gens) (d':=s.drawn) (ch:=ch) (λb hb=>?_) (λb o _ _ hc e _=>k b o hc e) (λb o _ _ hc e _=>⟨o.slots,k b o hc e⟩) (λb g _ e n=>by rw[aC (lt b g e)];exact n)
  (λb o hc e=>⟨o,k b o hc e⟩) (λb xs e=>by rw[aC (aE e f)];exact e) (λb _ _ e=>by rw[aC (aE e f)];exact e) (λb ps e=>⟨#[],by rw[aC (aE e f),e];simp⟩) (λm j=>?_) (λb u e=>?_) I.bare
 ·obtain⟨f0,f1,f2,f3,f4,p⟩:=h b hb;exact⟨f3,f1,f4,p⟩
 ·obtain⟨o,t,x,ho,r⟩:=j;exact⟨o,t,x,k _ o l ho,r⟩
 ·by_cases hb:b=T
  ·subst hb;rw[upd_same]at e;cases e;exact new
  ·rw[aC hb]at e;refine(I.hok b u e).stay (λc v hc q=>k c v ?_ q) (λc q=>by rw[aC (aE q f)];exact q) λc xs q=>by rw[aC (aE q f)];exact q
   rcases hc with z|z
   ·rw[z];exact d b u e
   ·exact d c _ z
end
noncomputable def V5 (K:PySem.W.Frag)(a b:Addr):It :=
 ⟨λi H=>∃xs ys x y,eV K H a xs/\eV K H b ys/\xs[i]?=some x/\ys[i]?=some y,
  λi H z H'=>∃T x y,z = .ref T/\H T=none/\H'=upd H T (.tup [x,y])/\∀xs ys,eV K H a xs->eV K H b ys->xs[i]?=some x/\ys[i]?=some y,
  λi H=>∃xs ys,eV K H a xs/\eV K H b ys/\(xs.length<=i∨ys.length<=i)⟩
structure ZipAt (z TI TO i1 i2:Addr):Prop where
 TIz:TI≠z
 TOz:TO≠z
 i1z:i1≠z
 i2z:i2≠z
 TITO:TI≠TO
 TIi1:TI≠i1
 TIi2:TI≠i2
 TOi1:TO≠i1
 TOi2:TO≠i2
 i12:i1≠i2
section
variable {X:Cx}{elts:pO}{tk0:_}{tpos:Pos}
def iZip (K:PySem.W.Frag)(d:TA):TI:=λσ H R=>d σ H λvs c=>∃a b,vs=[.ref a,.ref b]/\(∃xs,eV K c a xs)/\(∃ys,eV K c b ys)/\R (V5 K a b) c
end
def UA (J:It)(g:TG)(h:TT)(j:TE)(Fin:List V->St->Hp->Prop)(W:CW):Prop:=∀i m c σ H,W i m c σ H ->
 (J.stop i H/\Fin c σ H) ∨
 (J.go i H/\∀x H',J.yld i H x H'->g x σ H' λe o=>h e o λb f =>
  if b=true then j e f λy l=>c.length<sizeLine/\∃d,d<m/\W (i+1) d (c++[y]) e l else ∃d,d<m/\W (i+1) d c e f)
def V7 (J:It)(g:TG)(d:TT)(e:TE)(Fin:List V->St->Hp->Prop)(c:List V)(σ:St)(H:Hp):Prop:=∃W:CW,(∃m,W 0 m c σ H)/\UA J g d e Fin W
def NL (J:It)(q:TG)(e:TI)(o:TG)(j:TT)(l:TE)(Q:VK)(σ:St)(v:Hp):Prop:=∃W:CW,(∃m,W 0 m [] σ v)/\∀i m c σ H,W i m c σ H ->
 (J.stop i H/\∀p,H p=none->Q (.ref p) (upd H p (.lst c))) ∨
 (J.go i H/\∀x H',J.yld i H x H'->q x σ H' λf u=>e f u λr t=>V7 r o j l (λd h s=>∃g,g<m/\W (i+1) g d h s) c f t)
def RZ (src:List (Option Nat))(d:TI)(h:TG)(c:TI)(g:TG)(e:TT)(f:TE):TE:=λσ H Q=>d σ H λJ i=>NL J h c g e f Q (stC src σ) i
end L2
namespace L2
open PySem PySem.Spec PyProof.Rows
open PySem.AutoSeq1 (wpAny_loadPart')
open PySem.MeetsSeq PySem.MeetsSeq2 PySem.MeetsSeq3
noncomputable abbrev ltAsk (l b:Addr)(i:Nat):Args:=⟨[.ref l,.ref b,rawInt i,rawInt 0],[]⟩
end L2
namespace L2
open PySem PySem.Spec PyProof.Rows
section
variable {X:Cx}{pos:Pos}
theorem OK (hc:X.calm=true)(e:X.N.Nodup)(hi:X.N[i]?=some x)(f:X.N[j]?=some y)(d:X.env.scope.names.lookup x=some .local)(c:X.env.scope.names.lookup y=some .local) :
  PG X (.Tuple [.Name x px,.Name y py] k pos) (gTup X.K 2 (gCons (gName i) (gCons (gName j) gNil))) :=
 K6 hc (oR (bP e hi (.inl d) (.inr d)) (oR (bP e f (.inl c) (.inr c)) F8))
end
section
variable {g g1 g2:TG}{tb:TS}{D:jD}{σ:St}{H:Hp}{tt:TT}{te:TE}{Q:VK}{K:PySem.W.Frag}{wi2:TI}{acc:List V}{Fin:List V->St->Hp->Prop}
theorem tComp2_eq {src:List (Option Nat)}{c:TI}{σ:St}{H:Hp}{Q:VK}:RZ src c g1 wi2 g2 tt te σ H Q=c σ H λJ d=>NL J g1 wi2 g2 tt te Q (stC src σ) d:=rfl
end
section
variable {X:Cx}
def rN0:Prop:=False
noncomputable def rNo:R2:=λx y _ _=>∃a b,x = .ref a/\y = .ref b/\rN0
theorem jU (f:X.A.units+64<cLine):jZ X (compareOp .Lt) (λx y H Q=>(rI0 (λi j=>.bl (decide (i<j))) x y H Q∨(∃i j,x = .str i/\y = .str j/\Q (.bl (decide (i.cps.toList<j.cps.toList))) H))∨rNo x y H Q) :=
 λc s σ H x y v u Q I e d h=>(UM.or IB) c s σ H x y v u Q I e d (h.elim id λ⟨_,_,_,_,z⟩=>(show False from z).elim)
end
section
variable {H:Hp}{a p:Addr}{xs:List V}{Q:VK}{K:PySem.W.Frag}
theorem rIs_eq:rIs [x,c] H Q = ∃b,isV H x c=some b/\Q (.bl b) H:=propext ⟨λ⟨d,f,b,e,h,q⟩=>by cases e;exact⟨b,h,q⟩,λ⟨b,h,q⟩=>⟨x,c,b,rfl,h,q⟩⟩
theorem truV_bl:QR K (.bl b) H k=(k=b):=rfl
theorem isV_ii:isV H (.int n) (.ty "int")=some true:=rfl
theorem isV_ib:isV H (.int n) (.ty "bool")=some false:=rfl
theorem isV_bb:isV H (.bl n) (.ty "bool")=some true:=rfl
theorem isV_ll (h:H a=some (.lst xs)):isV H (.ref a) (.ty "list")=some true:=by unfold isV tyN;simp only[h];rfl
theorem ML (h:H a=some (.lst xs))(c:H p=some (.tup [.ty "list",.ty "tuple"])):isV H (.ref a) (.ref p)=some true:=by unfold isV tyN clsV;simp only[h,c];rfl
theorem MK (h:H a=some (.tup xs))(c:H p=some (.tup [.ty "list",.ty "tuple"])):isV H (.ref a) (.ref p)=some true:=by unfold isV tyN clsV;simp only[h,c];rfl
theorem lenV_l (h:H a=some (.lst xs)):lenV H (.ref a)=some xs.length:=by unfold lenV;simp only[h]
theorem lenV_t (h:H a=some (.tup xs)):lenV H (.ref a)=some xs.length:=by unfold lenV;simp only[h]
theorem seqV_l (h:H a=some (.lst xs)):seqV H (.ref a)=some xs:=by unfold seqV;simp only[h]
theorem seqV_t (h:H a=some (.tup xs)):seqV H (.ref a)=some xs:=by unfold seqV;simp only[h]
theorem ixV_l (h:H a=some (.lst xs)):ixV H (.ref a) (.int i)=atI xs i:=by unfold ixV;simp only[h]
theorem ixV_t (h:H a=some (.tup xs)):ixV H (.ref a) (.int i)=atI xs i:=by unfold ixV;simp only[h]
end
section
def eW (H:Hp)(a:Addr)(xs:List V):Prop:=H a=some (.lst xs)∨H a=some (.tup xs)
theorem eW.same (h:eW H a xs)(s:aG H H'):eW H' a xs:=h.elim (λe=>.inl (s _ _ e)) λe=>.inr (s _ _ e)
variable {g:TG}{tt:TT}{te:TE}{Q:VK}{K:PySem.W.Frag}{σ:St}{H:Hp}
variable {tb:TS}{D:jD}
end
section
variable {X:Cx}{pos:Pos}{tg:Expr}
theorem cL (K:PySem.W.Frag)(g:X.K=K)(hc:X.calm=true)(f:X.N.Nodup)(hi:X.N[i]?=some x)(e:X.N[j]?=some y)(d:X.env.scope.names.lookup x=some .local)(c:X.env.scope.names.lookup y=some .local) :
  PG X (.Tuple [.Name x px,.Name y py] k pos) (gTup K 2 (gCons (gName i) (gCons (gName j) gNil))):=by subst g;exact OK hc f hi e d c
def tTruth (K:PySem.W.Frag)(d:TE):TT:=λσ H Q=>d σ H λx c=>∃k,QR K x c k/\Q k c
theorem aV (K:PySem.W.Frag)(f:X.K=K)(e:PE X a ta)(d:∀c,isTrue a X.env c=(do let v ←c;standAt a.pos;holding [v] (truthy v))):PT X a (tTruth K ta):=by subst f;exact K3 e d
end
def QZ (K:PySem.W.Frag)(a:Addr)(xs:List V)(J:It)(H:Hp):Prop:=(J=RH K a/\H a=some (.lst xs))∨(J=RG K a/\H a=some (.tup xs))
def iSq (K:PySem.W.Frag)(tl:TE):TI:=λσ H R=>tl σ H λx c=>∃a xs,x = .ref a/\eW c a xs/\∀J,QZ K a xs J c->R J c
section
variable {X:Cx}{tg:Expr}
theorem cV (K:PySem.W.Frag)(u:X.K=K)(t:PE X l tl):PI X tg l (iSq K tl):=by
 subst u;intro f s σ H R I h;refine thn (t f s σ H _ I h) λv c ⟨x,i,d,r1,m⟩=>?_;obtain⟨a,xs,e,r,q⟩:=m;subst e;cases r1;rcases r with g|g
 ·obtain⟨its,j,p,hz⟩:=d.list (eV.of g);refine wpAny_pyIter_list p.isList ?_;refine⟨c.heap.objs.size,[c.heap.objs.size],_,_,i,rfl,d.kept (t':=c.toks) λb o e=>af _ e,HD a _,⟨_,aw _ rfl,rfl,rfl⟩,λb hb=>?_,q _ (.inl ⟨rfl,g⟩)⟩;have e:b=c.heap.objs.size:=by simpa using hb
  subst e;exact d.fpOk (ac _) (d.hok.fresh (ac _))
 ·obtain⟨its,j,p,hz⟩:=d.tuple (iG.of g);refine wpAny_pyIter_tuple (show c.heap.IsTuple a its.toArray from p) ?_;refine⟨c.heap.objs.size,[c.heap.objs.size],_,_,i,rfl,d.kept (t':=c.toks) λb o e=>af _ e,DN a _,⟨_,aw _ rfl,rfl,rfl⟩,λb hb=>?_,q _ (.inr ⟨rfl,g⟩)⟩;have e:b=c.heap.objs.size:=by simpa using hb
  subst e;exact d.fpOk (ac _) (d.hok.fresh (ac _))
end
section
variable {g g1 g2:TG}{tb:TS}{D:jD}{σ:St}{H:Hp}{tt:TT}{te:TE}{Q:VK}{K:PySem.W.Frag}{wi2:TI}{J:It}{a:Addr}{xs:List V}
theorem jQ (j:QZ K a xs J H)(Pv:Nat->St->Hp->Prop)(f:Pv 0 σ H)(d:∀i σ H',i<=xs.length->Pv i σ H'->H' a=H a)
  (c:∀i x σ H,xs[i]?=some x->Pv i σ H->g x σ H λh l=>tb {D with nx:=Pv (i+1),ct:=Pv (i+1),bk:=D.nx} h l) (hd:∀σ H,Pv xs.length σ H->D.nx σ H):sI J g tb D σ H:=by
 rcases j with⟨rfl,e⟩|⟨rfl,e⟩
 ·exact JG xs Pv f (λi σ H' hi p=>(d i σ H' hi p).trans e) c hd
 ·exact MP xs Pv f (λi σ H' hi p=>(d i σ H' hi p).trans e) c hd
theorem cR (j:QZ K a xs J H)(Pv:Nat->List V->St->Hp->Prop)(h:Pv 0 [] σ H)(f:∀i c σ H',i<=xs.length->Pv i c σ H'->H' a=H a)
  (d:∀i x c σ H,xs[i]?=some x->Pv i c σ H->CStep g tt te x c σ H (Pv (i+1))) (hd:∀c σ H,Pv xs.length c σ H->∀p,H p=none->Q (.ref p) (upd H p (.lst c))):nH J g tt te Q σ H:=by
 rcases j with⟨rfl,e⟩|⟨rfl,e⟩
 ·exact FH xs Pv h (λi c σ H' hi p=>(f i c σ H' hi p).trans e) d hd
 ·exact JP xs Pv h (λi c σ H' hi p=>(f i c σ H' hi p).trans e) d hd
end
def rSlU:V->Option Int->Option Int->Hp->VK->Prop:=λx lo hi H Q=>∃a xs,x = .ref a/\eW H a xs/\((∃ys,H a=some (.tup ys))->¬(HT.sIx xs.length 0 lo=0/\HT.sIx xs.length xs.length hi=xs.length)) /\
 ∀p o,H p=none->(o = .lst (cutV xs lo hi)/\H a=some (.lst xs)∨o = .tup (cutV xs lo hi)/\H a=some (.tup xs))->Q (.ref p) (upd H p o)
theorem kQ:UX X rSlU:=by
 intro c s σ H x v g f lo hi i Q I j m pl l h;obtain⟨a,xs,rfl,d|d,o,q⟩:=h
 ·exact NZ c s σ H _ v g f lo hi i Q I j m pl l ⟨a,xs,rfl,eV.of d,λp e=>q p _ e (.inl ⟨rfl,d⟩)⟩
 ·exact R5 c s σ H _ v g f lo hi i Q I j m pl l ⟨a,xs,rfl,iG.of d,o ⟨_,d⟩,λp e=>q p _ e (.inr ⟨rfl,d⟩)⟩
section
variable {H:Hp}{Q:VK}
theorem rEqD_ii:rEqD (.int i) (.int j) H Q=Q (.bl (decide (i=j))) H:=by
 have e:eqD (.int i) (.int j)=decide (i=j):=by show(i == j)=_;rw[cf];simp
 refine propext ⟨λ⟨d,g,f,c,_,q⟩=>?_,λq=>⟨.int i,.int j,rfl,rfl,ax _,by rw[e];exact q⟩⟩;have l:d = .int i:=aY.inj f (show aY H (.int i) (.int i)from rfl);have h:g = .int j:=aY.inj c (show aY H (.int j) (.int j)from rfl);rw[l,h,e]at q;exact q
theorem rNeD_ii:rNeD (.int i) (.int j) H Q=Q (.bl (!decide (i=j))) H:=by
 have e:eqD (.int i) (.int j)=decide (i=j):=by show(i == j)=_;rw[cf];simp
 refine propext ⟨λ⟨d,g,f,c,_,q⟩=>?_,λq=>⟨.int i,.int j,rfl,rfl,ax _,by rw[e];exact q⟩⟩;have l:d = .int i:=aY.inj f (show aY H (.int i) (.int i)from rfl);have h:g = .int j:=aY.inj c (show aY H (.int j) (.int j)from rfl);rw[l,h,e]at q;exact q
theorem rEqD_ss:rEqD (.str i) (.str j) H Q=Q (.bl (decide (i=j))) H:=by
 have e:eqD (.str i) (.str j)=decide (i=j):=by show(i == j)=_;rw[cf];simp
 refine propext ⟨λ⟨d,g,f,c,_,q⟩=>?_,λq=>⟨.str i,.str j,rfl,rfl,ax _,by rw[e];exact q⟩⟩;have l:d = .str i:=aY.inj f (show aY H (.str i) (.str i)from rfl);have h:g = .str j:=aY.inj c (show aY H (.str j) (.str j)from rfl);rw[l,h,e]at q;exact q
theorem rNeD_ss:rNeD (.str i) (.str j) H Q=Q (.bl (!decide (i=j))) H:=by
 have e:eqD (.str i) (.str j)=decide (i=j):=by show(i == j)=_;rw[cf];simp
 refine propext ⟨λ⟨d,g,f,c,_,q⟩=>?_,λq=>⟨.str i,.str j,rfl,rfl,ax _,by rw[e];exact q⟩⟩;have l:d = .str i:=aY.inj f (show aY H (.str i) (.str i)from rfl);have h:g = .str j:=aY.inj c (show aY H (.str j) (.str j)from rfl);rw[l,h,e]at q;exact q
theorem pE (c:H a=some (.lst xs))(hb:H b=some (.lst ys))(hz:xs.length+ys.length<=sizeLine):catO H (.ref a) (.ref b)=some (.lst (xs++ys)):=by unfold catO;simp only[c,hb];rw[ai hz]
theorem catO_i:catO H (.int i) y=none:=by cases y <;> rfl
theorem catO_s:catO H (.str i) y=none:=by cases y <;> rfl
end
def rTupU:List V->Hp->VK->Prop:=λxs H Q=>∃p ys,xs=[.ref p]/\eW H p ys/\∀l H',(H p=some (.tup ys)/\l=p/\H'=H∨H p=some (.lst ys)/\H l=none/\H'=upd H l (.tup ys))->Q (.ref l) H'
theorem eM:cN X (.type "tuple") rTupU:=by
 refine wK.imp λxs H Q h=>?_;obtain⟨p,ys,rfl,c|c,q⟩:=h
 ·exact⟨p,ys,rfl,.inl ⟨eV.of c,λl d=>q l _ (.inr ⟨c,d,rfl⟩)⟩⟩
 ·exact⟨p,ys,rfl,.inr ⟨iG.of c,q p _ (.inl ⟨c,rfl,rfl⟩)⟩⟩
section
variable {X:Cx}{x:Str}{C:Addr}{np cpos pos:Pos}{e:Expr}{ta:TA}{E:XK}
def tRaise (C:Addr)(E:XK)(c:TA):TS:=λ_ σ H=>c σ H λvs d=>vs.length<=1000/\E (.ref C) none d
end
noncomputable abbrev Cx.tr (X:Cx)(pn:cW)(E:cJ):Cx:={X with pn:=pn,xe:=E}
section
variable {X:Cx}{pins:cW}{σ:St}{H:Hp}{s:Shared}{e:Value}
theorem Cx.Ok.tr (ok:X.Ok)(pn:cW)(E:cJ):(X.tr pn E).Ok :=
 ⟨ok.mod,ok.kind,ok.glob,ok.blt,ok.above,ok.inj,ok.has,ok.cab,ok.hd,ok.frames,ok.stk,ok.exf,ok.bs,ok.bsz,ok.noex,ok.exfs,ok.funs,ok.frf⟩
theorem aN.tr (I:aN X pins σ H s)(E:cJ):aN (X.tr (X.pn++pins) E) [] σ H s:=⟨I.ok.tr _ E,I.os,I.bare,I.base,I.loc,I.cell,I.free,I.freeC,λp c=>I.pin p (by simpa using c),I.hok,I.len⟩
theorem aN.untr {E:cJ}{pl:cW}(ok:X.Ok)(I:aN (X.tr (X.pn++pins) E) pl σ H s):aN X pins σ H s:=⟨ok,I.os,I.bare,I.base,I.loc,I.cell,I.free,I.freeC,λp c=>I.pin p (ci _ c),I.hok,I.len⟩
theorem SP.untr {D:jD}{f:Flow}{c:Shared}{E:cJ}{pl:cW}(ok:X.Ok)(h:SP (X.tr (X.pn++pins) E) pl D f c):SP X pins D f c:=by
 cases f with
 | next=>obtain⟨σ,H,I,q⟩:=h;exact⟨σ,H,I.untr ok,q⟩
 | brk=>obtain⟨σ,H,I,q⟩:=h;exact⟨σ,H,I.untr ok,q⟩
 | cont=>obtain⟨σ,H,I,q⟩:=h;exact⟨σ,H,I.untr ok,q⟩
 | ret v=>obtain⟨x,σ,H,I,r,q⟩:=h;exact⟨x,σ,H,I.untr ok,r,q⟩
end
section
variable {X:Cx}{x:Str}{C:Addr}{np hp pos:Pos}{EX:XK}{b0:Stmt}{suite body:List Stmt}{tb th:TS}
def tTry (f:TS)(EX:XK)(e:TS):TS:=λD σ H=>f D σ H/\∀cls d c H',EX cls d H'->e D c H'
end
noncomputable def V6 (K:PySem.W.Frag)(a:Addr):It :=
 ⟨λi H=>∃xs x,eV K H a xs/\xs[i]?=some x,λi H z H'=>∃T x,z = .ref T/\H T=none/\H'=upd H T (.tup [.int i,x])/\∀xs,eV K H a xs->xs[i]?=some x,λi H=>∃xs,eV K H a xs/\xs.length<=i⟩
def iEnum (K:PySem.W.Frag)(d:TA):TI:=λσ H R=>d σ H λvs c=>∃a,vs=[.ref a]/\(∃xs,eV K c a xs)/\R (V6 K a) c
def jX (h:Heap)(i a:Addr)(k:Nat):Prop:=h.IsListIter i a k∨h.IsTupleIter i a k
def qX (h:Heap)(a:Addr)(xs:n5):Prop:=∃o n,h.get? a=some o/\o.data = .seq xs n
theorem jX.at (x:jX h i a k)(e:∀o,h.get? i=some o->h'.get? i=some o):jX h' i a k:=x.elim (λy=>.inl (y.at e)) λy=>.inr (y.at e)
theorem qX.at (x:qX h a xs)(e:∀o,h.get? a=some o->h'.get? a=some o):qX h' a xs:=by obtain⟨o,n,ho,hd⟩:=x;exact⟨o,n,e o ho,hd⟩
theorem jX.obj (x:jX h i a k):∃o,h.get? i=some o/\o.data = .fields #[.ref a,.int k 0]:=by
 rcases x with⟨o,e,_,d⟩|⟨o,e,_,d⟩
 ·exact⟨o,e,d⟩
 ·exact⟨o,e,d⟩
section
variable {prog:Program}{w:World}{A:Around}{E:cJ}{s:Shared}{it l:Addr}{i:Nat}{items:n5}
theorem mM {T id:String}{b:Builtin}{Q:cJ}(kind:s.TypeIs (.ref it) T)(slot:Slot T "__next__" id)(c:entryFor table id=some b)(args:argsOk id ⟨[.ref it],[]⟩)
  (h:wpAny (model prog w) A.in1 (b ⟨[.ref it],[]⟩) (λf t=>∃v,f = .done (.ret v)/\Q v t) E s):wpAny (model prog w) A (Builtin.SmallTypes.nextOf (.ref it)) Q E s:=by
 have asked:wpAny (model prog w) A (callSpecial? (.ref it) "__next__") (λr t=>∃v,r=some v/\Q v t) E s :=
  wpAny_callSpecial?_slot kind slot (wpAny_call_entry slot kind c (thn h λf t ⟨v,e,q⟩=>⟨v,e,v,rfl,q⟩) args)
 refine aa (thn asked ?_);rintro _ t ⟨v,rfl,q⟩;exact ao q
structure l8 (prog:Program)(w:World)(A:Around)(E:cJ)(s:Shared)(it l:Addr)(i:Nat)(items:n5):Prop where
 seq:∀(Q:cJ),Q (.ref l) s->wpAny (model prog w) A (field (.ref it) 0) Q E s
 place:∀(Q:cJ),Q (.int i 0) s->wpAny (model prog w) A (field (.ref it) 1) Q E s
 items:∀(Q:Option (n5)->Shared->Prop),Q (some items) s->wpAny (model prog w) A (seqItems? (.ref l)) Q E s
 set:∀(k:Nat) (v:Value) (Q:Unit->Shared->Prop),k<2->Q () {s with heap:=s.heap.update it (Obj.mapFields (·.setIfInBounds k v))}->wpAny (model prog w) A (setField (.ref it) k v) Q E s
theorem l8.of (ho:s.heap.get? it=some o)(hd:o.data = .fields #[.ref l,.int i 0])(e:qX s.heap l items):l8 prog w A E s it l i items:=by obtain⟨ol,nl,c,d⟩:=e;exact⟨λ_ h=>wpAny_field ho hd rfl h,λ_ h=>wpAny_field ho hd rfl h,λ_ h=>wpAny_seqItems c d h,λk v _ f h=>wpAny_setField ho hd f h⟩
abbrev CK (b:Builtin):Prop:=b=Builtin.«list_iterator.__next__»∨b=Builtin.«tuple_iterator.__next__»
theorem rC {Q:cJ}(hb:CK b)(R:l8 prog w A E s it l i items)(g:items[i]?=some x)
  (j:Q x {s with heap:=s.heap.update it (Obj.mapFields (·.setIfInBounds 1 (rawInt (i+1))))}):wpAny (model prog w) A (b ⟨[.ref it],[]⟩) (λf t=>∃v,f = .done (.ret v)/\Q v t) E s:=by
 have e:=R.seq;have r1:=R.place;have d:=R.items;have c:=λQ h=>R.set 1 (rawInt (i+1)) Q (by decide) h;rcases hb with rfl|rfl
 all_goals
  wp_walk using e,r1,d,c
  rw[cq,g]
  wp_walk using e,r1,d,c
  exact⟨x,rfl,j⟩
theorem uB {Q:PySem.Fin->Shared->Prop}(j:A.handled=none)(hb:CK b)(R:l8 prog w A E s it l i items)(g:items[i]?=none)
  (m:∀h' e,Heap.ExtBut it s.heap h'->(∃o,h'.get? e=some o/\o.cls = .type "StopIteration")->E (.ref e) {s with heap:=h'}):wpAny (model prog w) A (b ⟨[.ref it],[]⟩) Q E s:=by
 have f:=R.seq;have r1:=R.place;have d:=R.items;have c:=λQ h=>R.set 0 .none Q (by decide) h;rcases hb with rfl|rfl
 all_goals
  wp_walk using f,r1,d,c
  rw[cq,g]
  wp_walk using f,r1,d,c
  exact wpAny_raiseNew_none j (m _ _ (((Heap.SameBut.update ..).extBut.push _).push _) ⟨_,aw _ rfl,rfl⟩)
theorem PN {Q:cJ}(d:jX s.heap it l i)(h:qX s.heap l items)(g:items[i]?=some x)(j:∀h',jX h' it l (i+1)->Heap.SameBut it s.heap h'->Q x {s with heap:=h'}):wpAny (model prog w) A (Builtin.SmallTypes.nextOf (.ref it)) Q E s:=by
 obtain⟨o,ho,hd⟩:=d.obj;have new:(s.heap.update it (Obj.mapFields (·.setIfInBounds 1 (rawInt (i+1))))).get? it=some (o.mapFields (·.setIfInBounds 1 (rawInt (i+1)))):=Heap.get?_update_self _ ho (Obj.isFreed_of_fields (Obj.data_mapFields hd _));have data:(o.mapFields (·.setIfInBounds 1 (rawInt (i+1)))).data = .fields #[.ref l,.int (i+1:Nat) 0]:=by rw[Obj.data_mapFields hd];simp[rawInt]
 have cls:(o.mapFields (·.setIfInBounds 1 (rawInt (i+1)))).cls=o.cls:=Obj.cls_mapFields ..;have same:Heap.SameBut it s.heap (s.heap.update it (Obj.mapFields (·.setIfInBounds 1 (rawInt (i+1))))):=Heap.SameBut.update ..;rcases d with f|e
 ·obtain⟨m,c,hc,_⟩:=id f;rw[ho]at c;cases c;exact mM f.typeIs slot_listiter_next entry_listiter_next (args_listiter_next _) (rC (.inl rfl) (l8.of ho hd h) g (j _ (.inl ⟨_,new,cls.trans hc,data⟩) same))
 ·obtain⟨m,c,hc,_⟩:=id e;rw[ho]at c;cases c;exact mM e.typeIs PySem.F.slot_tuple_iterator_next PySem.F.entry_tuple_iterator_next (PySem.F.args_tuple_iterator_next_1 _) (rC (.inr rfl) (l8.of ho hd h) g (j _ (.inr ⟨_,new,cls.trans hc,data⟩) same))
theorem SX {Q:cJ}(m:A.handled=none)(c:jX s.heap it l i)(f:qX s.heap l items)(d:items[i]?=none)
  (g:∀h' e,Heap.ExtBut it s.heap h'->(∃o,h'.get? e=some o/\o.cls = .type "StopIteration")->E (.ref e) {s with heap:=h'}):wpAny (model prog w) A (Builtin.SmallTypes.nextOf (.ref it)) Q E s:=by
 obtain⟨o,ho,hd⟩:=c.obj;have no:A.in1.handled=none:=m;rcases c with j|h
 ·exact mM j.typeIs slot_listiter_next entry_listiter_next (args_listiter_next _) (uB no (.inl rfl) (l8.of ho hd f) d g)
 ·exact mM h.typeIs PySem.F.slot_tuple_iterator_next PySem.F.entry_tuple_iterator_next (PySem.F.args_tuple_iterator_next_1 _) (uB no (.inr rfl) (l8.of ho hd f) d g)
end
structure T1 (z TI TO i1 i2 l1 l2:Addr):Prop extends ZipAt z TI TO i1 i2 where
 n1:l1∉[z,TO,i1,i2]
 n2:l2∉[z,TO,i1,i2]
structure ZS (h0:Heap)(z TI TO i1 i2 l1 l2:Addr)(xs ys:n5)(h:Heap)(f a b:Value)(k1 k2:Nat):Prop where
 ap:T1 z TI TO i1 i2 l1 l2
 zip:IsZip h z TI TO f
 tin:IsPair h TI (.ref i1) (.ref i2)
 tout:IsPair h TO a b
 one:jX h i1 l1 k1
 two:jX h i2 l2 k2
 src1:qX h l1 xs
 src2:qX h l2 ys
 far:∀c o,c∉[z,TO,i1,i2]->h0.get? c=some o->h.get? c=some o
section
variable {prog:Program}{w:World}{A:Around}{E:cJ}{s:Shared}{z TI TO i1 i2 l1 l2:Addr}{k1 k2:Nat}{xs ys:n5}{f a b:Value}{h0 h h':Heap}
theorem off4 (hc:c∉[z,TO,i1,i2]):c≠z/\c≠TO/\c≠i1/\c≠i2:=by simpa using hc
theorem ZS.self (Z:ZS h0 z TI TO i1 i2 l1 l2 xs ys h f a b k1 k2)(e:Heap.ExtBut z h h')(hz:IsZip h' z TI TO f'):ZS h0 z TI TO i1 i2 l1 l2 xs ys h' f' a b k1 k2 :=
 ⟨Z.ap,hz,e _ _ Z.ap.TIz Z.tin,e _ _ Z.ap.TOz Z.tout,Z.one.at λo=>e _ o Z.ap.i1z,Z.two.at λo=>e _ o Z.ap.i2z,Z.src1.at λo=>e _ o (off4 Z.ap.n1).1,Z.src2.at λo=>e _ o (off4 Z.ap.n2).1,λc o hc q=>e c o (off4 hc).1 (Z.far c o hc q)⟩
theorem ZS.out (Z:ZS h0 z TI TO i1 i2 l1 l2 xs ys h f a b k1 k2)(e:Heap.ExtBut TO h h')(d:IsPair h' TO a' b'):ZS h0 z TI TO i1 i2 l1 l2 xs ys h' f a' b' k1 k2 :=
 ⟨Z.ap,e _ _ Z.ap.TOz.symm Z.zip,e _ _ Z.ap.TITO Z.tin,d,Z.one.at λo=>e _ o Z.ap.TOi1.symm,Z.two.at λo=>e _ o Z.ap.TOi2.symm,Z.src1.at λo=>e _ o (off4 Z.ap.n1).2.1,Z.src2.at λo=>e _ o (off4 Z.ap.n2).2.1,λc o hc q=>e c o (off4 hc).2.1 (Z.far c o hc q)⟩
theorem ZS.on1 (Z:ZS h0 z TI TO i1 i2 l1 l2 xs ys h f a b k1 k2)(e:Heap.ExtBut i1 h h')(hi:jX h' i1 l1 k):ZS h0 z TI TO i1 i2 l1 l2 xs ys h' f a b k k2 :=
 ⟨Z.ap,e _ _ Z.ap.i1z.symm Z.zip,e _ _ Z.ap.TIi1 Z.tin,e _ _ Z.ap.TOi1 Z.tout,hi,Z.two.at λo=>e _ o Z.ap.i12.symm,Z.src1.at λo=>e _ o (off4 Z.ap.n1).2.2.1,Z.src2.at λo=>e _ o (off4 Z.ap.n2).2.2.1,λc o hc q=>e c o (off4 hc).2.2.1 (Z.far c o hc q)⟩
theorem ZS.on2 (Z:ZS h0 z TI TO i1 i2 l1 l2 xs ys h f a b k1 k2)(e:Heap.ExtBut i2 h h')(hi:jX h' i2 l2 k):ZS h0 z TI TO i1 i2 l1 l2 xs ys h' f a b k1 k :=
 ⟨Z.ap,e _ _ Z.ap.i2z.symm Z.zip,e _ _ Z.ap.TIi2 Z.tin,e _ _ Z.ap.TOi2 Z.tout,Z.one.at λo=>e _ o Z.ap.i12,hi,Z.src1.at λo=>e _ o (off4 Z.ap.n1).2.2.2,Z.src2.at λo=>e _ o (off4 Z.ap.n2).2.2.2,λc o hc q=>e c o (off4 hc).2.2.2 (Z.far c o hc q)⟩
theorem ZS.push (Z:ZS h0 z TI TO i1 i2 l1 l2 xs ys h f a b k1 k2)(o:Obj):ZS h0 z TI TO i1 i2 l1 l2 xs ys (h.push o) f a b k1 k2:=by have e:∀c x,h.get? c=some x->(h.push o).get? c=some x:=λc x q=>af o q;exact⟨Z.ap,e _ _ Z.zip,e _ _ Z.tin,e _ _ Z.tout,Z.one.at (e _),Z.two.at (e _),Z.src1.at (e _),Z.src2.at (e _),λc x hc q=>e c x (Z.far c x hc q)⟩
structure ZF (prog:Program)(w:World)(A:Around)(E:cJ)(s:Shared)(z TI TO i1 i2:Addr)(f a b:Value):Prop where
 f0:∀(Q:cJ),Q f s->wpAny (model prog w) A (field (.ref z) 0) Q E s
 f2:∀(Q:cJ),Q (.bool false) s->wpAny (model prog w) A (field (.ref z) 2) Q E s
 f3:∀(Q:cJ),Q (.ref TI) s->wpAny (model prog w) A (field (.ref z) 3) Q E s
 f4:∀(Q:cJ),Q (.ref TO) s->wpAny (model prog w) A (field (.ref z) 4) Q E s
 ins:∀(Q:Option (n5)->Shared->Prop),Q (some #[.ref i1,.ref i2]) s->wpAny (model prog w) A (seqItems? (.ref TI)) Q E s
 outs:∀(Q:Option (n5)->Shared->Prop),Q (some #[a,b]) s->wpAny (model prog w) A (seqItems? (.ref TO)) Q E s
 set:∀(v:Value) (Q:Unit->Shared->Prop),(∀h',IsZip h' z TI TO v->Heap.SameBut z s.heap h'->Q () {s with heap:=h'})->wpAny (model prog w) A (setField (.ref z) 0 v) Q E s
 put:∀(k:Nat) (v:Value) (Q:Unit->Shared->Prop),(∀h',IsPair h' TO (if k=0 then v else a) (if k=1 then v else b)->Heap.SameBut TO s.heap h'->Q () {s with heap:=h'})->k<2->wpAny (model prog w) A (updateSeq TO (·.setIfInBounds k v)) Q E s
theorem ZS.asked (Z:ZS h0 z TI TO i1 i2 l1 l2 xs ys s.heap f a b k1 k2):ZF prog w A E s z TI TO i1 i2 f a b:=by
 refine⟨λ_ q=>wpAny_field Z.zip rfl rfl q,λ_ q=>wpAny_field Z.zip rfl rfl q,λ_ q=>wpAny_field Z.zip rfl rfl q,λ_ q=>wpAny_field Z.zip rfl rfl q,λ_ q=>wpAny_seqItems Z.tin rfl q,λ_ q=>wpAny_seqItems Z.tout rfl q,λv _ q=>?_,λk v _ q c=>?_⟩
 ·exact wpAny_setField_rec Z.zip (by simp) λh' e sb=>q h' e sb
 ·refine wpAny_updateSeq_pair Z.tout λh' e sb=>q h' ?_ sb
  match k,c with
  | 0,_=>exact e
  | 1,_=>exact e
abbrev UT (h0:Heap)(z TI TO i1 i2 l1 l2:Addr)(xs ys:n5)(a b:Value)(k1 k2:Nat)(h:Heap):List (Value×Nat)->Prop
 | []=>∃x y,xs[k1]?=some x/\ys[k2]?=some y/\ZS h0 z TI TO i1 i2 l1 l2 xs ys h .ellipsis x y (k1+1) (k2+1)
 | [p]=>p=(.ref i2,1)/\∃x,xs[k1]?=some x/\ZS h0 z TI TO i1 i2 l1 l2 xs ys h .ellipsis x b (k1+1) k2
 | [p,q]=>p=(.ref i1,0)/\q=(.ref i2,1)/\ZS h0 z TI TO i1 i2 l1 l2 xs ys h .ellipsis a b k1 k2
 | _=>False
abbrev AS (h:Heap)(e:Addr):Prop:=∃o,h.get? e=some o/\o.cls = .type "StopIteration"
theorem wN {c:Sem (Option Value)}{i l:Addr}{k:Nat}{items:n5}{Q:Option Value->Shared->Prop}(hd:c=(Builtin.SmallTypes.nextOf (.ref i) >>= λv=>pure (some v)))(g:A.handled=none)(it:jX s.heap i l k)(src:qX s.heap l items)(hz:IsZip s.heap z TI TO .ellipsis)(f:i≠z)
  (item:∀v h',items[k]?=some v->jX h' i l (k+1)->Heap.SameBut i s.heap h'->Q (some v) {s with heap:=h'})
  (stop:items[k]?=none->∀h' d e,Heap.ExtBut i s.heap h'->Heap.SameBut z h' d->AS d e->E (.ref e) {s with heap:=d}) :
  wpAny (model prog w) A (c.onRaise λ_=>setField (.ref z) 0 .none) Q E s:=by
 subst hd;refine wpAny_onRaise (aa ?_);cases e:items[k]? with
 | some v=>exact PN it src e λh' a1 a2=>ao (item v h' e a1 a2)
 | none =>
  refine SX g it src e λh' x ext ⟨o,ho,hc⟩=>?_;have zip:=ext z _ f.symm hz;have ne:x≠z:=λq=>by rw[q,zip]at ho;cases ho;exact absurd (show Value.type "zip" = .type "StopIteration" from hc) (by decide)
  exact wpAny_setField_rec zip (by simp) λd _ sb=>stop e h' d x ext sb ⟨o,sb.extBut x o ne ho,hc⟩
theorem G5 {Q:cJ}(W:A.handled=none)(Z:ZS s.heap z TI TO i1 i2 l1 l2 xs ys s.heap .none a b k1 k2)
  (item:∀x y h',xs[k1]?=some x->ys[k2]?=some y->ZS s.heap z TI TO i1 i2 l1 l2 xs ys h' (rawInt s.heap.objs.size) x y (k1+1) (k2+1)->IsPair h' s.heap.objs.size x y->h'.objs.size=s.heap.objs.size+1->Q (.ref s.heap.objs.size) {s with heap:=h'})
  (stop:(xs[k1]?=none∨ys[k2]?=none)->∀h' e,(∀c o,c∉[z,TO,i1,i2]->s.heap.get? c=some o->h'.get? c=some o)->AS h' e->E (.ref e) {s with heap:=h'}) :
  wpAny (model prog w) A (Builtin.«zip.__next__» ⟨[.ref z],[]⟩) (λf t=>∃v,f = .done (.ret v)/\Q v t) E s:=by
 have F:=Z.asked (prog:=prog) (w:=w) (A:=A) (E:=E);have g0:=F.f0;have g2:=F.f2;have g3:=F.f3;have g4:=F.f4;have gi:=F.ins;have Y:=F.set .ellipsis;obtain⟨h,g,d,tk,os⟩:=s;dsimp only at Z item stop
 wp_walk using g0,g2,g3,g4,gi,Y
 intro X O J;have Z1:=Z.self J.extBut O;have H:X.objs.size=h.objs.size:=J.1;clear F g0 g2 g3 g4 gi Y
 wp_walk using wpAny_forIn_list _ (λrest r t=>r=((none:Option PySem.Fin),())/\∃h',t=⟨h',g,d,tk,os⟩/\h'.objs.size=h.objs.size/\UT h z TI TO i1 i2 l1 l2 xs ys a b k1 k2 h' rest) _
 case turn =>
  rintro p rest r t ⟨rfl,K,rfl,j,zr⟩
  match rest,zr with
  | [],⟨e,x,P,l⟩ =>
   subst e;refine aa (wN rfl W l.two l.src2 l.zip l.ap.i2z (λv T R N m=>?_) λno T C e ext i st=>?_)
   ·have u:=l.on2 m.extBut N;refine aa (wpAny_seqItems u.tout rfl (aa (wpAny_updateSeq_pair u.tout λC L i=>aa (wpAny_letGo (ao ?_)))));exact⟨rfl,C,rfl,by rw[i.1,m.1];exact j,x,v,P,R,u.out i.extBut L⟩
   ·exact stop (.inr no) C e (λc o hc q=>i.extBut c o (off4 hc).1 (ext c o (off4 hc).2.2.2 (l.far c o hc q))) st
  | [q],⟨e1,e2,l⟩ =>
   subst e1 e2;refine aa (wN rfl W l.one l.src1 l.zip l.ap.i1z (λv T R N m=>?_) λno T C e ext i st=>?_)
   ·have u:=l.on1 m.extBut N;refine aa (wpAny_seqItems u.tout rfl (aa (wpAny_updateSeq_pair u.tout λC L i=>aa (wpAny_letGo (ao ?_)))));exact⟨rfl,C,rfl,by rw[i.1,m.1];exact j,rfl,v,R,u.out i.extBut L⟩
   ·exact stop (.inl no) C e (λc o hc q=>i.extBut c o (off4 hc).1 (ext c o (off4 hc).2.2.1 (l.far c o hc q))) st
  | _::_::_,zr=>exact zr.elim
 case fin =>
  rintro r t ⟨rfl,K,rfl,j,x,y,P,hy,l⟩;refine aa (wpAny_seqItems l.tout rfl (aa (wpAny_newTuple ?_)));have u:=l.push {cls:=.type "tuple",data:=.seq #[x,y]};refine aa (aa (wpAny_setField_rec u.zip (by simp) λC U i=>wpAny_setField_rec U (by simp) λS z5 I=>ao ⟨_,rfl,?_⟩));have G:S.objs.size=h.objs.size+1:=by rw[I.1,i.1,Heap.size_push,j]
  have new:z≠K.objs.size:=bq (bd l.zip);have B:IsPair S K.objs.size x y:=I.extBut _ _ new.symm (i.extBut _ _ new.symm (aw _ rfl));have Z5:=(u.self i.extBut (f':=rawInt K.objs.size) U).self I.extBut (f':=rawInt K.objs.size) z5;rw[j]at B Z5⊢;exact item x y S P hy Z5 B G
 case h=>exact⟨rfl,X,rfl,H,rfl,rfl,Z1⟩
theorem HU {it:Addr}{T id:String}{b:Builtin}{Q:Option Value->Shared->Prop}(kind:s.TypeIs (.ref it) T)(slot:Slot T "__next__" id)(c:entryFor table id=some b)(args:argsOk id ⟨[.ref it],[]⟩)
  (h:wpAny (model prog w) A.in1 (b ⟨[.ref it],[]⟩) (λf t=>∃v,f = .done (.ret v)/\Q (some v) t) (λx t=>∃e,x = .ref e/\AS t.heap e/\Q none t) s):wpAny (model prog w) A (pyNext (.ref it)) Q E s:=by
 have asked:wpAny (model prog w) A (callSpecial? (.ref it) "__next__") (λr t=>∃v,r=some v/\Q (some v) t) (λx t=>∃e,x = .ref e/\AS t.heap e/\Q none t) s :=
  wpAny_callSpecial?_slot kind slot (wpAny_call_entry slot kind c (thn h λf t ⟨v,e,q⟩=>⟨v,e,v,rfl,q⟩) args)
 refine aa (wpAny_attempt (wpAny_mono asked ?_ ?_))
 ·rintro _ t ⟨v,rfl,q⟩;exact ao q
 ·rintro _ t ⟨e,rfl,⟨o,ho,hc⟩,q⟩;exact aa (wpAny_isInstance ⟨o,ho,hc⟩ isSubtype_stop (ao q))
theorem xI {Q:Option Value->Shared->Prop}(d:A.handled=none)(Z:ZS s.heap z TI TO i1 i2 l1 l2 xs ys s.heap .none a b k1 k2)
  (item:∀x y h',xs[k1]?=some x->ys[k2]?=some y->ZS s.heap z TI TO i1 i2 l1 l2 xs ys h' (rawInt s.heap.objs.size) x y (k1+1) (k2+1)->IsPair h' s.heap.objs.size x y->h'.objs.size=s.heap.objs.size+1->Q (some (.ref s.heap.objs.size)) {s with heap:=h'})
  (stop:(xs[k1]?=none∨ys[k2]?=none)->∀h',(∀c o,c∉[z,TO,i1,i2]->s.heap.get? c=some o->h'.get? c=some o)->Q none {s with heap:=h'}):wpAny (model prog w) A (pyNext (.ref z)) Q E s :=
 HU (b:=Builtin.«zip.__next__») ⟨_,Z.zip,rfl⟩ PySem.F.slot_zip_next PySem.F.entry_zip_next (PySem.F.args_zip_next_1 _) (G5 (Q:=λv t=>Q (some v) t) d Z item λno h' e far st=>⟨e,rfl,st,stop no h' far⟩)
end
def NA (h:Heap)(l:Addr)(nm:String):Prop:=(∃xs,h.IsList l xs/\nm="list_iterator")∨(∃xs,h.IsTuple l xs/\nm="tuple_iterator")
theorem NA.push (x:NA h l nm):NA (h.push o) l nm:=by
 rcases x with⟨xs,y,e⟩|⟨xs,y,e⟩
 ·exact .inl ⟨xs,y.push _,e⟩
 ·exact .inr ⟨xs,y.push _,e⟩
theorem MJ {E:cJ}{Q:cJ}(x:NA s.heap l nm)
  (h:Q (.ref s.heap.objs.size) {s with heap:=s.heap.push {cls:=.type nm,data:=.fields #[.ref l,.int 0 0]} }):wpAny (model prog w) A (pyIter (.ref l)) Q E s:=by
 rcases x with⟨xs,y,rfl⟩|⟨xs,y,rfl⟩
 ·exact wpAny_pyIter_list y h
 ·exact wpAny_pyIter_tuple y h
theorem JQ {E:cJ}{Q:cJ}(a1:NA s.heap l1 n1)(a2:NA s.heap l2 n2)
  (k:∀h' z TI TO j f,ZipAt z TI TO j f->(∀c∈[z,TI,TO,j,f],s.heap.objs.size<=c)->IsZip h' z TI TO .none->IsPair h' TI (.ref j) (.ref f)->IsPair h' TO .none .none->jX h' j l1 0->jX h' f l2 0->(∀c o,s.heap.get? c=some o->h'.get? c=some o)->Q (.ref z) {s with heap:=h'}):wpAny (model prog w) A (call (.type "zip") [.ref l1,.ref l2]) Q E s:=by
 have made:Meets (Builtin.«zip.__new__» ⟨[.type "zip",.ref l1,.ref l2],[]⟩) (λ_ R t=>NA t.heap l1 n1/\NA t.heap l2 n2/\∀j f TI TO z x v u p,j=t.heap.objs.size->x=t.heap.push {cls:=.type n1,data:=.fields #[.ref l1,.int 0 0]} ->
   f=x.objs.size->v=x.push {cls:=.type n2,data:=.fields #[.ref l2,.int 0 0]}->TI=v.objs.size->u=v.push {cls:=.type "tuple",data:=.seq #[.ref j,.ref f]}->TO=u.objs.size->p=u.push {cls:=.type "tuple",data:=.seq #[.none,.none]}->z=p.objs.size ->
   R (.ok (.ret (.ref z))) {t with heap:=p.push {cls:=.type "zip",data:=.fields #[.none,.bool false,.bool false,.ref TI,.ref TO]} }):=by
  refine .of_wp λprog w A R t ⟨b1,b2,q⟩=>?_;have I:=sub_zip;obtain⟨h,g,d,tk,os⟩:=t;have r1:=λ(Q:cJ) q=>MJ (prog:=prog) (w:=w) (A:=A.in1) (E:=λe H=>R (.error e) H) (Q:=Q) b1 q;have T:=λ(Q:cJ) q=>MJ (prog:=prog) (w:=w) (A:=A.in1) (E:=λe H=>R (.error e) H) (Q:=Q) (s:=⟨h.push {cls:=.type n1,data:=.fields #[.ref l1,.int 0 0]},g,d,tk,os⟩) (NA.push b2) q
  wp_walk using r1,T
  exact⟨_,rfl,q _ _ _ _ _ _ _ _ _ rfl rfl rfl rfl rfl rfl rfl rfl rfl⟩
 refine callType_new PySem.F.called_zip (by decide) (PySem.F.typeCall_zip_2 _ _) (PySem.F.newCall_zip_2 _ _) (λobj=>PySem.F.args_object_init_3 obj _ _) PySem.F.entry_zip_new made ⟨a1,a2,?_⟩;intro j f TI TO z x v u p e1 N e2 L e3 K e4 J Z;have S:x.objs.size=s.heap.objs.size+1:=by rw[N,Heap.size_push]
 have s2:v.objs.size=s.heap.objs.size+2:=by rw[L,Heap.size_push,S]
 have P:u.objs.size=s.heap.objs.size+3:=by rw[K,Heap.size_push,s2]
 have s4:p.objs.size=s.heap.objs.size+4:=by rw[J,Heap.size_push,P]
 have G:∀c o,s.heap.get? c=some o->x.get? c=some o:=λc o q=>by rw[N];exact af _ q
 have C:∀c o,x.get? c=some o->v.get? c=some o:=λc o q=>by rw[L];exact af _ q
 have B:∀c o,v.get? c=some o->u.get? c=some o:=λc o q=>by rw[K];exact af _ q
 have r:∀c o,u.get? c=some o->p.get? c=some o:=λc o q=>by rw[J];exact af _ q
 have Y:x.get? j=some {cls:=.type n1,data:=.fields #[.ref l1,.int 0 0]}:=by rw[e1,N];exact aw _ rfl
 have X:v.get? f=some {cls:=.type n2,data:=.fields #[.ref l2,.int 0 0]}:=by rw[e2,L];exact aw _ rfl
 have W:u.get? TI=some {cls:=.type "tuple",data:=.seq #[.ref j,.ref f]}:=by rw[e3,K];exact aw _ rfl
 have U:p.get? TO=some {cls:=.type "tuple",data:=.seq #[.none,.none]}:=by rw[e4,J];exact aw _ rfl
 have m:∀c o,p.get? c=some o->(p.push {cls:=.type "zip",data:=.fields #[.none,.bool false,.bool false,.ref TI,.ref TO]}).get? c=some o:=λc o q=>af _ q;have O:IsZip (p.push {cls:=.type "zip",data:=.fields #[.none,.bool false,.bool false,.ref TI,.ref TO]}) z TI TO .none:=by rw[Z];exact aw _ rfl
 have sq:∀{l i:Addr} {nm:String} {h:Heap},NA s.heap l nm->h.get? i=some {cls:=.type nm,data:=.fields #[.ref l,.int 0 0]}->jX h i l 0:=λa e=>by
  rcases a with⟨_,_,rfl⟩|⟨_,_,rfl⟩
  ·exact .inl ⟨_,e,rfl,rfl⟩
  ·exact .inr ⟨_,e,rfl,rfl⟩
 have D:ZipAt z TI TO j f:=by constructor <;> (intro q;have q:(_:Nat)=_:=q;lia)
 refine⟨⟨_,O,rfl⟩,k _ z TI TO j f D (λc hc=>?_) O (m _ _ (r _ _ W)) (m _ _ U) (sq a1 (m _ _ (r _ _ (B _ _ (C _ _ Y))))) (sq a2 (m _ _ (r _ _ (B _ _ X)))) λc o q=>m _ _ (r _ _ (B _ _ (C _ _ (G _ _ q))))⟩;simp only[cu,List.not_mem_nil,or_false]at hc;rcases hc with q|q|q|q|q <;> (rw[q];show(_:Nat)<=_;lia)
noncomputable def T7 (a b:Addr):It :=
 ⟨λi H=>∃xs ys x y,eW H a xs/\eW H b ys/\xs[i]?=some x/\ys[i]?=some y,
  λi H z H'=>∃T x y,z = .ref T/\H T=none/\H'=upd H T (.tup [x,y])/\∀xs ys,eW H a xs->eW H b ys->xs[i]?=some x/\ys[i]?=some y,
  λi H=>∃xs ys,eW H a xs/\eW H b ys/\(xs.length<=i∨ys.length<=i)⟩
theorem eW.inj (h:eW H a xs)(k:eW H a ys):xs=ys:=by rcases h with h|h <;> rcases k with k|k <;> rw[h]at k <;> cases k <;> rfl
theorem aN.sq {X:Cx}{f:cW}{σ:St}{H:Hp}{s:Shared}{a:Addr}{xs:List V}(I:aN X f σ H s)(h:eW H a xs):∃its:cS,aR xs its/\qX s.heap a its.toArray/\∃nm,NA s.heap a nm:=by
 rcases h with h|h
 ·obtain⟨its,g,p,_⟩:=I.list (eV.of h);obtain⟨o,e,c,n,d⟩:=p.isList;exact⟨its,g,⟨o,n,e,d⟩,_,.inl ⟨_,p.isList,rfl⟩⟩
 ·obtain⟨its,g,p,_⟩:=I.tuple (iG.of h);have p':s.heap.IsTuple a its.toArray:=p;obtain⟨o,e,c,n,d⟩:=id p';exact⟨its,g,⟨o,n,e,d⟩,_,.inr ⟨_,p',rfl⟩⟩
theorem eW.some (h:eW H a xs):∃o,H a=some o:=h.elim (λe=>⟨_,e⟩) λe=>⟨_,e⟩
theorem Q0 {X:Cx}{d:cW}{σ:St}{H:Hp}{s:Shared}{a b z TI TO g f:Addr}{i:Nat}{xs ys:List V}(I:aN X d σ H s)(F:∀c∈[z,TI,TO,g,f],fC X d H c)(D:ZipAt z TI TO g f)
  (st:IsZip s.heap z TI TO .none/\IsPair s.heap TI (.ref g) (.ref f)/\(∃u v,IsPair s.heap TO u v)/\jX s.heap g a i/\jX s.heap f b i) (j:eW H a xs) (h:eW H b ys) :
  ∃its:cS,aR xs its/\qX s.heap a its.toArray/\(∃its2:cS,aR ys its2/\qX s.heap b its2.toArray)/\∀its2:cS,(aR ys its2/\qX s.heap b its2.toArray)->∃u v,ZS s.heap z TI TO g f a b its.toArray its2.toArray s.heap .none u v i i:=by
 obtain⟨its,B,p,_⟩:=I.sq j;obtain⟨its2,l,E,_⟩:=I.sq h;obtain⟨hz,t,⟨u,v,m⟩,J,G⟩:=st;have off:∀{c:Addr} {w:List V},eW H c w->c∉[z,TO,g,f]:=λ{c w} q A=>by obtain⟨o,e⟩:=q.some;rw[(F c (by simp at A⊢;rcases A with r|r|r|r <;> simp[r])).1]at e;cases e
 exact⟨its,B,p,⟨its2,l,E⟩,λx C=>⟨u,v,{toZipAt:=D,n1:=off j,n2:=off h},hz,t,m,J,G,p,C.2,λ_ _ _ e=>e⟩⟩
theorem G8 {P:Program}{w:World}{K:PySem.W.Frag}{S:pO}{tk0}{L:Pos}(a b z TI TO m l:Addr)(D:ZipAt z TI TO m l) :
  pF P w K (.Tuple S tk0 L) (T7 a b) [z,TI,TO,m,l] z (λi h=>IsZip h z TI TO .none/\IsPair h TI (.ref m) (.ref l)/\(∃u v,IsPair h TO u v)/\jX h m a i/\jX h l b i) where
 mem:=by simp
 obj:=λi h st c hc=>by
  obtain⟨hz,C,⟨u,v,B⟩,h1,F⟩:=st;obtain⟨o1,e1,d1⟩:=h1.obj;obtain⟨o2,e2,d2⟩:=F.obj;simp only[cu,List.not_mem_nil,or_false]at hc;rcases hc with rfl|rfl|rfl|rfl|rfl
  ·exact⟨_,hz,λv z=>by cases z⟩
  ·exact⟨_,C,λv z=>by cases z⟩
  ·exact⟨_,B,λv z=>by cases z⟩
  ·exact⟨_,e1,λv z=>by rw[d1]at z;cases z⟩
  ·exact⟨_,e2,λv z=>by rw[d2]at z;cases z⟩
 keep:=λi h h' st k=>by obtain⟨hz,C,⟨u,v,B⟩,h1,F⟩:=st;exact⟨k z (by simp) _ hz,k TI (by simp) _ C,⟨u,v,k TO (by simp) _ B⟩,h1.at λo e=>k m (by simp) o e,F.at λo e=>k l (by simp) o e⟩
 item:=by
  rintro X hP hw hK hc i j s σ H E I G st ⟨xs,ys,x,y,g,f,hx,hy⟩;subst hP hw hK;obtain⟨its,T,p,p',Z⟩:=Q0 I G D st g f;obtain⟨its2,d⟩:=p';obtain⟨u0,v0,Z⟩:=Z its2 d;refine xI (I.ok.hd hc) Z (λu v h' R Q Z' pr size=>?_) λno=>?_
  ·obtain⟨u',A,ru⟩:=T.get hx;obtain⟨v',t,U⟩:=d.1.get hy;rw[show its.toArray[i]?=its[i]? from by simp]at R;rw[show its2.toArray[i]?=its2[i]? from by simp]at Q;rw[A]at R;rw[t]at Q;cases R;cases Q;refine⟨_,rfl,wpAny_letOwnedTupleGo_zip (s:={s with heap:=h'}) Z'.zip λF hz2 N=>?_⟩;have J:=Z'.self N.extBut hz2;have new:z≠s.heap.objs.size:=bq (bd Z.zip);have pr2:IsPair F s.heap.objs.size u v:=N.extBut _ _ new.symm pr;have far:∀c o,c∉[z,TI,TO,m,l]->s.heap.get? c=some o->F.get? c=some o:=λc o hc e=>J.far c o (λq=>hc (by simp at q⊢;rcases q with r|r|r|r <;> simp[r])) e;have I2:aN X j σ (upd H s.heap.objs.size (.tup [x,y])) {s with heap:=F}:=I.turnedLaid (t':=s.toks) (ch:=[z,TI,TO,m,l]) far G (ac _) ⟨by show 2<=sizeLine;decide,[u,v],.cons ru (.cons U .nil),⟨_,pr2,rfl,_,rfl⟩⟩;refine⟨.ref s.heap.objs.size,_,I2,rfl,⟨s.heap.objs.size,x,y,rfl,I.hok.fresh (ac _),rfl,λxs' ys' q1 Y=>?_⟩,⟨J.zip,J.tin,⟨u,v,J.tout⟩,J.one,J.two⟩,λc hc=>?_⟩
   ·rw[q1.inj g,Y.inj f];exact⟨hx,hy⟩
   ·have O:∃o,s.heap.get? c=some o:=by
     simp only[cu,List.not_mem_nil,or_false]at hc;rcases hc with rfl|rfl|rfl|rfl|rfl
     ·exact⟨_,Z.zip⟩
     ·exact⟨_,Z.tin⟩
     ·exact⟨_,Z.tout⟩
     ·obtain⟨o,e,_⟩:=Z.one.obj;exact⟨o,e⟩
     ·obtain⟨o,e,_⟩:=Z.two.obj;exact⟨o,e⟩
    obtain⟨o,e⟩:=O;rw[aC (bq (bd e))];exact(G c hc).1
  ·obtain⟨u',A,_⟩:=T.get hx;obtain⟨v',t,_⟩:=d.1.get hy;rcases no with q|q
   ·rw[show its.toArray[i]?=its[i]? from by simp,A]at q;cases q
   ·rw[show its2.toArray[i]?=its2[i]? from by simp,t]at q;cases q
 done:=by
  rintro X hP hw hK hc i j s σ H E I G st ⟨xs,ys,g,f,hd⟩;subst hP hw hK;obtain⟨its,T,p,p',Z⟩:=Q0 I G D st g f;obtain⟨its2,d⟩:=p';obtain⟨u0,v0,Z⟩:=Z its2 d;have e1:=T.length;have e2:=d.1.length;refine xI (I.ok.hd hc) Z (λu v h' R Q _ _ _=>?_) λ_ h' far=>⟨rfl,?_⟩
  ·obtain⟨q1,_⟩:=Array.getElem?_eq_some_iff.mp R;obtain⟨Y,_⟩:=Array.getElem?_eq_some_iff.mp Q;rw[ag]at q1 Y
   lia
  ·exact I.turnedL (t':=s.toks) (ch:=[z,TI,TO,m,l]) (λc o hc e=>far c o (λq=>hc (by simp at q⊢;rcases q with r|r|r|r <;> simp[r])) e) G
 self:=λ_ _ _ _ _ st h=>wpAny_pyIter_zip st.1 h
def iZip2 (d:TA):TI:=λσ H R=>d σ H λvs c=>∃a b xs ys,vs=[.ref a,.ref b]/\eW c a xs/\eW c b ys/\R (T7 a b) c
theorem OH (G:Gl X "zip")(E:X.mg "zip" = none)(J:PA X [a,b] ta)(C:starEach [a,b] X.env=[(false,eval a X.env),(false,eval b X.env)]:=by rfl)(f:starEach [b] X.env=[(false,eval b X.env)]:=by rfl) :
  PI X (.Tuple elts tk0 tpos) (.Call (.Name "zip" p) [a,b] [] pos) (iZip2 ta):=by
 intro d s σ H R I h;refine Call_ (nR I G E boot_zip (PyProof.Rows.callWith_type1 (thn (J pos d s σ H _ I h) λus i ⟨vs,Q,g,r1,o⟩=>?_) (by rw[C,f]) (by rw[f];rfl)));obtain⟨v,u,xs,ys,e,B,A,q⟩:=o;subst e;obtain⟨T,S,rfl,L,K⟩:=vals2 r1;cases L;cases K;obtain⟨its,U,Y,t,x⟩:=g.sq B;obtain⟨its2,m,W,r,w⟩:=g.sq A;refine JQ x w λh' z TI TO l j D new a1 a2 P O N F=>?_;refine wpAny_pyIter_zip (s:={i with heap:=h'}) a1 ?_;exact⟨z,[z,TI,TO,l,j],_,_,Q,rfl,g.kept (t':=i.toks) F,G8 v u z TI TO l j D,⟨a1,a2,⟨_,_,P⟩,O,N⟩,λc hc=>g.fpOk (new c hc) (g.hok.fresh (new c hc)),q⟩
theorem rNeD_bb:rNeD (.bl i) (.bl j) H Q=Q (.bl (!decide (i=j))) H:=by
 have e:eqD (.bl i) (.bl j)=decide (i=j):=by cases i <;> cases j <;> rfl
 refine propext ⟨λ⟨d,g,f,c,_,q⟩=>?_,λq=>⟨.bl i,.bl j,rfl,rfl,ax _,by rw[e];exact q⟩⟩;have l:d = .bl i:=aY.inj f (show aY H (.bl i) (.bl i)from rfl);have h:g = .bl j:=aY.inj c (show aY H (.bl j) (.bl j)from rfl);rw[l,h,e]at q;exact q
theorem rEqD_bb:rEqD (.bl i) (.bl j) H Q=Q (.bl (decide (i=j))) H:=by
 have e:eqD (.bl i) (.bl j)=decide (i=j):=by cases i <;> cases j <;> rfl
 refine propext ⟨λ⟨d,g,f,c,_,q⟩=>?_,λq=>⟨.bl i,.bl j,rfl,rfl,ax _,by rw[e];exact q⟩⟩;have l:d = .bl i:=aY.inj f (show aY H (.bl i) (.bl i)from rfl);have h:g = .bl j:=aY.inj c (show aY H (.bl j) (.bl j)from rfl);rw[l,h,e]at q;exact q
theorem HG:starEach (.Dict ks vs p::es) env=(false,eval (.Dict ks vs p) env)::starEach es env:=by rw[starEach];exact λ_ _ z=>nomatch z
theorem zJ {X:Cx}{c:pO}{p:Pos}{t:TA}(h:PA X c t):PA X (.Dict [] [] p::c) (tCons KH t):=aA BN h HG
theorem zO:typeLookup (.type "list") "keys" = pure none:=am_miss_of_fast (by decide +kernel)
theorem zX {E:cJ}{Q:Option Value->Shared->Prop}
  (c:s.heap.get? a=some {cls:=.type "list",dict:=none,data:=.seq xs k,slots:=sl}) (calm:A.handled=none)
  (q:∀h' tk,(∀b d,s.heap.get? b=some d->h'.get? b=some d)->Q none {s with heap:=h',toks:=tk}) :
  wpAny (model P w) A (getAttr? (.ref a) "keys") Q E s:=by
 rcases s with⟨g,h,i,tk,os⟩;have ty:∀t,(⟨g,h,i,t,os⟩:Shared).TypeIs (.ref a) "list":=λ_=>⟨_,c,rfl⟩
 have u:=F.slot_list_getattribute.lookup;have r:=F.slot_list_getattribute.bind (.ref a);have p:=am_list_getattr_none;have o:=sub_AttributeError;rw[getAttr?];unfold getAttrBy? getAttrBy
 repeat (any_goals (first|assumption|exact ty _|((with_reducible show wpAny _ _ (call (Value.builtin "list.__getattribute__") _ _) _ _ _);refine call_meets F.slot_list_getattribute (ty _) am_entry_list_getattribute (F.args_list_getattribute_2 _ _) (meets_getattribute_miss_list a xs k sl "keys" _ zO (by decide) (by decide)) ⟨c,calm,λh' f e n=>?_⟩)|wp_step))
 obtain⟨m,l,j⟩:=n.there;dsimp only[wants];unfold getattributeRaised
 wp_walk
 exact q _ _ n.keeps
section
variable {P:Program}{w:World}{K:Type}[DecidableEq K]{knd:KeyKind P w K}
def AQ (knd:KeyKind P w K)(h:Heap)(d it:Addr)(x:Value)(kv:K×Value):Prop :=
 ∃(q:Addr) (o:Obj) (key:Value) (n:Nat),x = .ref q/\q≠d/\q≠it/\h.get? q=some o/\(o.cls = .type "list"∨o.cls = .type "tuple")/\o.data = .seq #[key,kv.2] n/\knd.is kv.1 key=true
theorem AQ.mono (p:AQ knd h d it x kv)(k:∀b o,b≠d->b≠it->h.get? b=some o->h'.get? b=some o):AQ knd h' d it x kv:=by obtain⟨q,o,key,n,i,e,c,g,f⟩:=p;exact⟨q,o,key,n,i,e,c,k q o e c g,f⟩
inductive RD (knd:KeyKind P w K)(h:Heap)(d it:Addr):cS->List (K×Value)->Prop
 | nil:RD knd h d it [] []
 | cons {x:Value} {xs:cS} {kv:K×Value} {more:List (K×Value)}:AQ knd h d it x kv->RD knd h d it xs more->RD knd h d it (x::xs) (kv::more)
theorem RD.mono (k:∀b o,b≠d->b≠it->h.get? b=some o->h'.get? b=some o)(r:RD knd h d it xs more):RD knd h' d it xs more:=by
 induction r with
 | nil=>exact .nil
 | cons p r c=>exact .cons (p.mono k) c
theorem mL:plainId "dict.update.loop" = true:=by decide +kernel
theorem xZ:entryFor table "dict.update.loop" = some Builtin.«dict.update.loop»:=entryFor_of_fast (by kernel_rfl)
theorem wI {E:cJ}{Q:cS->Shared->Prop}(e:s.heap.get? q=some o)(c:o.cls = .type "list"∨o.cls = .type "tuple")(d:o.data = .seq #[a,b] n)(h:Q [a,b] s) :
  wpAny (model P w) A (Builtin.Dict.pairItems (.ref q)) Q E s:=by
 unfold Builtin.Dict.pairItems;rcases c with c|c
 ·refine aa (wpAny_typeOf (T:="list") ⟨o,e,c⟩ ?_);rw[ai (by decide)];exact aa (wpAny_seqItems e d (ao h))
 ·refine aa (wpAny_typeOf (T:="tuple") ⟨o,e,c⟩ ?_);rw[ai (by decide)];exact aa (wpAny_seqItems e d (ao h))
theorem J9 (h:it≠d)(C:l≠d)(B:l≠it):∀(m i:Nat),items.size - i=m->∀(A:Around) (R:Result->Shared->Prop) (s:Shared) (c more:List (K×Value)) (tk:Tok),
  A.handled=none->s.heap.IsListIter it l i->s.heap.IsList l items->s.heap.DictOf knd d c->RD knd s.heap d it (items.toList.drop i) more->c.length+more.length<=sizeLine ->
  (∀h' f,h'.DictOf knd d (merged c more)->(∀b o,b≠d->b≠it->s.heap.get? b=some o->h'.get? b=some o)->R (.ok (.ret .none)) {s with heap:=h',toks:=f}) ->
  codeAny (model P w) A (.builtin "dict.update.loop" ⟨[.ref d,.ref it,.int i tk,.none],[]⟩) R s:=by
 intro m
 induction m with
 | zero =>
  intro i N A R s c more tk F st v hd t hz k;refine codeAny_builtin xZ ?_;rw[Around.under_plainId mL];have hi:items[i]?=none:=by simp;lia
  have T:more=[]:=by
   have:items.toList.drop i=[]:=by simp;lia
   rw[this]at t;cases t;rfl
  subst T;unfold Builtin.«dict.update.loop»;dsimp only;refine aa (wpAny_pyNext_list_end F st v hi λh' G=>?_);dsimp only;refine aa (m:=Builtin.Dict.addKeywords d []) (ao (ao ?_));exact k h' s.toks (hd.extBut G h.symm) λb o _ hb e=>G b o hb e
 | succ m L =>
  intro i N A R s c more tk F st v hd t hz k;refine codeAny_builtin xZ ?_;rw[Around.under_plainId mL];have r:i<items.size:=by lia
  have hi:items[i]?=some items[i]:=by simp[r]
  have U:items.toList.drop i=items[i]::items.toList.drop (i+1):=by simp[List.drop_eq_getElem_cons,r]
  rw[U]at t;cases t with
  | cons p rest =>
   rename_i kv more;unfold Builtin.«dict.update.loop»;dsimp only;refine aa (wpAny_pyNext_list_item st v hi λQ x g=>?_);dsimp only;obtain⟨q,o,key,n,eq,I,z,S,Y,X,J⟩:=p;rw[eq];refine aa (cj (aa (wpAny_tryCatch (wI (s:={s with heap:=Q}) ((g.2 q z).trans S) Y X ?_))));refine cj (wpAny_dictSet_pairs J (hd.sameBut g h.symm) (λO E j=>?_) (by simp at hz;lia));have kept:∀b o,b≠d->b≠it->s.heap.get? b=some o->O.get? b=some o:=λb o nb u e=>(j.2 b nb).trans ((g.2 b u).trans e);refine ao ⟨plainId_quiet mL _,?_⟩;have W:((i:Int)+1)=((i+1:Nat):Int):=by push_cast;rfl
   rw[W];refine L (i+1) (by lia) A R _ (stored c kv.1 kv.2) more 0 F (x.at λo e=>(j.2 it h).trans e) (v.at λo e=>kept l o C B e) E (rest.mono kept) ?_ λh' f r1 H=>?_
   ·have:=stored_length_le c kv.1 kv.2;simp at hz;lia
   ·exact k h' f r1 λb o nb u e=>H b o nb u (kept b o nb u e)
def T2 (knd:KeyKind P w K)(h:Heap)(x:Value)(kv:K×Value):Prop :=
 ∃(q:Addr) (o:Obj) (key:Value) (n:Nat),x = .ref q/\h.get? q=some o/\(o.cls = .type "list"∨o.cls = .type "tuple")/\o.data = .seq #[key,kv.2] n/\knd.is kv.1 key=true
inductive rM (knd:KeyKind P w K)(h:Heap):cS->List (K×Value)->Prop
 | nil:rM knd h [] []
 | cons {x:Value} {xs:cS} {kv:K×Value} {more:List (K×Value)}:T2 knd h x kv->rM knd h xs more->rM knd h (x::xs) (kv::more)
theorem rM.at (i:h.get? d=none)(g:h.get? it=none)(k:∀b o,h.get? b=some o->h'.get? b=some o)(r:rM knd h xs more):RD knd h' d it xs more:=by
 induction r with
 | nil=>exact .nil
 | cons p r f =>
  obtain⟨q,o,key,n,l,c,j⟩:=p;exact .cons ⟨q,o,key,n,l,λe=>(by rw[e,i]at c;cases c),λe=>(by rw[e,g]at c;cases c),k q o c,j⟩ f
theorem sF {E:cJ}{Q:cJ}
  (c:s.heap.get? l=some {cls:=.type "list",dict:=none,data:=.seq items n,slots:=sl}) (calm:A.handled=none) (x:rM knd s.heap items.toList more) (hz:more.length<=sizeLine)
  (q:∀h' tk,h'.DictOf knd s.heap.objs.size (merged [] more)->(∀b o,s.heap.get? b=some o->h'.get? b=some o)->Q (.ref s.heap.objs.size) {s with heap:=h',toks:=tk}) :
  wpAny (model P w) A (call (.type "dict") [.ref l]) Q E s:=by
 refine callType_codes (Q₁:=λv p=>v = .ref s.heap.objs.size/\p={s with heap:=s.heap.push {cls:=.type "dict",data:=.dict #[]} }) F.kt_called_dict (F.kt_typeCall_dict_1 _) F.entry_dict_init (kt_code_dict_new _ ⟨rfl,rfl⟩) ?_;rintro v p ⟨rfl,rfl⟩;have m:(s.heap.push {cls:=.type "dict",data:=.dict #[]}).DictOf knd s.heap.objs.size []:=Heap.DictOf.new s.heap;have g:=af {cls:=.type "dict",data:=.dict #[]} c;have lt:=bd c;refine⟨m.typeIs,F.args_dict_init_2 _ _,?_⟩;unfold Builtin.«dict.__init__» Builtin.Dict.selfAndRest;refine aa (aa (wpAny_notOrdered_dict m.typeIs (ao ?_)));unfold Builtin.Dict.updateCommon Builtin.Dict.updateFrom;dsimp only;refine aa (wpAny_typeOf (T:="list") ⟨_,g,rfl⟩ ?_);rw[ai (by decide)];refine aa (zX g calm λj t1 i=>?_);rw[ai (by rfl)];have u:=i _ _ g;refine aa (wpAny_rule (aa (wpAny_pyIter_list (items:=items) ⟨_,u,rfl,_,rfl⟩ (ao ⟨plainId_quiet mL _,?_⟩))));have r:=m.keep i;have d:s.heap.objs.size<j.objs.size:=by obtain⟨o,e,_⟩:=Heap.dictOf_iff.mp r;exact bd e
 have h:∀b o,s.heap.get? b=some o->(j.push {cls:=.type "list_iterator",data:=.fields #[.ref l,.int 0 0]}).get? b=some o:=λb o e=>af _ (i b o (af _ e));refine J9 (it:=j.objs.size) (l:=l) (items:=items) (Nat.ne_of_gt d) (bq lt) (bq (Nat.lt_trans lt d)) _ 0 rfl A.in1 _ _ [] more 0 calm ⟨_,aw _ rfl,rfl,rfl⟩ ⟨_,h _ _ c,rfl,_,rfl⟩ (r.push _)
  (rM.at (Heap.get?_none_of_le (ac _)) (Heap.get?_none_of_le (Nat.le_of_lt d)) h x) (by simpa using hz) λh' f r1 t=>?_
 exact⟨rfl,q h' f r1 λb o e=>t b o (bq (bd e)) (bq (Nat.lt_trans (bd e) d)) (h b o e)⟩
end
noncomputable def prV (H:Hp):V->Option (V×V)
 | .ref p=>match H p with
  | some (.lst [a,b])=>some (a,b)
  | some (.tup [a,b])=>some (a,b)
  | _=>none
 | _=>none
theorem BM {X:Cx}{g:cW}{σ:St}{H:Hp}{s:Shared}(I:aN X g σ H s):∀{ys:List V} {us:cS} {d:List (cM×V)},aR ys us->ys.map (prV H)=d.map (λkv=>some (kV kv.1,kv.2)) ->
  ∃rs:List (cM×Value),rM (bW X.prog X.w) s.heap us rs/\KV d rs
 | [],_,[],r,_=>by cases r;exact⟨[],.nil,.nil⟩
 | [],_,_::_,_,e=>by cases e
 | _::_,_,[],_,e=>by cases e
 | y::ys,_,kv::d,r,e=>by
  cases r with
  | @cons _ u _ us v r =>
   rw[bf,bf]at e;injection e with f A;obtain⟨rs,c,q⟩:=BM I r A;cases y with
   | ref p =>
    cases v;unfold prV at f;dsimp only at f;split at f
    ·rename_i a b m;cases f;obtain⟨_,its,n,j,t⟩:=(show cD X.prog X.w H s.heap p (.lst [_,_])from I.hok p _ m)
     obtain⟨i,h,rfl,r1,l⟩:=vals2 j;exact⟨(kv.1,h)::rs,.cons ⟨p,_,i,n,rfl,t,.inl rfl,rfl,oZ r1⟩ c,.cons ⟨rfl,l⟩ q⟩
    ·rename_i a b m;cases f;obtain⟨_,its,j,o,t,z,n,x⟩:=(show cD X.prog X.w H s.heap p (.tup [_,_])from I.hok p _ m)
     obtain⟨i,h,rfl,r1,l⟩:=vals2 j;exact⟨(kv.1,h)::rs,.cons ⟨p,o,i,n,rfl,t,.inr z,x,oZ r1⟩ c,.cons ⟨rfl,l⟩ q⟩
    ·cases f
   | _=>cases f
def R9:List V->Hp->VK->Prop:=λxs H Q=>∃p ys c,xs=[.ref p]/\H p=some (.lst ys)/\ys.map (prV H)=c.map (λkv=>some (kV kv.1,kv.2))/\∀d,H d=none->Q (.ref d) (upd H d (.dK (jV [] c)))
theorem nU (hc:X.calm=true):cN X (.type "dict") R9:=by
 intro f s σ H xs us Q I r h;obtain⟨p,ys,d,rfl,l,g,q⟩:=h;obtain⟨u,rfl,i⟩:=vals1 r;cases i;obtain⟨z,its,n,j,m⟩:=(show cD X.prog X.w H s.heap p (.lst ys)from I.hok p _ l)
 obtain⟨rs,c,e⟩:=BM I j g;have v:d.length=ys.length:=by have:=congrArg List.length g;simpa using this.symm
 have t:d.length=rs.length:=e.length;refine sF m (I.ok.hd hc) (by simpa using c) (by lia) λh' tk o kp=>⟨.ref s.heap.objs.size,_,?_,rfl,q _ (I.hok.fresh (ac _))⟩
 have hz:(jV [] d).length<=sizeLine:=by have:=m6 d [];rw[List.length_nil]at this;lia
 exact I.laid (t':=tk) kp (ac _) (M0 hz (cy.mpr (Ne.symm (bq I.big))) (e.merge .nil) o)
def rDIn (c:Bool):R2:=λx y H Q=>∃a o,y = .ref a/\jE H a x o/\Q (.bl (if c then !o.isSome else o.isSome)) H
theorem EC (f:X.A.units+64<cLine):jZ X (compareOp .NotIn) (rDIn true):=by intro c s σ H x y v u Q I e d h;obtain⟨a,o,rfl,g,q⟩:=h;cases d;exact QH (aj (bS (by decide) _) f) I g e λj i=>⟨.bl _,H,i,rfl,q⟩
def OD:V->List V->Hp->VK->Prop:=λx vs H Q=>∃(l:Addr) (xs:List V) (i:Nat) (y:V),x = .ref l/\vs=[.int i,y]/\H l=some (.lst xs)/\i<=xs.length/\xs.length<1000/\Q .non (upd H l (.lst (xs.take i++y::xs.drop i)))
theorem pR:∀{xs:List V} {us:cS} (i:Nat),aR xs us->aR (xs.take i) (us.take i)/\aR (xs.drop i) (us.drop i)
 | _,_,i,.nil=>by rw[List.take_nil,List.take_nil,List.drop_nil,List.drop_nil];exact⟨.nil,.nil⟩
 | _,_,0,.cons r t=>⟨.nil,.cons r t⟩
 | _,_,i+1,.cons r t=>⟨.cons r (pR i t).1,(pR i t).2⟩
theorem IM:UE X "list.insert" OD:=by
 intro f s σ H x vs v us Q I j o h;obtain⟨l,xs,i,y,rfl,rfl,g,hi,hz,q⟩:=h;cases j;obtain⟨B,d,rfl,r1,p⟩:=vals2 o;obtain⟨t,rfl⟩:=r1;obtain⟨z,its,n,r,u,e⟩:=I.lstM g;obtain⟨k,hk⟩:∃k:Int,k=(i:Int):=⟨_,rfl⟩
 rw[←hk];have c:¬(!Builtin.List.listFitsIndex k)=true:=by rw[fitsIndex_both (by lia) (by lia)];exact Bool.false_ne_true
 have hsz:its.toArray.size<=sizeLine:=by rw[ag,←u];exact z
 refine call_meets F.slot_list_insert ⟨_,e,rfl⟩ F.entry_list_insert (F.args_list_insert_3 _ _ _) (PySem.AutoSeq1.list_insert_list_int_val_1 l its.toArray n k t d c hsz) ⟨e,?_⟩
 ·obtain⟨a1,a2⟩:=pR i r;refine⟨.non,_,I.lset (its':=its.take i++d::its.drop i) g e ?_ (a1.append (.cons p a2)) ?_,rfl,q⟩
  ·have A:¬(k<0):=by lia
   have w:min k.toNat its.toArray.size=i:=by rw[ag,hk,cq];lia
   dsimp only;rw[ab A,w];apply Array.ext';simp;exact List.take_of_length_le (by rw[bx];exact ac _)
  ·rw[av,au,bv,bx];exact aq (m:=1000) (by lia) (by decide)
noncomputable def VJ (K:PySem.W.Frag)(a:Addr)(xs:List V):It :=
 ⟨λi H=>eV K H a xs/\i<xs.length,λi H x H'=>H'=H/\xs[xs.length - 1 - i]?=some x,λi H=>eV K H a xs/\i=xs.length⟩
theorem KF {P:Program}{w:World}{K:PySem.W.Frag}{F:Expr}(a it:Addr)(xs:List V):pF P w K F (VJ K a xs) [it] it (λi h=>h.IsRevIter it a ((xs.length:Int) - 1 - (i:Int))) where
 mem:=by simp
 obj:=λi h st b hb=>by
  obtain rfl:b=it:=by simpa using hb
  obtain⟨o,e,c,d⟩:=st;exact⟨o,e,λv z=>by rw[d]at z;cases z⟩
 keep:=λi h h' st k=>st.at λo e=>k it (by simp) o e
 item:=by
  intro X q l r hc i f s σ H E I j st m;subst q l r;obtain⟨C,hi⟩:=m;obtain⟨its,G,p,hz⟩:=I.list C;have B:xs[xs.length - 1 - i]?=some xs[xs.length - 1 - i]:=az (by lia);obtain⟨u,L,J⟩:=G.get B;obtain⟨f0,f1,f2,f3,f4,t⟩:=j it (by simp);have A:(xs.length:Int) - 1 - (i:Int)=((xs.length - 1 - i:Nat):Int):=by lia
  rw[A]at st;refine wpAny_pyNext_rev_item st p.isList (x:=u) (by simpa using L) λh' g sb=>?_;have Q:aN X f σ H {s with heap:=h'}:=I.turned (t':=s.toks) (λb o hb e=>(sb.2 b hb).trans e) f0 f1 f3 f4 t;obtain⟨o,e,c,d⟩:=id g;refine⟨u,rfl,CO (s:={s with heap:=h'}) e c d (by decide) ⟨_,H,Q,J,⟨rfl,B⟩,?_,λb hb=>(j b hb).1⟩⟩;have O:(xs.length:Int) - 1 - ((i+1:Nat):Int)=((xs.length - 1 - i:Nat):Int) - 1:=by lia
  rw[O];exact g
 done:=by
  intro X q l r hc i f s σ H E I j st m;subst q l r;obtain⟨C,hi⟩:=m;obtain⟨f0,f1,f2,f3,f4,t⟩:=j it (by simp);have A:(xs.length:Int) - 1 - (i:Int) = -1:=by lia
  rw[A]at st;exact wpAny_pyNext_rev_end (I.ok.hd hc) st λh' N=>⟨rfl,I.turned (t':=s.toks) (λb o hb e=>N b o hb e) f0 f1 f3 f4 t⟩
 self:=λ_ _ _ _ _ st h=>wpAny_pyIter_revIter st h
def iRev (K:PySem.W.Frag)(d:TA):TI:=λσ H R=>d σ H λvs c=>∃a xs,vs=[.ref a]/\c a=some (.lst xs)/\R (VJ K a xs) c
theorem zG (K:PySem.W.Frag)(x:X.K=K)(v:Gl X "reversed")(u:X.mg "reversed" = none)(w:PA X [a] ta)(t:starEach [a] X.env=[(false,eval a X.env)]:=by rfl) :
  PI X tg (.Call (.Name "reversed" p) [a] [] pos) (iRev K ta):=by
 subst x;intro d s σ H R I h;refine Call_ (nR I v u boot_reversed (PyProof.Rows.callWith_type1 (thn (w pos d s σ H _ I h) λus c ⟨vs,A,g,r1,j⟩=>?_) t rfl));obtain⟨f,xs,e,r,q⟩:=j;subst e;obtain⟨B,rfl,z⟩:=vals1 r1;cases z;obtain⟨its,i,l,m⟩:=g.list (eV.of r);refine call_reversed_list l.isList ?_
 have st:(c.heap.push (revObj f ((its.toArray.size:Int) - 1))).IsRevIter c.heap.objs.size f ((xs.length:Int) - 1 - ((0:Nat):Int)):=⟨_,aw _ rfl,rfl,by
  have e:=i.length;rw[ag,←e]
  simp[revObj]⟩
 refine wpAny_pyIter_revIter (s:={c with heap:=c.heap.push (revObj f ((its.toArray.size:Int) - 1))}) st ?_;refine⟨c.heap.objs.size,[c.heap.objs.size],_,_,A,rfl,g.kept (t':=c.toks) λb o e=>af _ e,KF f _ xs,st,λb hb=>?_,q⟩;obtain rfl:b=c.heap.objs.size:=by simpa using hb
 exact g.fpOk (ac _) (g.hok.fresh (ac _))
section
variable {g:TG}{tb:TS}{D:jD}{σ:St}{H:Hp}{K:PySem.W.Frag}
theorem MQ {a:Addr}(xs:List V)(Pv:Nat->St->Hp->Prop)(l:Pv 0 σ H)(j:∀i σ H,i<=xs.length->Pv i σ H->H a=some (.lst xs))
  (h:∀i x σ H,i<xs.length->xs[xs.length - 1 - i]?=some x->Pv i σ H->g x σ H λf o=>tb {D with nx:=Pv (i+1),ct:=Pv (i+1),bk:=D.nx} f o) (hd:∀σ H,Pv xs.length σ H->D.nx σ H):sI (VJ K a xs) g tb D σ H:=by
 refine⟨λi m σ H=>m=xs.length - i/\i<=xs.length/\Pv i σ H,⟨xs.length,by simp,ax _,l⟩,?_⟩;rintro i m σ H ⟨rfl,hi,p⟩;have d:=eV.of (K:=K) (j i σ H hi p);by_cases c:i<xs.length
 ·refine .inr ⟨⟨d,c⟩,Pv (i+1),λr H' q=>⟨xs.length - (i+1),by lia,rfl,c,q⟩,λz H' y=>?_⟩;obtain⟨rfl,q⟩:=y;exact h i z σ _ c q p
 ·have e:i=xs.length:=by lia
  subst e;exact .inl ⟨⟨d,rfl⟩,hd σ H p⟩
end
theorem tComp_fn:tComp src wi g tt te=λσ H Q=>wi σ H λJ c=>nH J g tt te Q (stC src σ) c:=rfl
theorem tFor_fn:tFor wi g tb=λD σ H=>wi σ H λJ c=>sI J g tb D σ c:=rfl
theorem ite_on {a b:Prop}(e:c=true->a)(d:c=false->b):(if c=true then a else b):=by
 cases c with
 | true=>rw[ai rfl];exact e rfl
 | false=>rw[ab (by decide)];exact d rfl
noncomputable def revT {α:Type}(xs:List α):List α:=(xs.drop 1).reverse
theorem xB {α:Type}(x:α)(xs:List α):revT (x::xs)=xs.reverse:=rfl
theorem M9 (k:Nat):(List.range k).map (λm=>k - m)=((List.range k).map (λm=>1+m)).reverse:=by
 apply List.ext_getElem
 ·simp
 ·intro i d c;simp at d c⊢
  lia
theorem yL (its:cS)(k:Nat)(h:its.length=k+1):(List.range k).filterMap (λm=>its.toArray[k - m]?)=(its.drop 1).reverse:=by
 have e:(List.range k).filterMap (λm=>its.toArray[k - m]?)=((List.range k).map (λm=>k - m)).filterMap (λj=>its.toArray[j]?):=by rw[List.filterMap_map];rfl
 rw[e,M9,List.filterMap_reverse];have:=pick_run its.toArray 1 k;rw[this];congr 1;rw[List.take_of_length_le];rw[bx];simp
 lia
theorem HY (its:cS)(h:its≠[]):slicePick its.toArray none (some 0) (some (-1))=(revT its).toArray:=by
 obtain⟨k,hk⟩:∃k,its.length=k+1:=⟨its.length - 1,by have:=List.length_pos_iff.mpr h;lia⟩
 unfold slicePick;rw[ag,hk];have e:sliceBounds none (some 0) (some (-1)) (k+1)=((k:Int),0,-1):=by
  simp only[sliceBounds,Option.getD_some];refine Prod.ext ?_ (Prod.ext ?_ rfl)
  ·simp
  ·simp <;> lia
 rw[e];have f:sliceRange (k:Int) 0 (-1)=(List.range k).map λm=>k - m:=by
  unfold sliceRange;have c:(if (-1:Int) > 0 then(if (k:Int)<0 then(0 - (k:Int) + -1 - 1) / -1 else 0)else(if (k:Int) > 0 then((k:Int) - 0 - -1 - 1) / (- -1)else 0)).toNat=k:=by
   rw[ab (by decide)];split
   ·have:((k:Int) - 0 - -1 - 1) / (- -1)=k:=by rw[show(- -1:Int)=1 from rfl,Int.ediv_one];lia
    rw[this];lia
   ·lia
  dsimp only;rw[c];refine List.map_congr_left λm d=>?_;have:=List.mem_range.mp d
  lia
 dsimp only;rw[f,List.filterMap_map];have:=yL its k hk;unfold revT;rw[←this];rfl
theorem AO {prog:Program}{w:World}{A:Around}{E:cJ}{s:Shared}{i:Addr}{g e f:Value}{n:Nat}{Q:Int×Int×Nat->Shared->Prop}(l:s.heap.IsSliceOf i g e f)(pl:IsPart g none)(j:IsPart e (some 0))(pt:IsPart f (some (-1)))(q:1<=n)
  (h:Q ((n:Int) - 1,-1,n - 1) s):wpAny (model prog w) A (Builtin.Slice.sliceApplied (.ref i) (pure (n:Int))) Q E s:=by
 obtain⟨os,c,m,d⟩:=id l;unfold Builtin.Slice.sliceApplied Builtin.Slice.sliceFields;refine aa (aa (wpAny_field c d (x:=g) rfl (aa (wpAny_field c d (x:=e) rfl (aa (wpAny_field c d (x:=f) rfl (ao ?_)))))));refine aa (HT.slicePart_ pt ?_);show wpAny _ _ (if ((-1:Int) == 0)=true then _ else _) _ _ s;rw[ab (by decide)];refine aa (HT.slicePart_ pl (aa (HT.slicePart_ j (aa (ao ?_)))));have p:Builtin.Slice.sliceAdjust none (some 0) (-1) (n:Int)=((n:Int) - 1,0):=by
  unfold Builtin.Slice.sliceAdjust;refine Prod.ext ?_ ?_
  ·simp
  ·simp
   lia
 have o:Builtin.Slice.slicePlaces ((n:Int) - 1) 0 (-1)=n - 1:=by
  unfold Builtin.Slice.slicePlaces;rw[ab (by decide)];split
  ·rw[show(- -1:Int)=1 from rfl,Int.ediv_one];lia
  ·lia
 show wpAny _ _ (match Builtin.Slice.sliceAdjust none (some 0) (-1) (n:Int)with|(lo,hi)=>pure (lo,(-1:Int),Builtin.Slice.slicePlaces lo hi (-1))) _ _ s;rw[p];show wpAny _ _ (pure ((n:Int) - 1,(-1:Int),Builtin.Slice.slicePlaces ((n:Int) - 1) 0 (-1))) _ _ s;rw[o];exact ao h
theorem DP {E:cJ}{Q:cJ}(c:IsTup s.heap t its.toArray)(i:s.heap.IsSliceOf sl vl vu vt)(pl:IsPart vl none)(j:IsPart vu (some 0))(pt:IsPart vt (some (-1)))(l:its≠[])(hz:its.length<=sizeLine)
  (h:Q (.ref s.heap.objs.size) {s with heap:=s.heap.push {cls:=.type "tuple",data:=.seq (revT its).toArray} }):wpAny (model prog w) A (getItem (.ref t) (.ref sl)) Q E s:=by
 obtain⟨k,hk⟩:∃k,its.length=k+1:=⟨its.length - 1,by have:=List.length_pos_iff.mpr l;lia⟩
 obtain⟨os,d,f,o⟩:=id i;have g:s.TypeIs (.ref sl) "slice":=⟨os,d,f⟩
 unfold getItem
 try with_reducible refine cj ?_
 first|refine aa (ao ?_)|skip
 refine aa (wpAny_sequenceKey c.typeIs (by decide) ?_)
 refine aa (wpAny_callSpecial?_slot (name:=Str.ofString "__getitem__") c.typeIs PyProof.Rows.slot_tuple_getitem
  (wpAny_call_entry PyProof.Rows.slot_tuple_getitem c.typeIs entry_tuple_getitem ?_ (args_tuple_getitem _ _)))
 show wpAny _ _ (Builtin.Tuple.tupleItemsOf (.ref t) >>= _) _ _ s;refine aa (tupleItemsOf_ c ?_);refine aa (wpAny_typeOf g ?_);rw[ai (by decide)];refine aa (AO (n:=its.toArray.size) i pl j pt (by rw[ag];lia) ?_);dsimp only;rw[ab (by intro q;rw[Bool.and_eq_true,Bool.and_eq_true]at q;exact absurd q.1.2 (by decide))];have e:((List.range (its.toArray.size - 1)).filterMap λ(m:Nat)=>its.toArray[(((its.toArray.size:Nat):Int) - 1+(m:Int) * -1).toNat]?).toArray=(revT its).toArray:=by
  rw[ag,hk];have q:=yL its k hk;unfold revT;rw[←q];congr 2;funext m;congr 1
  lia
 rw[e];have hsz:sizeOk (.seq (revT its).toArray):=by
  show(revT its).toArray.size<=sizeLine;rw[ag];unfold revT;rw[List.length_reverse,bx]
  lia
 first
  | exact aa (m:=Builtin.Tuple.tupleExact _) (cg (ao ⟨_,rfl,ao h⟩) hsz)
  | exact aa (m:=Builtin.Tuple.tupleExact _) (cg (aa (ao (ao ⟨_,rfl,ao h⟩))) hsz)
  | exact aa (aa (m:=Builtin.Tuple.tupleExact _) (cg (ao (ao ⟨_,rfl,ao h⟩)) hsz))
  | exact aa (aa (m:=Builtin.Tuple.tupleExact _) (cg (ao ⟨_,rfl,ao h⟩) hsz))
def UY (X:Cx)(r:V->Option Int->Option Int->Option Int->Hp->VK->Prop):Prop :=
 ∀(c:cW) (s:Shared) (σ:St) (H:Hp) (x:V) (v vl vu vt:Value) (lo hi st:Option Int) (sl:Addr) (Q:VK),aN X c σ H s->aQ x v->s.heap.IsSliceOf sl vl vu vt->IsPart vl lo->IsPart vu hi->IsPart vt st->r x lo hi st H Q ->
  ∃T id,typeLookup (.type T) "__getitem__" = pure (some (.builtin id))/\s.TypeIs v T/\wpAny (model X.prog X.w) X.A (getItem v (.ref sl)) (EP X c σ Q) X.xe s
def tSl3 (r:V->Option Int->Option Int->Option Int->Hp->VK->Prop)(e:TE)(tl d c:TO):TE:=λσ H Q=>e σ H λx i=>tl σ i λl h=>d σ h λu g=>c σ g λt f=>r x l u t f Q
theorem xE {X:Cx}{e:Expr}{p:TE}{lo hi:Option Expr}{st:Expr}{tl o m:TO}{f J:Pos}{r:V->Option Int->Option Int->Option Int->Hp->VK->Prop}(O:UY X r)(S:PE X e p)(P:PO X lo tl)(L:PO X hi o)(N:PO X (some st) m):PE X (.Subscript e (.Slice lo hi (some st) J) f) (tSl3 r p tl o m):=by intro c s σ H Q I h;refine Subscript_ (thn (S c s σ H _ I h) λv A ⟨x,H1,I1,r1,F⟩=>?_);refine wpAny_Slice (thn (P c A σ H1 _ I1 F) λj s2 ⟨l,H2,I2,pl,E⟩=>thn (L c s2 σ H2 _ I2 E) λg z ⟨u,H3,Z,G,C⟩=>thn (N c z σ H3 _ Z C) λi d ⟨t,w,Y,pt,B⟩=>?_);have W:aN X c σ w {d with heap:=d.heap.push {cls:=.type "slice",data:=.fields #[j,g,i]} }:=Y.kept (t':=d.toks) λb ob q=>af _ q;obtain⟨T,id,U,K,R⟩:=O c _ σ w x v j g i l u t d.heap.objs.size Q W r1 (Heap.IsSliceOf.new ..) pl G pt B;exact tail_any (ops:=[v,.ref d.heap.objs.size]) K U R (by with_unfolding_all rfl)
def rBack:V->Option Int->Option Int->Option Int->Hp->VK->Prop:=λx lo hi st H Q=>lo=none/\hi=some 0/\st=some (-1)/\∃a xs,x = .ref a/\eW H a xs/\xs≠[] /\
 ∀p o,H p=none->(o = .lst (revT xs)/\H a=some (.lst xs)∨o = .tup (revT xs)/\H a=some (.tup xs))->Q (.ref p) (upd H p o)
theorem aR.revT (h:aR xs us):aR (revT xs) (L2.revT us):=(h.drop 1).reverse
theorem BG {α:Type}(xs:List α):(revT xs).length<=xs.length:=by unfold revT;rw[List.length_reverse,bx];lia
theorem FQ (h:aR xs us)(n:xs≠[]):us≠[]:=λz=>by have:=h.length;rw[z]at this;exact n (List.length_eq_zero_iff.mp this)
theorem F4:UY X rBack:=by
 intro i s σ H x v u p t lo hi st w Q I f j pl g pt h;obtain⟨rfl,rfl,rfl,a,xs,rfl,e|e,l,q⟩:=h
 ·cases f;obtain⟨its,r,d,hz⟩:=I.list (eV.of e);refine⟨"list",_,slot_list_getitem.lookup,d.isList.typeIs,?_⟩;have c:=r.length;refine wpAny_getItem_list_slice d.isList j pl g pt (by decide) ?_ (by rw[ag] <;> lia);rw[HY its (FQ r l)];refine⟨.ref s.heap.objs.size,_,I.laid (t':=s.toks) (o:=.lst (revT xs)) (λb m q=>af _ q) (ac _) ?_,rfl,q _ _ (I.hok.fresh (ac _)) (.inl ⟨rfl,e⟩)⟩;exact⟨aq (BG xs) hz,_,0,r.revT,aw _ rfl⟩
 ·cases f;obtain⟨its,r,d,hz⟩:=I.tuple (iG.of e);refine⟨"tuple",_,PyProof.Rows.slot_tuple_getitem.lookup,d.typeIs,?_⟩;have c:=r.length;refine DP d j pl g pt (FQ r l) (by lia) ?_;refine⟨.ref s.heap.objs.size,_,I.laid (t':=s.toks) (o:=.tup (revT xs)) (λb m q=>af _ q) (ac _) ?_,rfl,q _ _ (I.hok.fresh (ac _)) (.inr ⟨rfl,e⟩)⟩;exact⟨aq (BG xs) hz,_,r.revT,⟨_,aw _ rfl,rfl,_,rfl⟩⟩
def rExtU:V->List V->Hp->VK->Prop:=λx vs H Q=>∃l b xs c,x = .ref l/\vs=[.ref b]/\H l=some (.lst xs)/\eW H b c/\xs.length+c.length<=sizeLine/\Q .non (upd H l (.lst (xs++c)))
theorem QF (e:(!its.isEmpty && Builtin.List.listTooLong (its.size+its2.size))=false)(m:its.size<=sizeLine)(j:its.size+its2.size<=sizeLine+1) :
  Meets (Builtin.«list.extend» ⟨[.ref l,.ref b],[]⟩) (λ_ R s=>s.heap.get? l=some {cls:=.type "list",data:=.seq its n}/\s.heap.get? b=some ⟨.type "tuple",od,.seq its2 n2,osl⟩ /\
   R (.ok (.ret .none)) {s with heap:=s.heap.update l (Obj.mapSeq λx=>x++its2)}):=by
 refine .of_wp λprog w A R f h=>?_;obtain⟨o,g,d,tk,os⟩:=f;obtain⟨c,hb,h⟩:=h;have e:¬(!its.isEmpty && Builtin.List.listTooLong (its.size+its2.size))=true:=by rw[e];decide
 have f1:=AutoSeq1.idx_int;have f4:=AutoSeq1.sub_tuple_list;have p:=AutoSeq1.sub_list_tuple;have i:(its++its2).size<=sizeLine+1:=by rw[Array.size_append];exact j
 wp_walk using (wpAny_updateSeq c rfl (hz:=m) (_hz':=i)),
  bh c,bh hb
 exact⟨_,rfl,h⟩
theorem zR:UE X "list.extend" rExtU:=by
 intro c s σ H x vs v us Q I g i h;obtain⟨l,b,xs,t,o,p,d,f|f,hz,q⟩:=h
 ·exact IN c s σ H x vs v us Q I g i ⟨l,b,xs,t,o,p,d,f,hz,q⟩
 subst o p;cases g;obtain⟨u,rfl,w⟩:=i.one;cases w;obtain⟨z,its,n,r,L,e⟩:=I.lstM d;obtain⟨its2,j,⟨⟨K,od,A,osl⟩,C,G,n2,E⟩,J⟩:=I.tuple (iG.of f);cases G;cases E;have B:=j.length;have hsz:its.toArray.size+its2.toArray.size<=sizeLine:=by rw[ag,ag];lia
 have m:=QF (l:=l) (b:=b) (its:=its.toArray) (its2:=its2.toArray) (n:=n) (n2:=n2) (od:=od) (osl:=osl) (by rw[uM hsz,Bool.and_false]) (by rw[ag];lia) (by lia);refine call_meets F.slot_list_extend ⟨_,e,rfl⟩ F.entry_list_extend (F.args_list_extend_2 _ _) m ⟨e,C,?_⟩;refine⟨.non,_,I.lset (its':=its++its2) d e (by simp) (r.append j) ?_,rfl,q⟩;rw[av]
 lia
noncomputable def tl1 (z:Str):Str:=⟨(z.cps.toList.drop 1).toArray⟩
def rSlTx:V->Option Int->Option Int->Hp->VK->Prop:=λx lo hi H Q=>∃z,x = .str z/\lo=some 1/\hi=none/\1<=z.length/\z.length<=sizeLine/\Q (.str (tl1 z)) H
theorem HX (z:Str)(h:1<=z.length)(u:Tok):slicePicked z (some (1,u)) none none=(List.range (z.length - 1)).map λm=>1+m:=by
 show Builtin.Str.strSliceIndices (some 1) none 1 z.length=_;unfold Builtin.Str.strSliceIndices;dsimp only;rw[ab (show ¬(1:Int)<0 by decide),ai (show(1:Int) > 0 by decide),ai (show(1:Int) > 0 by decide)];have e:max 0 (min 1 (z.length:Int))=1:=by lia
 rw[e];unfold sliceRange;dsimp only;rw[ai (by decide)];have c:(if (1:Int)<(z.length:Int)then((z.length:Int) - 1+1 - 1) / 1 else 0).toNat=z.length - 1:=by
  split
  ·rw[Int.ediv_one];lia
  ·lia
 rw[c];refine List.map_congr_left λm _=>?_
 lia
theorem R4:UX X rSlTx:=by
 intro c s σ H x v p o lo hi r Q I d g pl f h;obtain⟨z,rfl,rfl,rfl,j,hz,q⟩:=h;obtain⟨t,rfl⟩:=d;cases pl;rename_i tk;cases f;refine⟨"str",_,F.slot_str_getitem.lookup,typeIs_str _ _ _,?_⟩;refine wpAny_getItem_str_slice (l:=some (1,tk)) (u:=none) (st:=none) g rfl ?_;have i:=HX z j tk;unfold sliceMade;rw[i,ab (by intro w;rw[Bool.and_eq_true]at w;have:=eq_of_beq w.2;simp at this;lia)];have e:(((List.range (z.length - 1)).map λm=>1+m).filterMap (z.cps[·]?)).toArray=(z.cps.toList.drop 1).toArray:=by have:=pick_run z.cps 1 (z.length - 1);rw[this];congr 1;rw[List.take_of_length_le];rw[bx,br];exact ac _
 rw[e];refine⟨?_,.str (tl1 z),H,I.tok _,⟨_,rfl⟩,q⟩;show(z.cps.toList.drop 1).toArray.size<=sizeLine;have hd:(z.cps.toList.drop 1).length=z.cps.size - 1:=by simp
 rw[ag,hd];exact aq (Nat.sub_le _ _) hz
noncomputable def VI (z:Str):It:=⟨λi _=>i<z.cps.size,λi H x H'=>H'=H/\∃c,z.cps[i]?=some c/\x = .str ⟨#[c]⟩,λi _=>i=z.cps.size⟩
theorem KD {P:Program}{w:World}{K:PySem.W.Frag}{C:Expr}(it:Addr)(z:Str)(t:Tok):pF P w K C (VI z) [it] it (λi h=>h.IsStrIter it "str_ascii_iterator" z t i) where
 mem:=by simp
 obj:=λi h st b hb=>by
  obtain rfl:b=it:=by simpa using hb
  obtain⟨o,e,c,d⟩:=st;exact⟨o,e,λv q=>by rw[d]at q;cases q⟩
 keep:=λi h h' st k=>by obtain⟨o,e,r⟩:=st;exact⟨o,k it (by simp) o e,r⟩
 item:=by intro X x m A hc i f s σ H E I l st j;subst x m A;obtain⟨f0,f1,f2,f3,f4,B⟩:=l it (by simp);have W:=Walks.strAscii (prog:=X.prog) (w:=X.w) (I.ok.hd hc) it z t;refine W.item i s _ _ j st λv h' tk G g F=>?_;obtain⟨c,u,p,rfl⟩:=G;have N:aN X f σ H {s with heap:=h',toks:=tk}:=I.turned (λb o hb e=>F b o (by simpa using hb) e) f0 f1 f3 f4 B;obtain⟨o,e,L,d⟩:=id g;exact⟨_,rfl,CO (s:={s with heap:=h',toks:=tk}) e L d (by decide) ⟨.str ⟨#[c]⟩,H,N,⟨u,rfl⟩,⟨rfl,c,p,rfl⟩,g,λb hb=>(l b hb).1⟩⟩
 done:=by intro X x m A hc i f s σ H E I l st j;subst x m A;obtain⟨f0,f1,f2,f3,f4,B⟩:=l it (by simp);have j:i=z.cps.size:=j;subst j;exact wpAny_pyNext_ascii_end (I.ok.hd hc) st (by simp) λh' J=>⟨rfl,I.turned (t':=s.toks) (λb o hb e=>J b o hb e) f0 f1 f3 f4 B⟩
 self:=λ_ _ _ _ _ st h=>wpAny_pyIter_striter_ascii st h
def iTxt (c:TE):TI:=λσ H R=>c σ H λx d=>∃z:Str,x = .str z/\z.cps.all (· < 128)=true/\R (VI z) d
theorem K5 (i:PE X e te):PI X tg e (iTxt te):=by
 intro c s σ H R I h;refine thn (i c s σ H _ I h) λv d ⟨x,l,f,r1,g⟩=>?_;obtain⟨z,rfl,j,q⟩:=g;obtain⟨t,rfl⟩:=r1;refine wpAny_pyIter_ascii j ?_;refine⟨d.heap.objs.size,[d.heap.objs.size],_,_,l,rfl,f.kept (t':=d.toks) λb o e=>af _ e,KD _ z t,⟨_,aw _ rfl,rfl,rfl⟩,λb hb=>?_,q⟩;obtain rfl:b=d.heap.objs.size:=by simpa using hb
 exact f.fpOk (ac _) (f.hok.fresh (ac _))
section
variable {X:Cx}{CX:AW}{k:Nat}{sp:Sp}{E:XK}{x m:Str}{C:Addr}{p pos apos:Pos}{o e:Expr}{es:pO}{ta:TE}{t:TA}
theorem zI (O:J1 X.prog X.w X.K X.mg X.base CX k C m sp)(j:dY k X.A)(h:jY CX X E)(l:PE X o ta)(p:PA X (e::es) t)
  (d:starEach (e::es) X.env=(false,eval e X.env)::starEach es X.env:=by rfl) (g:(backTo pos (starEach es X.env)).any (·.1)=false:=by rfl)
  (i:eval (.Call (.Attribute o m apos) (e::es) [] pos) X.env=(do
   let ov ←eval o X.env
   standAt apos.atName
   let(f,first) ←holding [ov] (getMethod ov m pl)
   callWith pos f first (backTo pos (starEach (e::es) X.env)) (backToKw pos (keywordEach [] X.env))):=by rfl):PE X (.Call (.Attribute o m apos) (e::es) [] pos) (tMeth C m sp [] E ta t):=by
 obtain⟨f,q,ps,F,M,hb,c⟩:=O;exact OM l c M F j hb .nil h p d g i
def T4 (P:Program)(w:World)(K:PySem.W.Frag)(mg:jB)(base:Heap)(CX:AW)(k:Nat)(x:Str)(C:Addr)(sp:Sp):Prop :=
 ∃f c ps,cA P w K mg base CX k f c ps sp/\mg x=some (.ref C)/\Mk K C f/\eI K c ps []
theorem UJ (O:T4 X.prog X.w X.K X.mg X.base CX k x C sp)(h:dY (k+1) X.A)(g:jY CX X E)(j:Gl X x)(m:PA X (e::es) t)(d:(x == ("__debug__" : Str))=false:=by decide)
  (l:starEach (e::es) X.env=(false,eval e X.env)::starEach es X.env:=by rfl) (c:(backTo pos (starEach es X.env)).any (·.1)=false:=by rfl):PE X (.Call (.Name x p) (e::es) [] pos) (tMake C sp [] E t):=by
 obtain⟨f,o,ps,F,i,M,hb⟩:=O;exact ON M F h j i hb .nil g m d l c
end
section
variable {g:TG}{tt:TT}{te:TE}{Q:VK}{σ:St}{H:Hp}
theorem yB {z:Str}(Pv:Nat->List V->St->Hp->Prop)(f:Pv 0 [] σ H)(e:∀i c d σ H,z.cps[i]?=some c->Pv i d σ H->CStep g tt te (.str ⟨#[c]⟩) d σ H (Pv (i+1)))
  (hd:∀d σ H,Pv z.cps.size d σ H->∀p,H p=none->Q (.ref p) (upd H p (.lst d))):nH (VI z) g tt te Q σ H :=
 pD (n:=z.cps.size) Pv f (λi d σ H hi p=>⟨hi,λx H' y=>by obtain⟨rfl,c,hc,rfl⟩:=y;exact e i c d σ _ hc p⟩) λd σ H p=>⟨rfl,hd d σ H p⟩
end
noncomputable def inTx (z:Str)(c:Nat):Bool:=!(Builtin.Str.occurrences z ⟨#[c]⟩ 0 z.length 1).isEmpty
end L2
namespace L2
open PySem PySem.Spec PyProof.Rows PySem.W
structure VZ (n:Nat)(lt:Nat->Nat->Bool):Prop where
 irr:∀i,lt i i=false
 asym:∀i j,lt i j=true->lt j i=false
 tr:∀i j k,lt j i=false->lt k j=false->lt k i=false
section
variable {n:Nat}{lt:Nat->Nat->Bool}
def le (lt:Nat->Nat->Bool)(i j:Nat):Prop:=lt j i=false
noncomputable abbrev pa (p:Array Nat)(i:Nat):Nat:=p.getD i 0
def Gd (n:Nat)(p:Array Nat):Prop:=p.Perm (List.range n).toArray
variable (O:VZ n lt)
include O
end
end L2
namespace L2
open PySem PySem.Spec PyProof.Rows PySem.SeqAt
open PySem.AutoSeq1 (wpAny_loadPart')
open PySem.MeetsSeq PySem.MeetsSeq2 PySem.MeetsSeq3
def QX (A:Around)(s:Shared)(y x:Value)(b:Bool):Prop:=∀(prog:Program) (w:World) (E:cJ) (Q:cJ),Q (.bool b) s->wpAny (model prog w) A (richCompare .Lt y x) Q E s
inductive wM (A:Around)(s:Shared):cS->cS->Bool->Prop
 | nn:wM A s [] [] false
 | nc {v:Value} {vs:cS}:wM A s [] (v::vs) true
 | cn {u:Value} {us:cS}:wM A s (u::us) [] false
 | eq {u v:Value} {us vs:cS} {b:Bool}:EqAt A s u v true->wM A s us vs b->wM A s (u::us) (v::vs) b
 | ne {u v:Value} {us vs:cS} {b:Bool}:EqAt A s u v false->QX A s u v b->wM A s (u::us) (v::vs) b
def T6 (us:n5)(i:Nat)(xs:cS):Prop:=i<=us.size/\us.toList.drop i=xs
theorem T6.end_ (h:T6 us i []):us.size=i/\us[i]?=none:=by have e:=congrArg List.length h.2;rw[bx,br,List.length_nil]at e;have:=h.1;exact⟨by lia,Array.getElem?_eq_none (by lia)⟩
theorem T6.next (h:T6 us i (x::xs)):i<us.size/\us[i]?=some x/\T6 us (i+1) xs:=by
 have e:=congrArg List.length h.2;rw[bx,br,au]at e;have lt:i<us.toList.length:=by rw[br];lia
 have c:=h.2;rw[List.drop_eq_getElem_cons lt]at c;injection c with f d;rw[br]at lt;refine⟨lt,?_,lt,d⟩;rw[Array.getElem?_eq_getElem lt,←f];rfl
abbrev vV (l b:Addr)(ol ob:Obj)(xs ys:cS):PySem.Spec:=λA R s=>s.heap.get? l=some ol/\s.heap.get? b=some ob/\∃r,wM A.in1 s xs ys r/\R (.ok (.ret (.bool r))) s
theorem tP {R:Result->Shared->Prop}(m:Meets (Builtin.«list.__eq__.loop» (ltAsk l b i)) (vV l b ol ob xs ys))(h:vV l b ol ob xs ys A R s) :
  (Code.builtin "list.__eq__.loop" (ltAsk l b i)).quiet=true/\codeAny (model prog w) A (.builtin "list.__eq__.loop" (ltAsk l b i)) R s:=by
 refine⟨plainId_quiet plain_eq_loop (ltAsk l b i),codeAny_builtin entry_eq_loop ?_⟩;have u:=A.under_plainId plain_eq_loop (ltAsk l b i);rw[u];exact m prog w A R s h
theorem wT (l b:Addr)(us vs:n5)(n k:Nat)(v u:Option Addr)(q p:Array (Option Value)):∀(xs ys:cS) (i:Nat),T6 us i xs->T6 vs i ys ->
  Meets (Builtin.«list.__eq__.loop» (ltAsk l b i)) (vV l b {cls:=.type "list",dict:=v,data:=.seq us n,slots:=q} {cls:=.type "list",dict:=u,data:=.seq vs k,slots:=p} xs ys)
 | [],ys,i,f,g=>by
  rintro prog w A R ⟨s,t,d,tk,os⟩ ⟨c,e,r,hc,h⟩;obtain⟨z,no⟩:=f.end_;have j:r=decide (us.size<vs.size):=by
   cases hc with
   | nn=>exact(bo (by rw[z,(g.end_).1];exact cb _)).symm
   | nc=>exact(bi (by rw[z];exact(g.next).1)).symm
  rw[j]at h
  wp_walk using bh c,bh e
  rw[show((i:Nat):Int).toNat=i from rfl,no];cases vs[i]? <;> wp_walk using bh c,bh e <;> exact h
 | x::xs,[],i,f,g=>by
  rintro prog w A R ⟨s,t,d,tk,os⟩ ⟨c,e,r,hc,h⟩;obtain⟨z,no⟩:=g.end_;obtain⟨lt,is,_⟩:=f.next
  cases hc;have j:false=decide (us.size<vs.size):=(bo (by lia)).symm;rw[j]at h
  wp_walk using bh c,bh e
  rw[show((i:Nat):Int).toNat=i from rfl,no,is]
  wp_walk using bh c,bh e
  exact h
 | x::xs,y::ys,i,f,g=>by
  have go:=wT l b us vs n k v u q p xs ys (i+1) (f.next).2.2 (g.next).2.2;rintro prog w A R ⟨s,t,d,tk,os⟩ ⟨c,e,r,hc,h⟩;obtain⟨_,o,_⟩:=f.next
  obtain⟨_,isV,_⟩:=g.next
  wp_walk using bh c,bh e
  rw[show((i:Nat):Int).toNat=i from rfl,o,isV];cases hc with
  | eq asked rest =>
   refine aa (asked prog w _ _ ?_)
   wp_walk
   exact tP go ⟨c,e,r,rest,h⟩
  | ne asked m =>
   refine aa (asked prog w _ _ ?_);have m:=m prog w
   wp_walk using bh c,bh e
   rw[o,isV]
   wp_walk using m
   exact h
theorem zT (l b:Addr)(us vs:n5)(n k:Nat)(j i:Option Addr)(g f:Array (Option Value)) :
  Meets (Builtin.«list.__lt__» ⟨[.ref l,.ref b],[]⟩) (vV l b {cls:=.type "list",dict:=j,data:=.seq us n,slots:=g} {cls:=.type "list",dict:=i,data:=.seq vs k,slots:=f} us.toList vs.toList):=by
 have go:=wT l b us vs n k j i g f us.toList vs.toList 0 ⟨ax _,rfl⟩ ⟨ax _,rfl⟩;rintro prog w A R ⟨m,o,d,tk,os⟩ ⟨c,e,h⟩;have kind:=AutoSeq1.sub_list_list
 wp_walk using bh c,bh e
 exact tP go ⟨c,e,h⟩
theorem wE (l b:Addr)(us vs:n5)(n k:Nat)(E C:Option Addr)(u t:Array (Option Value)) :
  Meets (Builtin.«tuple.__lt__» ⟨[.ref l,.ref b],[]⟩) (vV l b {cls:=.type "tuple",dict:=E,data:=.seq us n,slots:=u} {cls:=.type "tuple",dict:=C,data:=.seq vs k,slots:=t} us.toList vs.toList):=by
 refine .of_wp λprog w A R v h=>?_;obtain⟨s,g,d,tk,os⟩:=v;obtain⟨B,hb,r,hc,h⟩:=h;have f2:=AutoSeq1.sub_tuple_tuple
 wp_walk using bh B,bh hb,wpAny_forIn_list _ (λrest b o=>b.1=none/\o=⟨s,g,d,tk,os⟩/\∃(xs ys:cS),rest=xs.zip ys/\wM A.in1 ⟨s,g,d,tk,os⟩ xs ys r/\xs.length+vs.size=ys.length+us.size) _
 case turn =>
  rintro⟨y,x⟩ rest b o ⟨m,rfl,xs,ys,hz,j,c⟩;cases j with
  | nn=>cases hz
  | nc=>cases hz
  | cn=>cases hz
  | eq asked more =>
   rw[List.zip_cons_cons]at hz;injection hz with i f;injection i with p q;subst p q;simp only[au]at c;refine aa (asked prog w _ _ ?_)
   wp_walk
   exact⟨rfl,rfl,_,_,f,more,by lia⟩
  | ne asked e =>
   rw[List.zip_cons_cons]at hz;injection hz with i f;injection i with p q;subst p q;refine aa (asked prog w _ _ ?_);have e:=e prog w
   wp_walk using e
   refine⟨_,rfl,?_⟩
   simpa using h
 case fin =>
  rintro⟨b1,b2⟩ o ⟨m,rfl,xs,ys,hz,j,c⟩;simp only at m;subst m;have z:r=decide (us.size<vs.size):=by
   cases j with
   | nn =>
    simp only[List.length_nil]at c;exact(bo (by lia)).symm
   | nc =>
    simp only[List.length_nil,au]at c;exact(bi (by lia)).symm
   | cn =>
    simp only[List.length_nil,au]at c;exact(bo (by lia)).symm
   | eq _ _=>rw[List.zip_cons_cons]at hz;cases hz
   | ne _ _=>rw[List.zip_cons_cons]at hz;cases hz
  rw[z]at h
  wp_walk
  exact⟨_,rfl,by simpa [Builtin.Tuple.tupleCompareSizes] using h⟩
 case h =>
  exact⟨rfl,rfl,us.toList,vs.toList,rfl,hc,by simp[Nat.add_comm]⟩
end L2
namespace L2
open PySem PySem.Spec PyProof.Rows
theorem aN.adopt {X:Cx}{d:cW}{σ:St}{H:Hp}{s:Shared}{a:Addr}{o:HO}(I:aN X d σ H s)(f:fC X d H a)(new:cD X.prog X.w (upd H a o) s.heap a o):aN X d σ (upd H a o) s:=by
 obtain⟨f0,f1,f2,f3,f4,t⟩:=f;have keep:∀b u,H b=some u->upd H a o b=some u:=λb u e=>by rw[aC (aE e f0)];exact e
 refine {ok:=I.ok,os:=I.os,bare:=I.bare,base:=?_,loc:=I.loc,cell:=I.cell,free:=?_,freeC:=?_,pin:=?_,hok:=?_,len:=I.len}
 ·have u:=I.base
  exact {
   keep:=u.keep,slot:=u.slot,there:=u.there,tups:=λb xs e=>keep _ _ (u.tups b xs e),frzs:=λb q r e=>keep _ _ (u.frzs b q r e),
   tbls:=λb ps e=>by obtain⟨more,h⟩:=u.tbls b ps e;exact⟨more,keep _ _ h⟩,
   free:=λb q e n g=>by
    have ne:b≠a:=λz=>by
     rcases f3 with h|h
     ·exact g (z ▸ h)
     ·exact cb _ (bg (bd e) (z ▸ h))
    rw[aC ne]
    exact u.free b q e n g}
 ·rw[aC (Ne.symm f1)];exact I.free
 ·intro x c e;rw[aC (f4 x c e)];exact I.freeC x c e
 ·intro p i;obtain⟨m,l,j⟩:=I.pin p i;exact⟨m,by rw[aC (t p i)];exact l,j⟩
 ·intro b u e;by_cases hb:b=a
  ·subst hb;rw[upd_same]at e;cases e;exact new
  ·rw[aC hb]at e;exact(I.hok b u e).stay (λ_ _ _ q=>q) (λc q=>keep _ _ q) (λc xs q=>keep _ _ q)
theorem fC.at (f:fC X pins H b)(h:H' b=none):fC X pins H' b:=⟨h,f.2⟩
end L2
namespace L2
open PySem PyProof.Rows
noncomputable def gallop':Bool->Keyed->Array Keyed->Nat->Nat->Nat->StateT SortSt Sem (Option Nat):=sortPriv% PySem.Builtin.gallop
noncomputable def L6:Array Keyed->Array Keyed->StateT SortSt Sem (Array Keyed):=sortPriv% PySem.Builtin.mergeLo
noncomputable def L7:Array Keyed->Array Keyed->StateT SortSt Sem (Array Keyed):=sortPriv% PySem.Builtin.mergeHi
section
variable {M:Model}{E:cJ}{A:Around}{s:Shared}
def qY (M:Model)(A:Around)(E:cJ)(s:Shared)(c:Keyed->Nat)(κ:SortKind)(d:Array Keyed):Prop :=
 ∀x y,x∈d.toList->y∈d.toList->∀(st:SortSt) (Q:Option Bool->SortSt->Prop),kindOf st=κ->Q (some (decide (c x<c y))) st->wpS M A E s (lt' x y) Q st
variable {kf:Keyed->Nat}{κ:SortKind}{a0:Array Keyed}
theorem j8 {α:Type}{n:String}{k:PUnit->StateT SortSt Sem α}{Q:α->SortSt->Prop}{st:SortSt}(h:wpS M A E s (k ⟨⟩) Q st):wpS M A E s (liftM (rule n) >>= k) Q st:=wpS_bind (wpS_lift (wpAny_rule ⟨rfl,h⟩))
theorem bB {σ α:Type}{c:Prop}[Decidable c]{x y:StateT σ Sem α}{Q:α->σ->Prop}{st:σ}(e:c->wpS M A E s x Q st)(d:¬c->wpS M A E s y Q st):wpS M A E s (if c then x else y) Q st:=by
 by_cases z:c
 ·rw[ai z];exact e z
 ·rw[ab z];exact d z
theorem k9 {p:Prop}[Decidable p](h:¬decide p=true):¬p:=λz=>h (bi z)
theorem dC {a b:Nat}(h:¬(a == b)=true):a≠b:=λz=>h (by rw[z,beq_self_eq_true])
theorem J5 {σ α:Type}{c:Prop}[Decidable c]{x T:StateT σ Sem α}{Q:α->σ->Prop}{st:σ}(I:σ->Prop)(t:∀st,I st->wpS M A E s T Q st)(e:c->(∀st,I st->wpS M A E s T Q st)->wpS M A E s x Q st)(d:¬c->I st):wpS M A E s (if c then x else T) Q st :=
 bB (λz=>e z t) λz=>t _ (d z)
theorem yS {σ α β:Type}{d:β}{c:β->Prop}[∀b,Decidable (c b)]{x y:β->StateT σ Sem α}{Q:α->σ->Prop}{st:σ}(I:β->σ->Prop)(t:∀b st,I b st->wpS M A E s (y b) Q st)(g:c d->(∀b st,I b st->wpS M A E s (y b) Q st)->wpS M A E s (x d) Q st)(f:¬c d->I d st):∀b,d=b->wpS M A E s (if c b then x b else y b) Q st :=
 λ_ e=>e ▸ bB (λz=>g z t) λz=>t _ _ (f z)
theorem sK {σ α β γ:Type}{h:β}{d:γ}{c:β->γ->Prop}[∀b g,Decidable (c b g)]{x y:β->γ->StateT σ Sem α}{Q:α->σ->Prop}{st:σ}(I:β->γ->σ->Prop)(t:∀b g st,I b g st->wpS M A E s (y b g) Q st)(j:c h d->(∀b g st,I b g st->wpS M A E s (y b g) Q st)->wpS M A E s (x h d) Q st)(i:¬c h d->I h d st) :
  ∀b,h=b->∀g,d=g->wpS M A E s (if c b g then x b g else y b g) Q st :=
 λ_ e _ f=>e ▸ f ▸ bB (λz=>j z t) λz=>t _ _ _ (i z)
theorem bR {c:Array Keyed}{i:Nat}{x:Keyed}{st:SortSt}{Q:Keyed->SortSt->Prop}(e:c[i]?=some x)(h:Q x st):wpS M A E s (elem' c i) Q st:=by rw[elem'_eq,e];exact wpS_pure h
noncomputable def beyond' (left:Bool)(key:Keyed)(d:Array Keyed)(base i:Nat):StateT SortSt Sem (Option Bool) :=
 elem' d (base+i) >>= λx=>if left=true then lt' x key else lt' key x >>= λb=>pure (b.map λc=>!c)
structure U9 (kf:Keyed->Nat)(a0:Array Keyed)(left:Bool)(key:Keyed)(arr:Array Keyed)(base n:Nat)(f:Nat->Bool):Prop where
 kin:key∈a0.toList
 at_:∀i,i<n->∃x,arr[base+i]?=some x/\x∈a0.toList/\f i=if left=true then decide (kf x<kf key)else !decide (kf key<kf x)
 mono:∀i j,i<=j->j<n->f j=true->f i=true
theorem kM {left:Bool}{key:Keyed}{d:Array Keyed}{base n i:Nat}{f:Nat->Bool}{st:SortSt}{Q:Option Bool->SortSt->Prop}(c:qY M A E s kf κ a0)(j:kindOf st=κ)(F:U9 kf a0 left key d base n f)(hi:i<n)(h:Q (some (f i)) st):wpS M A E s (beyond' left key d base i) Q st:=by
 obtain⟨x,e,g,l⟩:=F.at_ i hi;refine wpS_bind (bR e ?_);cases left with
 | true=>exact c _ _ g F.kin st Q j (by rw[l]at h;exact h)
 | false=>exact wpS_bind (c _ _ F.kin g st _ j (wpS_pure (by rw[l]at h;exact h)))
theorem tK {left:Bool}{key:Keyed}{v:Array Keyed}{base n d:Nat}{f:Nat->Bool}{st:SortSt}{Q:Option Nat->SortSt->Prop}(t:qY M A E s kf κ a0)(H:kindOf st=κ)(F:U9 kf a0 left key v base n f)(X:d<n)
  (h:∀r,r<=n->(∀i,i<r->f i=true)->(∀i,r<=i->i<n->f i=false)->Q (some r) st):wpS M A E s (gallop' left key v base n d) Q st:=by
 have no:∀i j,i<=j->j<n->f i=false->f j=false:=λi j U T e=>by
  cases z:f j with
  | false=>rfl
  | true=>rw[F.mono i j U T z]at e;cases e
 refine wpS_bind (kM t H F X ?_);dsimp only;have u:∀lo hi,lo<=hi->hi<=n->(∀i,i<lo->f i=true)->(∀i,hi<=i->i<n->f i=false)->∀(P:(Option (Option Nat)×Nat×Nat)->SortSt->Prop),(∀r,r<=n->(∀i,i<r->f i=true)->(∀i,r<=i->i<n->f i=false)->P (none,r,r) st) ->
   wpS M A E s (forIn [0:n] ((none,lo,hi):Option (Option Nat)×Nat×Nat) λ_ c=>if c.2.1 ≥ c.2.2 then pure (.done (none,c.2.1,c.2.2))else beyond' left key v base (c.2.1+(c.2.2 - c.2.1) / 2) >>= λz =>
    match z with
    | some more=>if more=true then pure (.yield (none,c.2.1+(c.2.2 - c.2.1) / 2+1,c.2.2))else pure (.yield (none,c.2.1,c.2.1+(c.2.2 - c.2.1) / 2))
    | _=>pure (.done (some none,c.2.1,c.2.2))) P st:=by
  intro lo hi N w C B P S;refine wpS_forRange (I:=λx c m=>m=st/\∃lo hi,c=(none,lo,hi)/\lo<=hi/\hi<=n/\hi - lo<=n - x/\(∀i,i<lo->f i=true)/\(∀i,hi<=i->i<n->f i=false)) ?_ ?_ ⟨rfl,lo,hi,rfl,N,w,by omega,C,B⟩
  ·rintro x c m _ R ⟨rfl,lo,hi,rfl,N,w,W,C,B⟩;dsimp only;by_cases g:lo ≥ hi
   ·rw[ai g];have e:lo=hi:=by omega
    subst e;exact wpS_pure (S lo w C B)
   ·rw[ab g];refine wpS_bind (kM t H F (by omega) ?_);dsimp only;cases z:f (lo+(hi - lo) / 2)with
    | true =>
     rw[ai rfl];exact wpS_pure ⟨rfl,_,_,rfl,by omega,w,by omega,λi G=>F.mono i _ (by omega) (by omega) z,B⟩
    | false =>
     rw[ab (by decide)];exact wpS_pure ⟨rfl,_,_,rfl,by omega,by omega,by omega,C,λi G p=>no _ i G p z⟩
  ·rintro c m ⟨rfl,lo,hi,rfl,N,w,W,C,B⟩;have e:lo=hi:=by omega
   subst e;exact S lo w C B
 cases z:f d with
 | true =>
  rw[ai rfl]
  refine wpS_bind (wpS_mono (wpS_forRange (I:=λx c m=>m=st/\∃l o,c=(none,l,o)/\l<o/\x+1<=o/\d+l<n/\f (d+l)=true)
   (Q:=λc m=>m=st/\∃l o,c=(none,l,o)/\l<o/\d+l<n/\f (d+l)=true/\(n - d<=o∨d+o<n/\f (d+o)=false)) ?_ ?_ ⟨rfl,0,1,rfl,by omega,by omega,by omega,z⟩) ?_)
  ·rintro x c m _ R ⟨rfl,l,o,rfl,lo,J,ln,fl⟩;dsimp only;by_cases g:o ≥ n - d
   ·rw[ai g];exact wpS_pure ⟨rfl,l,o,rfl,lo,ln,fl,.inl g⟩
   ·rw[ab g];refine wpS_bind (kM t H F (by omega) ?_);dsimp only;cases zo:f (d+o)with
    | true =>
     rw[ab (by decide)];exact wpS_pure ⟨rfl,o,2 * o+1,rfl,by omega,by omega,by omega,zo⟩
    | false =>
     rw[ai (by decide)];exact wpS_pure ⟨rfl,l,o,rfl,lo,ln,fl,.inr ⟨by omega,zo⟩⟩
  ·rintro c m ⟨rfl,l,o,rfl,lo,J,ln,fl⟩;exact⟨rfl,l,o,rfl,lo,ln,fl,.inl (by omega)⟩
  ·rintro c m ⟨rfl,l,o,rfl,lo,ln,fl,q⟩;dsimp only;refine wpS_bind (u _ _ ?_ ?_ ?_ ?_ _ λr K r1 L=>wpS_pure (h r K r1 L))
   ·omega
   ·omega
   ·exact λi hi=>F.mono i (d+l) (by omega) ln fl
   ·rintro i hi p;rcases q with g|⟨g,O⟩
    ·omega
    ·exact no (d+o) i (by omega) p O
 | false =>
  rw[ab (by decide)]
  refine wpS_bind (wpS_mono (wpS_forRange (I:=λx c m=>m=st/\∃l o,c=(none,l,o)/\l<o/\x+1<=o/\l<=d/\f (d - l)=false)
   (Q:=λc m=>m=st/\∃l o,c=(none,l,o)/\l<o/\l<=d/\f (d - l)=false/\(d+1<=o∨o<=d/\f (d - o)=true)) ?_ ?_ ⟨rfl,0,1,rfl,by omega,by omega,by omega,z⟩) ?_)
  ·rintro x c m _ R ⟨rfl,l,o,rfl,lo,J,ln,fl⟩;dsimp only;by_cases g:o ≥ d+1
   ·rw[ai g];exact wpS_pure ⟨rfl,l,o,rfl,lo,ln,fl,.inl g⟩
   ·rw[ab g];refine wpS_bind (kM t H F (by omega) ?_);dsimp only;cases zo:f (d - o)with
    | false =>
     rw[ab (by decide)];exact wpS_pure ⟨rfl,o,2 * o+1,rfl,by omega,by omega,by omega,zo⟩
    | true =>
     rw[ai rfl];exact wpS_pure ⟨rfl,l,o,rfl,lo,ln,fl,.inr ⟨by omega,zo⟩⟩
  ·rintro c m ⟨rfl,l,o,rfl,lo,J,ln,fl⟩;exact⟨rfl,l,o,rfl,lo,ln,fl,.inl (by omega)⟩
  ·rintro c m ⟨rfl,l,o,rfl,lo,ln,fl,q⟩;dsimp only;refine wpS_bind (u _ _ ?_ ?_ ?_ ?_ _ λr K r1 L=>wpS_pure (h r K r1 L))
   ·omega
   ·omega
   ·rintro i hi;rcases q with g|⟨g,O⟩
    ·omega
    ·exact F.mono i (d - o) (by omega) (by omega) O
   ·exact λi hi p=>no (d - l) i hi p fl
end
def tJ (c:Keyed->Nat)(x y:Keyed):Prop:=c x<=c y
structure AV (kf:Keyed->Nat)(all out ra rb:List Keyed):Prop where
 pa:(out++ra).Pairwise (tJ kf)
 pb:(out++rb).Pairwise (tJ kf)
 pm:(out++(ra++rb)).Perm all
def iH (c:Keyed->Nat)(all l:List Keyed):Prop:=l.Perm all/\l.Pairwise (tJ c)
section
variable {kf:Keyed->Nat}{all out ra rb p:List Keyed}
theorem AV.a (h:AV kf all out (p++ra) rb)(g:∀x∈p,∀y∈rb,kf x<=kf y):AV kf all (out++p) ra rb:=by
 obtain⟨d,j,i⟩:=h;rw[←cp]at d;refine⟨d,?_,by rw[cp,←cp p];exact i⟩;have c:=List.pairwise_append.mp j;refine List.pairwise_append.mpr ⟨(List.pairwise_append.mp d).1,c.2.1,λx f y e=>?_⟩;rcases cw.mp f with z|z
 ·exact c.2.2 x z y e
 ·exact g x z y e
theorem AV.swap (h:AV kf all out ra rb):AV kf all out rb ra:=⟨h.pb,h.pa,((List.perm_append_comm).append_left out).trans h.pm⟩
theorem AV.b (h:AV kf all out ra (p++rb))(c:∀x∈p,∀y∈ra,kf x<=kf y):AV kf all (out++p) ra rb:=(h.swap.a c).swap
theorem AV.finA (h:AV kf all out ra []):iH kf all (out++ra):=⟨by have:=h.pm;rwa [bp]at this,h.pa⟩
theorem AV.finB (h:AV kf all out [] rb):iH kf all (out++rb):=h.swap.finA
theorem AV.finL (h:AV kf all out [x] rb)(d:∀y∈rb,kf y<=kf x):iH kf all (out++rb++[x]):=by
 have g:AV kf all out [x] (rb++[]):=by rw[bp];exact h
 exact(g.b λy c z hz=>by rw[cs.mp hz];exact d y c).finA
theorem mR {a:Array Keyed}{i:Nat}{x:Keyed}(h:a[i]?=some x):a.toList.drop i=x::a.toList.drop (i+1):=by
 have hi:i<a.toList.length:=by rw[br];exact(Array.getElem?_eq_some_iff.mp h).1
 rw[List.drop_eq_getElem_cons hi];congr 1;have e:a.toList[i]?=some x:=by rw[Array.getElem?_toList];exact h
 rw[az hi]at e;exact Option.some.inj e
theorem qP {a:Array Keyed}{i:Nat}:(a.extract i).toList=a.toList.drop i:=by rw[Array.toList_extract,List.extract];exact List.take_of_length_le (by rw[bx,br];lia)
theorem AH {a:Array Keyed}{i k:Nat}:(a.extract i (i+k)).toList=(a.toList.drop i).take k:=by rw[Array.toList_extract,List.extract,Nat.add_sub_cancel_left]
theorem sR {a:Array Keyed}{x:Keyed}:(a.push x).toList=a.toList++[x]:=Array.toList_push
theorem eN {a:Array Keyed}(h:a.toList.Pairwise (tJ kf)){i j:Nat}{x y:Keyed}(d:a[i]?=some x)(c:a[j]?=some y)(e:i<=j):kf x<=kf y:=by
 rcases Nat.eq_or_lt_of_le e with rfl|lt
 ·rw[d]at c;cases c;exact ac _
 ·obtain⟨hi,l⟩:=Array.getElem?_eq_some_iff.mp d;obtain⟨f,g⟩:=Array.getElem?_eq_some_iff.mp c;have:=List.pairwise_iff_getElem.mp h i j (by simpa using hi) (by simpa using f) lt;rw[Array.getElem_toList,Array.getElem_toList,l,g]at this;exact this
theorem jN {a:Array Keyed}{i:Nat}{y:Keyed}(h:y∈a.toList.drop i):∃j,i<=j/\a[j]?=some y:=by obtain⟨k,c⟩:=List.getElem?_of_mem h;rw[List.getElem?_drop,Array.getElem?_toList]at c;exact⟨i+k,Nat.le_add_right _ _,c⟩
theorem jM {a:Array Keyed}{i k:Nat}{y:Keyed}(h:y∈(a.toList.drop i).take k):∃j,j<k/\a[i+j]?=some y:=by
 obtain⟨n,c⟩:=List.getElem?_of_mem h;rw[List.getElem?_take]at c;by_cases z:n<k
 ·rw[ai z,List.getElem?_drop,Array.getElem?_toList]at c;exact⟨n,z,c⟩
 ·rw[ab z]at c;cases c
end
structure QQ (kf:Keyed->Nat)(a0 a b:Array Keyed):Prop where
 sa:a.toList.Pairwise (tJ kf)
 sb:b.toList.Pairwise (tJ kf)
 ma:∀x∈a.toList,x∈a0.toList
 mb:∀x∈b.toList,x∈a0.toList
 na:0<a.size
 nb:0<b.size
 fst:∀x y,b[0]?=some y->x∈a.toList->kf y<kf x
 lst:∀x y,a[a.size - 1]?=some x->y∈b.toList->kf y<kf x
theorem fW {a:Array Keyed}{i:Nat}(h:i<a.size):∃x,a[i]?=some x/\x∈a.toList:=⟨a[i],Array.getElem?_eq_getElem h,by simp⟩
structure Kp (st st':SortSt):Prop where
 kd:kindOf st'=kindOf st
 ar:arrOf st'=arrOf st
 pe:pendingOf st'=pendingOf st
 fa:failedOf st'=failedOf st
theorem Kp.refl (st:SortSt):Kp st st:=⟨rfl,rfl,rfl,rfl⟩
def J0 (c:Keyed->Nat)(a:Array Keyed)(lo n:Nat):Prop:=∀i j x y,i<=j->j<n->a[lo+i]?=some x->a[lo+j]?=some y->c x<=c y
theorem y6 {c:Keyed->Nat}{a:Array Keyed}{lo n:Nat}(h:a.toList.Pairwise (tJ c)):J0 c a lo n:=λi j x y e _ ex d=>eN h ex d (by lia)
theorem JK {c:Keyed->Nat}(sa:J0 c a ia n)(ma:∀x∈a.toList,x∈a0.toList)(l:key∈a0.toList)(h:ia+n<=a.size) :
  U9 c a0 false key a ia n (λi=>match a[ia+i]? with|some x=>!decide (c key<c x)|none=>false):=by
 refine⟨l,λi hi=>?_,λi j g f=>?_⟩
 ·obtain⟨x,e,m⟩:=fW (a:=a) (i:=ia+i) (by lia);exact⟨x,e,ma _ m,by rw[e];rfl⟩
 ·obtain⟨x,e,m⟩:=fW (a:=a) (i:=ia+i) (by lia);obtain⟨y,d,o⟩:=fW (a:=a) (i:=ia+j) (by lia);have:=sa i j x y g f e d;rw[e,d];dsimp only;intro z;have z':¬c key<c y:=λw=>by rw[bi w]at z;cases z
  rw[bo (show ¬c key<c x by lia)];rfl
theorem MX {c:Keyed->Nat}(sa:J0 c a ia n)(ma:∀x∈a.toList,x∈a0.toList)(l:key∈a0.toList)(h:ia+n<=a.size) :
  U9 c a0 true key a ia n (λi=>match a[ia+i]? with|some x=>decide (c x<c key)|none=>false):=by
 refine⟨l,λi hi=>?_,λi j g f=>?_⟩
 ·obtain⟨x,e,m⟩:=fW (a:=a) (i:=ia+i) (by lia);exact⟨x,e,ma _ m,by rw[e];rfl⟩
 ·obtain⟨x,e,m⟩:=fW (a:=a) (i:=ia+i) (by lia);obtain⟨y,d,o⟩:=fW (a:=a) (i:=ia+j) (by lia);have:=sa i j x y g f e d;rw[e,d];dsimp only;intro z;have z':c y<c key:=bu z;exact bi (show c x<c key by lia)
section
variable {M:Model}{A:Around}{E:cJ}{s:Shared}{kf:Keyed->Nat}{κ:SortKind}{a0:Array Keyed}
theorem lO {key:Keyed}{a:Array Keyed}{d n c:Nat}{st:SortSt}{Q:Option Nat->SortSt->Prop}(f:qY M A E s kf κ a0)(o:kindOf st=κ)(sa:J0 kf a d n)(ma:∀x∈a.toList,x∈a0.toList)(m:key∈a0.toList)(l:d+n<=a.size)(p:c<n)
  (h:∀r,r<=n->(∀i x,i<r->a[d+i]?=some x->kf x<=kf key)->(∀i x,r<=i->i<n->a[d+i]?=some x->kf key<kf x)->Q (some r) st):wpS M A E s (gallop' false key a d n c) Q st:=by
 refine tK f o (JK sa ma m l) p λr g t q=>h r g (λi x hi e=>?_) (λi x j hi e=>?_)
 ·have:=t i hi;rw[e]at this;dsimp only at this;have:¬kf key<kf x:=λw=>by rw[bi w]at this;cases this
  lia
 ·have:=q i j hi;rw[e]at this;dsimp only at this;have:¬ ¬kf key<kf x:=λw=>by rw[bo w]at this;cases this
  lia
theorem lQ {key:Keyed}{a:Array Keyed}{d n c:Nat}{st:SortSt}{Q:Option Nat->SortSt->Prop}(f:qY M A E s kf κ a0)(o:kindOf st=κ)(sa:J0 kf a d n)(ma:∀x∈a.toList,x∈a0.toList)(m:key∈a0.toList)(l:d+n<=a.size)(p:c<n)
  (h:∀r,r<=n->(∀i x,i<r->a[d+i]?=some x->kf x<kf key)->(∀i x,r<=i->i<n->a[d+i]?=some x->kf key<=kf x)->Q (some r) st):wpS M A E s (gallop' true key a d n c) Q st:=by
 refine tK f o (MX sa ma m l) p λr g t q=>h r g (λi x hi e=>?_) (λi x j hi e=>?_)
 ·have:=t i hi;rw[e]at this;exact bu this
 ·have:=q i j hi;rw[e]at this;have:=of_decide_eq_false this
  lia
abbrev v8 (kf:Keyed->Nat)(a b out:Array Keyed)(ia ib:Nat):Prop:=AV kf (a.toList++b.toList) out.toList (a.toList.drop ia) (b.toList.drop ib)
structure QV (kf:Keyed->Nat)(a b out:Array Keyed)(ia ib:Nat):Prop where
 hi:ia+1<a.size
 hb:ib<b.size
 g:v8 kf a b out ia ib
theorem sX (e:ib=b.size)(g:v8 kf a b out ia ib):iH kf (a.toList++b.toList) (out++a.extract ia++b.extract ib).toList:=by unfold v8 at g;rw[Array.toList_append,Array.toList_append,qP,qP];have z:b.toList.drop ib=[]:=List.drop_of_length_le (by rw[br];lia);rw[z]at g⊢;rw[bp];exact g.finA
theorem SZ (e:ia=a.size)(g:v8 kf a b out ia ib):iH kf (a.toList++b.toList) (out++a.extract ia++b.extract ib).toList:=by unfold v8 at g;rw[Array.toList_append,Array.toList_append,qP,qP];have z:a.toList.drop ia=[]:=List.drop_of_length_le (by rw[br];lia);rw[z]at g⊢;rw[bp];exact g.finB
theorem sW (T:QQ kf a0 a b)(e:ia+1=a.size)(g:v8 kf a b out ia ib):iH kf (a.toList++b.toList) (out++b.extract ib++a.extract ia).toList:=by
 unfold v8 at g;rw[Array.toList_append,Array.toList_append,qP,qP];obtain⟨x,ex,d⟩:=fW (a:=a) (i:=ia) (by lia);have z:a.toList.drop ia=[x]:=by rw[mR ex,List.drop_of_length_le (by rw[br];lia)]
 rw[z]at g⊢;exact g.finL λy c=>Nat.le_of_lt (T.lst x y (by rw[←e,Nat.add_sub_cancel];exact ex) (List.mem_of_mem_drop c))
theorem B7 (T:QQ kf a0 a b)(ex:a[ia]?=some x)(e:b[ib]?=some y)(l:kf y<=kf x)(g:v8 kf a b out ia ib):v8 kf a b (out.push y) ia (ib+1):=by unfold v8 at g⊢;rw[sR];rw[mR e]at g;refine AV.b (p:=[y]) g λz hz w d=>?_;rw[cs.mp hz];obtain⟨j,c,f⟩:=jN d;exact aq l (eN T.sa ex f c)
theorem B8 (T:QQ kf a0 a b)(ex:a[ia]?=some x)(e:b[ib]?=some y)(l:kf x<=kf y)(g:v8 kf a b out ia ib):v8 kf a b (out.push x) (ia+1) ib:=by unfold v8 at g⊢;rw[sR];rw[mR ex]at g;refine AV.a (p:=[x]) g λz hz w d=>?_;rw[cs.mp hz];obtain⟨j,c,f⟩:=jN d;exact aq l (eN T.sb e f c)
theorem x0 {a:Array Keyed}{i k:Nat}:a.toList.drop i=(a.toList.drop i).take k++a.toList.drop (i+k):=by rw[←List.drop_drop,List.take_append_drop]
theorem IU (T:QQ kf a0 a b)(e:b[ib]?=some y)(l:∀i x,i<k->a[ia+i]?=some x->kf x<=kf y)(g:v8 kf a b out ia ib):v8 kf a b (out++a.extract ia (ia+k)) (ia+k) ib:=by unfold v8 at g⊢;rw[Array.toList_append,AH];rw[x0 (k:=k)]at g;refine g.a λz hz w d=>?_;obtain⟨i,hi,h⟩:=jM hz;obtain⟨j,c,f⟩:=jN d;exact aq (l i z hi h) (eN T.sb e f c)
theorem IT (T:QQ kf a0 a b)(ex:a[ia]?=some x)(l:∀i y,i<k->b[ib+i]?=some y->kf y<=kf x)(g:v8 kf a b out ia ib):v8 kf a b (out++b.extract ib (ib+k)) ia (ib+k):=by unfold v8 at g⊢;rw[Array.toList_append,AH];rw[x0 (a:=b) (k:=k)]at g;refine g.b λz hz w d=>?_;obtain⟨i,hi,f⟩:=jM hz;obtain⟨j,c,e⟩:=jN d;exact aq (l i z hi f) (eN T.sa ex e c)
theorem AX {a b:Array Keyed}{st:SortSt}{Q:Array Keyed->SortSt->Prop}(X:qY M A E s kf κ a0)(hk:kindOf st=κ)(T:QQ kf a0 a b)(h:∀r f,Kp st f->iH kf (a.toList++b.toList) r.toList->Q r f):wpS M A E s (L6 a b) Q st:=by
 obtain⟨b0,U,mb0⟩:=fW T.nb;refine j8 ?_;refine wpS_bind (bR U ?_);dsimp only;have g0:v8 kf a b #[b0] 0 1:=by
  have d:=mR U;rw[List.drop_zero]at d;have c:∀x∈a.toList,kf b0<=kf x:=λx hx=>Nat.le_of_lt (T.fst x b0 U hx);refine⟨List.pairwise_append.mpr ⟨List.pairwise_singleton _ _,by rw[List.drop_zero];exact T.sa,λx hx y hy=>?_⟩,?_,?_⟩
  ·rw[cs.mp hx];exact c y (List.mem_of_mem_drop hy)
  ·have:=T.sb;rw[d]at this;exact this
  ·rw[List.drop_zero,d];exact(List.perm_middle (a:=b0) (l₁:=a.toList) (l₂:=b.toList.drop 1)).symm
 refine bB (λc1=>wpS_pure (h _ _ (Kp.refl _) (sX (eq_of_beq c1) g0))) λc1=>?_;refine bB (λc2=>wpS_pure (h _ _ (Kp.refl _) (sW T (eq_of_beq c2) g0))) λc2=>?_;have c1:=dC c1;have c2:=dC c2;have na:=T.na;have nb:=T.nb;have m0:QV kf a b #[b0] 0 1:=⟨by lia,by lia,g0⟩
 refine wpS_bind (wpS_get ?_)
 refine wpS_bind (wpS_mono (wpS_forRange (I:=λx c f=>Kp st f/\∃out C t mg,c=(none,out,C,t,mg)/\QV kf a b out C t/\x+1<=C+t)
  (Q:=λc f=>Kp st f/\∃r,c.1=some r/\iH kf (a.toList++b.toList) r.toList) ?_ ?_ ⟨Kp.refl _,_,_,_,_,rfl,m0,by lia⟩) ?_)
 ·rintro x c st1 _ xt ⟨k1,out,C,t,mg,rfl,m1,x1⟩;dsimp only
  refine wpS_bind (wpS_mono (wpS_forRange (I:=λy c f=>f=st1/\∃l p o H G,c=(none,l,p,o,H,G)/\QV kf a b l p o/\C+t+y<=p+o)
   (Q:=λc f=>f=st1/\((∃r,c.1=some r/\iH kf (a.toList++b.toList) r.toList)∨∃l p o H G,c=(none,l,p,o,H,G)/\QV kf a b l p o/\C+t+1<=p+o)) ?_ ?_ ⟨rfl,_,_,_,_,_,rfl,m1,by lia⟩) ?_)
  ·rintro y c st2 _ yt ⟨rfl,out,C,t,H,G,rfl,J,x2⟩;dsimp only;obtain⟨eb,N,me⟩:=fW J.hb;have hi:=J.hi;have hb:=J.hb;obtain⟨O,e2,mf⟩:=fW (show C<a.size by lia);refine wpS_bind (bR N (wpS_bind (bR e2 (wpS_bind (X _ _ (T.mb _ me) (T.ma _ mf) _ _ (k1.kd.trans hk) ?_)))));dsimp only;refine bB (λw=>wpS_bind (bR N ?_)) λw=>wpS_bind (bR e2 ?_)
   ·have g:=B7 T e2 N (Nat.le_of_lt (bu w)) J.g;refine bB (λW=>wpS_pure ⟨rfl,.inl ⟨_,rfl,sX (eq_of_beq W) g⟩⟩) λW=>?_;have B:QV kf a b (out.push eb) C (t+1):=⟨hi,by have:=dC W;lia,g⟩
    exact bB (λ_=>wpS_pure ⟨rfl,.inr ⟨_,_,_,_,_,rfl,B,by lia⟩⟩) λ_=>wpS_pure ⟨rfl,_,_,_,_,_,rfl,B,by lia⟩
   ·have g:=B8 T e2 N (Nat.not_lt.mp (k9 w)) J.g;refine bB (λW=>wpS_pure ⟨rfl,.inl ⟨_,rfl,sW T (eq_of_beq W) g⟩⟩) λW=>?_;have B:QV kf a b (out.push O) (C+1) t:=⟨by have:=dC W;lia,hb,g⟩
    exact bB (λ_=>wpS_pure ⟨rfl,.inr ⟨_,_,_,_,_,rfl,B,by lia⟩⟩) λ_=>wpS_pure ⟨rfl,_,_,_,_,_,rfl,B,by lia⟩
  ·rintro c st2 ⟨rfl,out,C,t,H,G,rfl,J,x2⟩;have:=J.hi;have:=J.hb
   lia
  ·rintro c st2 ⟨rfl,⟨r,e,hr⟩|⟨out2,S,R,H,G,rfl,J,x2⟩⟩
   ·obtain⟨c1',c2'⟩:=c;cases e;exact wpS_pure ⟨k1,_,rfl,hr⟩
   ·dsimp only;refine j8 ?_
    refine wpS_bind (wpS_mono (wpS_forRange (I:=λy c f=>Kp st f/\∃l p o F H G,c=(none,l,p,o,F,H,G)/\QV kf a b l p o/\S+R+y<=p+o)
     (Q:=λc f=>Kp st f/\((∃r,c.1=some r/\iH kf (a.toList++b.toList) r.toList)∨∃l p o F H G,c=(none,l,p,o,F,H,G)/\QV kf a b l p o/\S+R<=p+o)) ?_ ?_ ⟨k1,_,_,_,_,_,_,rfl,J,by lia⟩) ?_)
    ·rintro y c Z _ yt ⟨L,out,C,t,F,H,G,rfl,B,x3⟩;dsimp only;obtain⟨eb,N,me⟩:=fW B.hb;have hi3:=B.hi;have hb3:=B.hb;generalize hm:F=P
     revert P
     refine yS (λ_ f=>Kp st f) (λP K k4=>wpS_bind (wpS_modify ?_)) (λ_ k=>k _ _ L) λ_=>L;have k5:Kp st (SortSt.mk' (kindOf K) (arrOf K) (pendingOf K) P (failedOf K)):=⟨k4.kd,k4.ar,k4.pe,k4.fa⟩
     refine wpS_bind (bR N (wpS_bind (lO X (k5.kd.trans hk) (y6 T.sa) T.ma (T.mb _ me) (by lia) (by lia) λk kn f1 f2=>?_)));dsimp only;have gX:=IU T N f1 B.g;generalize hO:out=z;generalize hI:C=q
     revert z q
     refine sK (λz q f=>Kp st f/\v8 kf a b z q t/\q+1<a.size/\(∀x,a[q]?=some x->kf eb<kf x)/\S+R+y<=q+t) ?_ ?_ λk0=>⟨k5,B.g,hi3,λx e=>f2 0 x (by lia) (by lia) e,x3⟩
     rotate_left
     ·refine λk0 j=>bB (λc4=>wpS_pure ⟨k5,.inl ⟨_,rfl,sW T (eq_of_beq c4) gX⟩⟩) λc4=>bB (λc5=>wpS_pure ⟨k5,.inl ⟨_,rfl,SZ (eq_of_beq c5) gX⟩⟩) λc5=>?_;have c4:=dC c4;have c5:=dC c5;exact j _ _ _ ⟨k5,gX,by lia,λx e=>f2 k x (ac _) (by lia) e,by lia⟩
     rintro z q st6 ⟨k6,gX,hX,fX,pX⟩;obtain⟨xa,O,mxa⟩:=fW (a:=a) (i:=q) (by lia);refine wpS_bind (bR N ?_);have g1:=B7 T O N (Nat.le_of_lt (fX xa O)) gX;refine bB (λc6=>wpS_pure ⟨k6,.inl ⟨_,rfl,sX (eq_of_beq c6) g1⟩⟩) λc6=>?_;have c6:=dC c6;refine wpS_bind (bR O (wpS_bind (lQ X (k6.kd.trans hk) (y6 T.sb) T.mb (T.ma _ mxa) (by lia) (by lia) λk2 kn2 q1 q2=>?_)));dsimp only;have Y:=IT T O (λi y hi e=>Nat.le_of_lt (q1 i y hi e)) g1;have pb:t+1<b.size:=by lia
     have pb2:t<=t+1:=Nat.le_succ _;generalize z.push eb=outP at g1 Y⊢;generalize t+1=ibP at g1 Y kn2 q1 q2 pb pb2⊢;generalize hO:outP=v;generalize hI:ibP=u
     revert v u
     refine sK (λv u f=>Kp st f/\v8 kf a b v q u/\u<b.size/\(∀y,b[u]?=some y->kf xa<=kf y)/\t<=u) ?_ ?_ λk20=>⟨k6,g1,pb,λy e=>q2 0 y (by lia) (by lia) e,pb2⟩
     rotate_left
     ·refine λk20 j=>bB (λc7=>wpS_pure ⟨k6,.inl ⟨_,rfl,sX (eq_of_beq c7) Y⟩⟩) λc7=>?_;have c7:=dC c7;exact j _ _ _ ⟨k6,Y,by lia,λy e=>q2 k2 y (ac _) (by lia) e,by lia⟩
     rintro v u st7 ⟨k7,Y,bY,lY,pY⟩;obtain⟨yb,eyb,myb⟩:=fW (a:=b) (i:=u) bY;refine wpS_bind (bR O ?_);have g3:=B8 T O eyb (lY yb eyb) Y;refine bB (λc8=>wpS_pure ⟨k7,.inl ⟨_,rfl,sW T (eq_of_beq c8) g3⟩⟩) λc8=>?_;have m9:QV kf a b (v.push xa) (q+1) u:=⟨by have:=dC c8;lia,bY,g3⟩
     exact bB (λ_=>wpS_pure ⟨k7,.inr ⟨_,_,_,_,_,_,rfl,m9,by lia⟩⟩) λ_=>wpS_pure ⟨k7,_,_,_,_,_,_,rfl,m9,by lia⟩
    ·rintro c Z ⟨L,out,C,t,F,H,G,rfl,B,x3⟩;have:=B.hi;have:=B.hb
     lia
    ·rintro c Z ⟨L,⟨r,e,hr⟩|⟨out3,ia3,ib3,mg3,H,G,rfl,B,x3⟩⟩
     ·obtain⟨c1',c2'⟩:=c;cases e;exact wpS_pure ⟨L,_,rfl,hr⟩
     ·dsimp only;exact wpS_bind (wpS_modify (wpS_pure ⟨⟨L.kd,L.ar,L.pe,L.fa⟩,_,_,_,_,rfl,B,by lia⟩))
 ·rintro c f ⟨k,out,C,t,mg,rfl,m,x1⟩;have:=m.hi;have:=m.hb
  lia
 ·rintro c f ⟨k,r,e,hr⟩;rw[e];exact wpS_pure (h _ _ k hr)
end
structure AU (kf:Keyed->Nat)(all out ra rb:List Keyed):Prop where
 pa:(ra++out).Pairwise (tJ kf)
 pb:(rb++out).Pairwise (tJ kf)
 pm:((ra++rb)++out).Perm all
section
variable {kf:Keyed->Nat}{all out ra rb p:List Keyed}
theorem AU.a (h:AU kf all out (ra++p) rb)(g:∀x∈p,∀y∈rb,kf y<=kf x):AU kf all (p++out) ra rb:=by
 obtain⟨d,j,i⟩:=h;rw[cp]at d;refine⟨d,?_,?_⟩
 ·have c:=List.pairwise_append.mp j;refine List.pairwise_append.mpr ⟨c.1,(List.pairwise_append.mp d).2.1,λy e x f=>?_⟩;rcases cw.mp f with z|z
  ·exact g x z y e
  ·exact c.2.2 y e x z
 ·refine List.Perm.trans ?_ i;rw[←cp,cp ra rb p,cp ra p rb];exact(List.perm_append_comm.append_left ra).append_right out
theorem AU.swap (h:AU kf all out ra rb):AU kf all out rb ra:=⟨h.pb,h.pa,((List.perm_append_comm).append_right out).trans h.pm⟩
theorem AU.b (h:AU kf all out ra (rb++p))(c:∀x∈p,∀y∈ra,kf y<=kf x):AU kf all (p++out) ra rb:=(h.swap.a c).swap
theorem AU.finA (h:AU kf all out ra []):iH kf all (ra++out):=⟨by have:=h.pm;rwa [bp]at this,h.pa⟩
theorem AU.finB (h:AU kf all out [] rb):iH kf all (rb++out):=h.swap.finA
theorem AU.finF (h:AU kf all out ra [y])(c:∀x∈ra,kf y<=kf x):iH kf all ([y]++(ra++out)):=by have g:AU kf all out ([]++ra) [y]:=h;exact(g.a λx d z hz=>by rw[cs.mp hz];exact c x d).finB
theorem take_snoc {a:Array Keyed}{n:Nat}{x:Keyed}(h:a[n]?=some x):a.toList.take (n+1)=a.toList.take n++[x]:=by rw[List.take_add_one,Array.getElem?_toList,h];rfl
theorem qQ {a:Array Keyed}{n:Nat}:(a.extract 0 n).toList=a.toList.take n:=by rw[Array.toList_extract,List.extract,List.drop_zero,Nat.sub_zero]
theorem oV {a:Array Keyed}{n:Nat}{y:Keyed}(h:y∈a.toList.take n):∃j,j<n/\a[j]?=some y:=by obtain⟨j,lt,e⟩:=jM (a:=a) (i:=0) (k:=n) (by rw[List.drop_zero];exact h);rw[Nat.zero_add]at e;exact⟨j,lt,e⟩
theorem wV {a:Array Keyed}{i n:Nat}(h:i<=n):a.toList.take n=a.toList.take i++(a.extract i n).toList:=by
 have e:n=i+(n - i):=by lia
 conv=>lhs;rw[e,List.take_add]
 rw[Array.toList_extract]
theorem GH {a:Array Keyed}{i n:Nat}{y:Keyed}(h:y∈(a.extract i n).toList):∃j,i<=j/\j<n/\a[j]?=some y:=by rw[Array.toList_extract,List.extract]at h;obtain⟨j,lt,e⟩:=jM h;exact⟨i+j,by lia,by lia,e⟩
end
section
variable {M:Model}{A:Around}{E:cJ}{s:Shared}{kf:Keyed->Nat}{κ:SortKind}{a0:Array Keyed}
abbrev vW (kf:Keyed->Nat)(a b out:Array Keyed)(na nb:Nat):Prop:=AU kf (a.toList++b.toList) out.toList.reverse (a.toList.take na) (b.toList.take nb)
structure QW (kf:Keyed->Nat)(a b out:Array Keyed)(na nb:Nat):Prop where
 a1:1<=na
 a2:na<=a.size
 b1:2<=nb
 b2:nb<=b.size
 g:vW kf a b out na nb
theorem tB (e:na=0)(g:vW kf a b out na nb):iH kf (a.toList++b.toList) (a.extract 0 na++b.extract 0 nb++out.reverse).toList:=by subst e;rw[Array.toList_append,Array.toList_append,qQ,qQ,Array.toList_reverse];exact g.finB
theorem TQ (e:nb=0)(g:vW kf a b out na nb):iH kf (a.toList++b.toList) (a.extract 0 na++b.extract 0 nb++out.reverse).toList:=by subst e;rw[Array.toList_append,Array.toList_append,qQ,qQ,Array.toList_reverse,List.take_zero,bp];exact g.finA
theorem pA (T:QQ kf a0 a b)(e:nb=1)(g:vW kf a b out na nb):iH kf (a.toList++b.toList) (b.extract 0 nb++a.extract 0 na++out.reverse).toList:=by
 subst e;obtain⟨y,c,f⟩:=fW T.nb;have z:b.toList.take 1=[y]:=by rw[show 1=0+1 from rfl,take_snoc c,List.take_zero];rfl
 unfold vW at g;rw[z]at g;rw[Array.toList_append,Array.toList_append,qQ,qQ,Array.toList_reverse,z,cp];exact g.finF λx d=>Nat.le_of_lt (T.fst x y c (List.mem_of_mem_take d))
theorem CM (ex:a[na]?=some x)(l:∀j y,j<nb->b[j]?=some y->kf y<=kf x)(g:vW kf a b out (na+1) nb):vW kf a b (out.push x) na nb:=by unfold vW at g⊢;rw[sR,List.reverse_append];rw[take_snoc ex]at g;refine AU.a (p:=[x]) g λz hz w c=>?_;rw[cs.mp hz];obtain⟨j,lt,d⟩:=oV c;exact l j w lt d
theorem CL (d:b[nb]?=some y)(l:∀j x,j<na->a[j]?=some x->kf x<=kf y)(g:vW kf a b out na (nb+1)):vW kf a b (out.push y) na nb:=by unfold vW at g⊢;rw[sR,List.reverse_append];rw[take_snoc d]at g;refine AU.b (p:=[y]) g λz hz w c=>?_;rw[cs.mp hz];obtain⟨j,lt,e⟩:=oV c;exact l j w lt e
theorem JB (hi:i<=na)(l:∀k x,i<=k->k<na->a[k]?=some x->∀j y,j<nb->b[j]?=some y->kf y<=kf x)(g:vW kf a b out na nb):vW kf a b (out++(a.extract i na).reverse) i nb:=by unfold vW at g⊢;rw[Array.toList_append,List.reverse_append,Array.toList_reverse,List.reverse_reverse];rw[wV hi]at g;refine g.a λz hz w e=>?_;obtain⟨k,d,c,f⟩:=GH hz;obtain⟨j,lt,h⟩:=oV e;exact l k z d c f j w lt h
theorem JA (hi:i<=nb)(l:∀k y,i<=k->k<nb->b[k]?=some y->∀j x,j<na->a[j]?=some x->kf x<=kf y)(g:vW kf a b out na nb):vW kf a b (out++(b.extract i nb).reverse) na i:=by unfold vW at g⊢;rw[Array.toList_append,List.reverse_append,Array.toList_reverse,List.reverse_reverse];rw[wV hi]at g;refine g.b λz hz w e=>?_;obtain⟨k,d,c,f⟩:=GH hz;obtain⟨j,lt,h⟩:=oV e;exact l k z d c f j w lt h
theorem AY {a b:Array Keyed}{st:SortSt}{Q:Array Keyed->SortSt->Prop}(U:qY M A E s kf κ a0)(hk:kindOf st=κ)(T:QQ kf a0 a b)(h:∀r d,Kp st d->iH kf (a.toList++b.toList) r.toList->Q r d):wpS M A E s (L7 a b) Q st:=by
 have na0:=T.na;have nb0:=T.nb;obtain⟨Z,R,mal⟩:=fW (a:=a) (i:=a.size - 1) (by lia);refine j8 ?_;refine wpS_bind (bR R ?_);have g0:vW kf a b #[Z] (a.size - 1) b.size:=by
  have ta:a.toList.take (a.size - 1)++[Z]=a.toList:=by rw[←take_snoc R];exact List.take_of_length_le (by rw[br];lia)
  have tb:b.toList.take b.size=b.toList:=List.take_of_length_le (by rw[br];lia);refine⟨?_,?_,?_⟩
  ·show(a.toList.take (a.size - 1)++[Z]).Pairwise _;rw[ta];exact T.sa
  ·rw[tb];refine List.pairwise_append.mpr ⟨T.sb,List.pairwise_singleton _ _,λy hy x hx=>?_⟩;rw[cs.mp hx];exact Nat.le_of_lt (T.lst Z y R hy)
  ·rw[tb];show((a.toList.take (a.size - 1)++b.toList)++[Z]).Perm _
   conv=>rhs;rw[←ta]
   rw[cp,cp];exact List.perm_append_comm.append_left _
 refine bB (λc1=>wpS_pure (h _ _ (Kp.refl _) (tB (eq_of_beq c1) g0))) λc1=>?_;refine bB (λc2=>wpS_pure (h _ _ (Kp.refl _) (pA T (eq_of_beq c2) g0))) λc2=>?_;have c1:=dC c1;have c2:=dC c2;have m0:QW kf a b #[Z] (a.size - 1) b.size:=⟨by lia,by lia,by lia,by lia,g0⟩
 refine wpS_bind (wpS_get ?_)
 refine wpS_bind (wpS_mono (wpS_forRange (I:=λx c d=>Kp st d/\∃na nb out mg,c=(none,na,nb,out,mg)/\QW kf a b out na nb/\na+nb+x+1<=a.size+b.size)
  (Q:=λc d=>Kp st d/\∃r,c.1=some r/\iH kf (a.toList++b.toList) r.toList) ?_ ?_ ⟨Kp.refl _,_,_,_,_,rfl,m0,by lia⟩) ?_)
 ·rintro x c st1 _ xt ⟨k1,na,nb,out,mg,rfl,m1,x1⟩;dsimp only
  refine wpS_bind (wpS_mono (wpS_forRange (I:=λy c d=>d=st1/\∃o l f B z,c=(none,o,l,f,B,z)/\QW kf a b f o l/\o+l+y<=na+nb)
   (Q:=λc d=>d=st1/\((∃r,c.1=some r/\iH kf (a.toList++b.toList) r.toList)∨∃o l f B z,c=(none,o,l,f,B,z)/\QW kf a b f o l/\o+l+1<=na+nb)) ?_ ?_ ⟨rfl,_,_,_,_,_,rfl,m1,by lia⟩) ?_)
  ·rintro y c st2 _ yt ⟨rfl,na,nb,out,B,z,rfl,N,x2⟩;dsimp only;obtain⟨i1,i2,i3,i4,ig⟩:=N;obtain⟨eb,H,me⟩:=fW (a:=b) (i:=nb - 1) (by lia);obtain⟨Y,e2,mf⟩:=fW (a:=a) (i:=na - 1) (by lia);refine wpS_bind (bR H (wpS_bind (bR e2 (wpS_bind (U _ _ (T.mb _ me) (T.ma _ mf) _ _ (k1.kd.trans hk) ?_)))));dsimp only;have ig':vW kf a b out (na - 1+1) (nb - 1+1):=by rw[Nat.sub_add_cancel i1,Nat.sub_add_cancel (show 1<=nb by lia)];exact ig
   refine bB (λw=>wpS_bind (bR e2 ?_)) λw=>wpS_bind (bR H ?_)
   ·have w:=bu w;have g:=CM e2 (λj y X P=>aq (eN T.sb P H (by lia)) (by lia)) ig';rw[Nat.sub_add_cancel (show 1<=nb by lia)]at g;refine bB (λS=>wpS_pure ⟨rfl,.inl ⟨_,rfl,tB (eq_of_beq S) g⟩⟩) λS=>?_;have C:QW kf a b (out.push Y) (na - 1) nb:=⟨by have:=dC S;lia,by lia,i3,i4,g⟩
    exact bB (λ_=>wpS_pure ⟨rfl,.inr ⟨_,_,_,_,_,rfl,C,by lia⟩⟩) λ_=>wpS_pure ⟨rfl,_,_,_,_,_,rfl,C,by lia⟩
   ·have w:=k9 w;have g:=CL H (λj x X P=>aq (eN T.sa P e2 (by lia)) (by lia)) ig';rw[Nat.sub_add_cancel i1]at g;refine bB (λS=>wpS_pure ⟨rfl,.inl ⟨_,rfl,pA T (eq_of_beq S) g⟩⟩) λS=>?_;have C:QW kf a b (out.push eb) na (nb - 1):=⟨i1,i2,by have:=dC S;lia,by lia,g⟩
    exact bB (λ_=>wpS_pure ⟨rfl,.inr ⟨_,_,_,_,_,rfl,C,by lia⟩⟩) λ_=>wpS_pure ⟨rfl,_,_,_,_,_,rfl,C,by lia⟩
  ·rintro c st2 ⟨rfl,o,l,f,B,z,rfl,N,x2⟩;have:=N.a1
   lia
  ·rintro c st2 ⟨rfl,⟨r,e,hr⟩|⟨K,J,out2,B,z,rfl,N,x2⟩⟩
   ·obtain⟨c1',c2'⟩:=c;cases e;exact wpS_pure ⟨k1,_,rfl,hr⟩
   ·dsimp only;refine j8 ?_
    refine wpS_bind (wpS_mono (wpS_forRange (I:=λy c d=>Kp st d/\∃o l f v B z,c=(none,o,l,f,v,B,z)/\QW kf a b f o l/\o+l+y<=K+J)
     (Q:=λc d=>Kp st d/\((∃r,c.1=some r/\iH kf (a.toList++b.toList) r.toList)∨∃o l f v B z,c=(none,o,l,f,v,B,z)/\QW kf a b f o l/\o+l<=K+J)) ?_ ?_ ⟨k1,_,_,_,_,_,_,rfl,N,by lia⟩) ?_)
    ·rintro y c st3 _ yt ⟨G,na,nb,out,v,B,z,rfl,C,x3⟩;dsimp only;obtain⟨i1,i2,i3,i4,ig⟩:=C;obtain⟨eb,H,me⟩:=fW (a:=b) (i:=nb - 1) (by lia);generalize hm:v=L
     revert L
     refine yS (λ_ d=>Kp st d) (λL F k4=>wpS_bind (wpS_modify ?_)) (λ_ k=>k _ _ G) λ_=>G;have k5:Kp st (SortSt.mk' (kindOf F) (arrOf F) (pendingOf F) L (failedOf F)):=⟨k4.kd,k4.ar,k4.pe,k4.fa⟩
     refine wpS_bind (bR H (wpS_bind (lO U (k5.kd.trans hk) (y6 T.sa) T.ma (T.mb _ me) (by lia) (by lia) λat_ an f1 f2=>?_)));dsimp only;simp only[Nat.zero_add]at f1 f2;have gX:=JB an (λk x ik kn ek j y X P=>aq (eN T.sb P H (by lia)) (Nat.le_of_lt (f2 k x ik kn ek))) ig;generalize hq:na - at_=kq;generalize hO:out=t;generalize hI:na=p
     revert t p
     refine sK (λt p d=>Kp st d/\vW kf a b t p nb/\1<=p/\p<=a.size/\(∀j x,j<p->a[j]?=some x->kf x<=kf eb)/\p+nb+y<=K+J) ?_ ?_ λk0=>⟨k5,ig,i1,i2,by rw[show na=at_ by lia];exact f1,x3⟩
     rotate_left
     ·exact λk0 j=>bB (λc4=>wpS_pure ⟨k5,.inl ⟨_,rfl,tB (eq_of_beq c4) gX⟩⟩) λc4=>j (out++(a.extract at_ na).reverse) at_ _ ⟨k5,gX,by have:=dC c4;lia,by lia,f1,by lia⟩
     rintro t p st6 ⟨W,gX,hX,hX2,fX,pX⟩;refine wpS_bind (bR H ?_);have gX':vW kf a b t p (nb - 1+1):=by rw[Nat.sub_add_cancel (show 1<=nb by lia)];exact gX
     have g1:=CL H fX gX';refine bB (λc6=>wpS_pure ⟨W,.inl ⟨_,rfl,pA T (eq_of_beq c6) g1⟩⟩) λc6=>?_;have c6:=dC c6;obtain⟨xa,Y,mxa⟩:=fW (a:=a) (i:=p - 1) (by lia);refine wpS_bind (bR Y (wpS_bind (lQ U (W.kd.trans hk) (y6 T.sb) T.mb (T.ma _ mxa) (by lia) (by lia) λbt bn q1 q2=>?_)));dsimp only;simp only[Nat.zero_add]at q1 q2;have O:=JA bn (λk y ik kn ek j x X P=>aq (eN T.sa P Y (by lia)) (q2 k y ik kn ek)) g1;have pb:nb - 1+1<=nb/\2<=nb - 1:=by lia
     generalize t.push eb=outP at g1 O⊢;generalize nb - 1=nbP at g1 O bn q1 q2 pb⊢;generalize hq2:nbP - bt=kq2;generalize hO:outP=q;generalize hI:nbP=u
     revert q u
     refine sK (λq u d=>Kp st d/\vW kf a b q p u/\2<=u/\u+1<=nb/\∀j y,j<u->b[j]?=some y->kf y<=kf xa) ?_ ?_ λk20=>⟨W,g1,pb.2,pb.1,λj y X e=>Nat.le_of_lt (q1 j y (by lia) e)⟩
     rotate_left
     ·exact λk20 j=>bB (λc7=>wpS_pure ⟨W,.inl ⟨_,rfl,pA T (eq_of_beq c7) O⟩⟩) λc7=>bB (λc9=>wpS_pure ⟨W,.inl ⟨_,rfl,TQ (eq_of_beq c9) O⟩⟩) λc9=>j (outP++(b.extract bt nbP).reverse) bt _ ⟨W,O,by have:=dC c7;have:=dC c9;lia,by lia,λj y X e=>Nat.le_of_lt (q1 j y X e)⟩
     rintro q u st7 ⟨k7,O,bY,bY2,lY⟩;refine wpS_bind (bR Y ?_);have gY':vW kf a b q (p - 1+1) u:=by rw[Nat.sub_add_cancel hX];exact O
     have g3:=CM Y lY gY';refine bB (λc8=>wpS_pure ⟨k7,.inl ⟨_,rfl,tB (eq_of_beq c8) g3⟩⟩) λc8=>?_;have m9:QW kf a b (q.push xa) (p - 1) u:=⟨by have:=dC c8;lia,by lia,bY,by lia,g3⟩
     exact bB (λ_=>wpS_pure ⟨k7,.inr ⟨_,_,_,_,_,_,rfl,m9,by lia⟩⟩) λ_=>wpS_pure ⟨k7,_,_,_,_,_,_,rfl,m9,by lia⟩
    ·rintro c st3 ⟨G,na,nb,out,v,B,z,rfl,C,x3⟩;have:=C.a1;have:=N.a2;have:=N.b2
     lia
    ·rintro c st3 ⟨G,⟨r,e,hr⟩|⟨na3,nb3,out3,mg3,B,z,rfl,C,x3⟩⟩
     ·obtain⟨c1',c2'⟩:=c;cases e;exact wpS_pure ⟨G,_,rfl,hr⟩
     ·dsimp only;exact wpS_bind (wpS_modify (wpS_pure ⟨⟨G.kd,G.ar,G.pe,G.fa⟩,_,_,_,_,rfl,C,by lia⟩))
 ·rintro c d ⟨k,na,nb,out,mg,rfl,m,x1⟩;have:=m.a1
  lia
 ·rintro c d ⟨k,r,e,hr⟩;rw[e];exact wpS_pure (h _ _ k hr)
end
noncomputable def kv (c:Keyed->Nat)(xs:Array Keyed)(i:Nat):Nat:=match xs[i]? with
 | some p=>c p
 | none=>0
theorem CC {c:Keyed->Nat}(h:xs[i]?=ys[j]?):kv c xs i=kv c ys j:=by unfold kv;rw[h]
theorem GM {c:Keyed->Nat}(h:xs[i]?=some x):kv c xs i=c x:=by unfold kv;rw[h]
theorem MD {c:Keyed->Nat}(h:src<xs.size)(hd:d<=src)(k:Nat):kv c (bubble xs src d) k=if k=src - d then kv c xs src else if src - d<k/\k<=src then kv c xs (k - 1)else kv c xs k:=by
 have e:=getElem?_bubble (xs:=xs) h d hd k;split <;> rename_i g
 ·rw[ai g]at e;exact CC e
 ·rw[ab g]at e;split <;> rename_i f
  ·rw[ai f]at e;exact CC e
  ·rw[ab f]at e;exact CC e
theorem ES {c:Keyed->Nat}(f:j<=xs.size)(k:Nat):kv c (mirror xs i j ((j - i) / 2)) k=if i<=k/\k<j then kv c xs (i+j - 1 - k)else kv c xs k:=by
 have e:=getElem?_mirror_all (xs:=xs) (i:=i) f k;split <;> rename_i d
 ·rw[ai d]at e;exact CC e
 ·rw[ab d]at e;exact CC e
theorem PY {d:Keyed->Nat}(e:j<=xs.size)(c:∀k,i<=k->k<j->kv d xs k=kv d xs (j - 1))(k:Nat):kv d (mirror xs i j ((j - i) / 2)) k=kv d xs k:=by
 rw[ES e];split
 ·rw[c k (by lia) (by lia)];exact c _ (by lia) (by lia)
 ·rfl
structure SR (κ:SortKind)(a0 a1:Array Keyed)(lo:Nat)(st0 st:SortSt):Prop where
 pm:(arrOf st).Perm a0
 kd:kindOf st=κ
 fa:failedOf st=none
 pe:pendingOf st=pendingOf st0
 pre:∀j,j<lo->(arrOf st)[j]?=a1[j]?
section
variable {M:Model}{A:Around}{E:cJ}{s:Shared}{kf:Keyed->Nat}{κ:SortKind}{a0 a1:Array Keyed}{lo:Nat}{st0:SortSt}
theorem SR.size {st:SortSt}(h:SR κ a0 a1 lo st0 st):(arrOf st).size=a0.size:=h.pm.size_eq
theorem SR.mem {st:SortSt}(h:SR κ a0 a1 lo st0 st){i:Nat}(hi:i<a0.size):∃x,(arrOf st)[i]?=some x/\x∈a0.toList:=by obtain⟨x,e,m⟩:=fW (a:=arrOf st) (i:=i) (by rw[h.size];exact hi);exact⟨x,e,(Array.perm_iff_toList_perm.mp h.pm).mem_iff.mp m⟩
theorem mH {st:SortSt}{i j:Nat}{Q:Option Bool->SortSt->Prop}(c:qY M A E s kf κ a0)(h:SR κ a0 a1 lo st0 st)(hi:i<a0.size)(g:j<a0.size)(q:Q (some (decide (kv kf (arrOf st) i<kv kf (arrOf st) j))) st):wpS M A E s (ltAt' i j) Q st:=by obtain⟨x,ex,f⟩:=h.mem hi;obtain⟨y,d,e⟩:=h.mem g;rw[GM ex,GM d]at q;refine wpS_bind (wpS_get ?_);exact wpS_bind (bR ex (wpS_bind (bR d (c _ _ f e st Q h.kd q))))
theorem SR.mirror {st:SortSt}(h:SR κ a0 a1 lo st0 st){i j d:Nat}(e:j<=a0.size)(hi:lo<=i):SR κ a0 a1 lo st0 (setArr st (PyProof.Rows.mirror (arrOf st) i j ((j - i) / 2))):=by refine⟨(mirror_perm _ _ _ _).trans h.pm,h.kd,h.fa,h.pe,λk c=>?_⟩;show(PyProof.Rows.mirror (arrOf st) i j ((j - i) / 2))[k]?=_;rw[getElem?_mirror_all (by rw[h.size];exact e),ab (by lia)];exact h.pre k c
def mU (c:Keyed->Nat)(xs:Array Keyed)(lo n:Nat):Prop:=∀i j,i<=j->j<n->kv c xs (lo+i)<=kv c xs (lo+j)
def vY (c:Keyed->Nat)(xs:Array Keyed)(lo n:Nat):Prop:=∀i j,i<=j->j<n->kv c xs (lo+j)<=kv c xs (lo+i)
theorem mU.snoc (h:mU kf xs lo n)(f:1<=n)(e:¬kv kf xs (lo+n)<kv kf xs (lo+n - 1)):mU kf xs lo (n+1):=by
 intro i j c d;by_cases z:j<n
 ·exact h i j c z
 ·have:j=n:=by lia
  subst this;by_cases y:i=j
  ·subst y;exact ac _
  ·have:=h i (j - 1) (by lia) (by lia);rw[show lo+(j - 1)=lo+j - 1 by lia]at this
   lia
theorem vY.snoc (h:vY kf xs lo n)(f:1<=n)(e:¬kv kf xs (lo+n - 1)<kv kf xs (lo+n)):vY kf xs lo (n+1):=by
 intro i j c d;by_cases z:j<n
 ·exact h i j c z
 ·have:j=n:=by lia
  subst this;by_cases y:i=j
  ·subst y;exact ac _
  ·have:=h i (j - 1) (by lia) (by lia);rw[show lo+(j - 1)=lo+j - 1 by lia]at this
   lia
theorem vY.turned (h:vY kf xs lo n)(hz:lo+n<=xs.size):mU kf (PyProof.Rows.mirror xs lo (lo+n) ((lo+n - lo) / 2)) lo n:=by intro i j d c;rw[ES hz,ES hz,ai (by lia),ai (by lia)];have:=h (n - 1 - j) (n - 1 - i) (by lia) (by lia);rw[show lo+(lo+n) - 1 - (lo+i)=lo+(n - 1 - i)by lia,show lo+(lo+n) - 1 - (lo+j)=lo+(n - 1 - j)by lia];exact this
theorem sJ {st:SortSt}{i j:Nat}{Q:Unit->SortSt->Prop}(h:Q () (setArr st (PyProof.Rows.mirror (arrOf st) i j ((j - i) / 2)))):wpS M A E s (reverseSlice' i j) Q st:=by rw[reverseSlice'_eq];exact wpS_modify h
def r9 (c:Keyed->Nat)(xs:Array Keyed)(lo a n:Nat):Prop:=∀k,a<=k->k<n->kv c xs (lo+k)=kv c xs (lo+n - 1)
theorem qO:r9 kf xs lo (x+1 - (0+1)) (x+1):=λk d c=>by rw[show k=x by lia,show lo+(x+1) - 1=lo+x by lia]
theorem r9.fl (h:r9 kf xs lo a n)(z:lo+n<=xs.size)(k:Nat):kv kf (PyProof.Rows.mirror xs (lo+a) (lo+n) ((lo+n - (lo+a)) / 2)) k=kv kf xs k :=
 PY z (λk d c=>by have:=h (k - lo) (by lia) (by lia);rw[show lo+(k - lo)=k by lia]at this;exact this) k
theorem r9.dsc (h:r9 kf xs lo (n - (e+1)) n)(z:lo+n<=xs.size)(l:e+1<=n)(d:vY kf xs lo m):vY kf (PyProof.Rows.mirror xs (lo+n - (e+1)) (lo+n) ((lo+n - (lo+n - (e+1))) / 2)) lo m:=λi j g c=>by have f:=h.fl z;rw[show lo+(n - (e+1))=lo+n - (e+1)by lia]at f;rw[f,f];exact d i j g c
theorem wC {g:Nat}{st:SortSt}{Q:Option Nat->SortSt->Prop}(t:qY M A E s kf κ a0)(h:SR κ a0 a1 lo st0 st)(O:1<=g)(hz:lo+g<=a0.size)
  (q:∀n f,SR κ a0 a1 lo st0 f->1<=n->n<=g->mU kf (arrOf f) lo n->Q (some n) f):wpS M A E s (countRun' lo g) Q st:=by
 refine wpS_bind (wpS_mono (wpS_forRange (I:=λx c f=>f=st/\c=(none,x)/\mU kf (arrOf st) lo x)
  (Q:=λc f=>f=st/\∃n,c=(none,n)/\1<=n/\n<=g/\mU kf (arrOf st) lo n/\(n=g∨kv kf (arrOf st) (lo+n)<kv kf (arrOf st) (lo+n - 1))) ?_ ?_ ⟨rfl,rfl,λi j T N=>?_⟩) ?_)
 ·rintro x c f H S ⟨rfl,rfl,l⟩;dsimp only;refine wpS_bind (mH t h (by lia) (by lia) ?_);dsimp only;by_cases w:kv kf (arrOf f) (lo+x)<kv kf (arrOf f) (lo+x - 1)
  ·rw[bi w,ai rfl];exact wpS_pure ⟨rfl,x,rfl,H,by lia,l,.inr w⟩
  ·rw[bo w,ab (by decide)];exact wpS_pure ⟨rfl,rfl,l.snoc H w⟩
 ·rintro c f ⟨rfl,rfl,l⟩;rw[show max 1 g=g by lia]at l⊢;exact⟨rfl,g,rfl,O,ac _,l,.inl rfl⟩
 ·rw[show i=0 by lia,show j=0 by lia];exact ac _
 ·rintro c f ⟨rfl,n,rfl,n1,nn,l,out⟩;dsimp only;refine bB (λ_=>wpS_pure (q n f h n1 nn l)) λP=>?_;have P:n≠g:=by simpa using P
  have U:kv kf (arrOf f) (lo+n)<kv kf (arrOf f) (lo+n - 1):=out.resolve_left P;refine J5 (λr=>SR κ a0 a1 lo st0 r/\vY kf (arrOf r) lo n/\kv kf (arrOf r) (lo+n)<kv kf (arrOf r) (lo+n - 1)) (λr hI=>?_) (λc2 k=>?_) λc2=>⟨h,λi j T N=>by rw[show i=0 by lia,show j=0 by lia];exact ac _,U⟩
  ·obtain⟨S2,D2,dn2⟩:=hI;refine j8 ?_
   refine wpS_bind (wpS_mono (wpS_forRange (I:=λx c f=>SR κ a0 a1 lo st0 f/\∃e,c=(none,x,e)/\vY kf (arrOf f) lo x/\e+1<=x/\r9 kf (arrOf f) lo (x - (e+1)) x)
    (Q:=λc f=>SR κ a0 a1 lo st0 f/\∃m e,c=(none,m,e)/\1<=m/\m<=g/\vY kf (arrOf f) lo m/\e+1<=m/\r9 kf (arrOf f) lo (m - (e+1)) m) ?_ ?_ ⟨S2,0,rfl,D2.snoc n1 (by lia),by lia,qO⟩) ?_)
   ·rintro x c C S xr ⟨p,e,rfl,u,F,B⟩;dsimp only;refine wpS_bind (mH t p (by lia) (by lia) ?_);dsimp only;refine bB (λw=>?_) λw=>?_
    ·have G:=u.snoc (by lia) (by have:=bu w;lia);refine bB (λe0=>wpS_bind (sJ (wpS_pure ⟨p.mirror (d:=0) (by lia) (by lia),0,rfl,?_,by lia,qO⟩))) λ_=>wpS_pure ⟨p,0,rfl,G,by lia,qO⟩;exact B.dsc (by rw[p.size];lia) (by lia) G
    ·refine wpS_bind (mH t p (by lia) (by lia) ?_);dsimp only;refine bB (λ_=>wpS_pure ⟨p,x,e,rfl,by lia,by lia,u,F,B⟩) λv=>wpS_pure ⟨p,e+1,rfl,u.snoc (by lia) (k9 v),by lia,λk k1 k2=>?_⟩;have w:=k9 w;have v:=k9 v;rw[show lo+(x+1) - 1=lo+x by lia];by_cases y:k=x
     ·rw[y]
     ·rw[B k (by lia) (by lia)]
      lia
   ·rintro c C ⟨p,e,rfl,u,F,B⟩;rw[show max (n+1) g=g by lia]at u F B⊢;exact⟨p,g,e,rfl,O,ac _,u,F,B⟩
   ·rintro c C ⟨p,m,e,rfl,m1,mr,u,F,B⟩;dsimp only;refine J5 (λo=>SR κ a0 a1 lo st0 o/\vY kf (arrOf o) lo m) (λo ⟨W,G⟩=>?_) (λe0 k=>wpS_bind (sJ (k _ ⟨p.mirror (d:=0) (by lia) (by lia),B.dsc (by rw[p.size];lia) (by lia) u⟩))) λ_=>⟨p,u⟩
    refine wpS_bind (sJ ?_);have R:=W.mirror (i:=lo) (j:=lo+m) (d:=0) (by lia) (ac _);have X:mU kf (arrOf (setArr o (PyProof.Rows.mirror (arrOf o) lo (lo+m) ((lo+m - lo) / 2)))) lo m:=G.turned (by rw[W.size];lia);generalize setArr o (PyProof.Rows.mirror (arrOf o) lo (lo+m) ((lo+m - lo) / 2))=st5 at R X⊢
    refine wpS_bind (wpS_mono (wpS_forRange (I:=λx c f=>f=st5/\c=(none,x)/\mU kf (arrOf st5) lo x)
     (Q:=λc f=>f=st5/\∃n,c=(none,n)/\1<=n/\n<=g/\mU kf (arrOf st5) lo n) ?_ ?_ ⟨rfl,rfl,X⟩) ?_)
    ·rintro x c f H S ⟨rfl,rfl,l⟩;dsimp only;refine wpS_bind (mH t R (by lia) (by lia) ?_);dsimp only;exact bB (λ_=>wpS_pure ⟨rfl,x,rfl,by lia,by lia,l⟩) λw=>wpS_pure ⟨rfl,rfl,l.snoc (by lia) (k9 w)⟩
    ·rintro c f ⟨rfl,rfl,l⟩;rw[show max m g=g by lia]at l⊢;exact⟨rfl,g,rfl,O,ac _,l⟩
    ·rintro c f ⟨rfl,Y,rfl,L,K,J⟩;exact wpS_pure (q Y f R L K J)
  ·refine wpS_bind (mH t h (by lia) (by lia) ?_);dsimp only;refine bB (λ_=>wpS_pure (q n f h n1 nn l)) λz=>?_;have z:=k9 z;have same:r9 kf (arrOf f) lo 0 n:=λk _ Z=>by
    have a1:=l 0 k (by lia) Z;have a2:=l k (n - 1) (by lia) (by lia);rw[show lo+(n - 1)=lo+n - 1 by lia]at a2;rw[Nat.add_zero]at a1
    lia
   have fl:=same.fl (by rw[h.size];lia);rw[Nat.add_zero]at fl;refine wpS_bind (sJ (k _ ⟨h.mirror (d:=0) (by lia) (ac _),λi j T N=>?_,?_⟩))
   ·show kv kf (PyProof.Rows.mirror _ _ _ _) _<=kv kf (PyProof.Rows.mirror _ _ _ _) _;rw[fl,fl,same i (by lia) (by lia),same j (by lia) N];exact ac _
   ·show kv kf (PyProof.Rows.mirror _ _ _ _) _<kv kf (PyProof.Rows.mirror _ _ _ _) _;rw[fl,fl];exact U
theorem NU {st:SortSt}{i j:Nat}{Q:Unit->SortSt->Prop}(h:Q () (setArr st (bubble (arrOf st) i (i - j)))):wpS M A E s (moveDown' i j) Q st:=by rw[moveDown'_eq];exact wpS_modify h
theorem SR.bub {st:SortSt}(h:SR κ a0 a1 lo st0 st){k l:Nat}(c:lo+k<a0.size)(e:l<=k):SR κ a0 a1 lo st0 (setArr st (bubble (arrOf st) (lo+k) (lo+k - (lo+l)))):=by refine⟨(bubble_perm _ _ _).trans h.pm,h.kd,h.fa,h.pe,λj d=>?_⟩;show(bubble (arrOf st) (lo+k) (lo+k - (lo+l)))[j]?=_;rw[getElem?_bubble (by rw[h.size];exact c) _ (by lia),ab (by lia),ab (by lia)];exact h.pre j d
theorem AZ {n ok:Nat}{st:SortSt}{Q:Bool->SortSt->Prop}(B:qY M A E s kf κ a0)(h:SR κ a0 a1 lo st0 st)(hz:lo+n<=a0.size)(hok:ok<=n)(J:mU kf (arrOf st) lo ok)
  (q:∀f,SR κ a0 a1 lo st0 f->mU kf (arrOf f) lo n->Q true f):wpS M A E s (binarySort' lo n ok) Q st:=by
 refine wpS_bind (wpS_mono (wpS_forRange (I:=λk c f=>c=(none,())/\SR κ a0 a1 lo st0 f/\mU kf (arrOf f) lo (min k n))
  (Q:=λc f=>c=(none,())/\SR κ a0 a1 lo st0 f/\mU kf (arrOf f) lo n) ?_ ?_ ⟨rfl,h,λi j v F=>?_⟩) ?_)
 ·rintro k c d S C ⟨rfl,p,m⟩;rw[Nat.min_eq_left (Nat.le_of_lt C)]at m
  refine wpS_bind (wpS_mono (wpS_forRange (I:=λx c f=>f=d/\∃l r,c=(none,l,r)/\l<=r/\r<=k/\r - l<=k - x/\(∀i,i<l->kv kf (arrOf d) (lo+i)<=kv kf (arrOf d) (lo+k))/\∀i,r<=i->i<k->kv kf (arrOf d) (lo+k)<kv kf (arrOf d) (lo+i))
   (Q:=λc f=>f=d/\∃l,c=(none,l,l)/\l<=k/\(∀i,i<l->kv kf (arrOf d) (lo+i)<=kv kf (arrOf d) (lo+k))/\∀i,l<=i->i<k->kv kf (arrOf d) (lo+k)<kv kf (arrOf d) (lo+i)) ?_ ?_ ⟨rfl,0,k,rfl,by lia,by lia,by lia,λi hi=>by lia,λi W U=>by lia⟩) ?_)
  ·rintro x c o _ R ⟨rfl,l,r,rfl,K,u,P,b1,b2⟩;dsimp only;by_cases g:l ≥ r
   ·rw[ai g];have e:l=r:=by lia
    subst e;exact wpS_pure ⟨rfl,l,rfl,u,b1,b2⟩
   rw[ab g];refine wpS_bind (mH B p (by lia) (by lia) ?_);dsimp only;by_cases w:kv kf (arrOf o) (lo+k)<kv kf (arrOf o) (lo+(l+r) / 2)
   ·rw[bi w,ai rfl];exact wpS_pure ⟨rfl,l,(l+r) / 2,rfl,by lia,by lia,by lia,b1,λi t G=>bg w (m _ _ t G)⟩
   ·rw[bo w,ab (by decide)];exact wpS_pure ⟨rfl,(l+r) / 2+1,r,rfl,by lia,u,by lia,λi t=>aq (m i ((l+r) / 2) (by lia) (by lia)) (by lia),b2⟩
  ·rintro c o ⟨rfl,l,r,rfl,K,u,P,b1,b2⟩;have e:l=r:=by lia
   subst e;exact⟨rfl,l,rfl,u,b1,b2⟩
  ·rintro c o ⟨rfl,l,rfl,N,b1,b2⟩;dsimp only;refine wpS_bind (NU (wpS_pure ⟨rfl,p.bub (by lia) N,λi j v F=>?_⟩));rw[Nat.min_eq_left (show k+1<=n from C)]at F;have H:lo+k<(arrOf o).size:=by rw[p.size];lia
   show kv kf (bubble _ _ _) _<=kv kf (bubble _ _ _) _;rw[MD H (by lia),MD H (by lia),show lo+k - (lo+k - (lo+l))=lo+l by lia];have L:∀i,i<l->kv kf (arrOf o) (lo+i)<=kv kf (arrOf o) (lo+k):=b1;by_cases O:j=l
   ·subst O;by_cases t:i=j
    ·subst t;exact ac _
    ·rw[ai (show lo+j=lo+j from rfl),ab (by lia),ab (by lia)];exact b1 i (by lia)
   ·by_cases T:j<l
    ·rw[ab (show ¬lo+j=lo+l by lia),ab (show ¬(lo+l<lo+j/\lo+j<=lo+k)by lia),ab (by lia),ab (by lia)];exact m i j v (by lia)
    ·rw[ab (show ¬lo+j=lo+l by lia),ai (show lo+l<lo+j/\lo+j<=lo+k by lia),show lo+j - 1=lo+(j - 1)by lia];by_cases t:i=l
     ·rw[ai (by lia)];exact Nat.le_of_lt (b2 (j - 1) (by lia) (by lia))
     ·by_cases G:i<l
      ·rw[ab (by lia),ab (by lia)];exact m i (j - 1) (by lia) (by lia)
      ·rw[ab (by lia),ai (by lia),show lo+i - 1=lo+(i - 1)by lia];exact m (i - 1) (j - 1) (by lia) (by lia)
 ·rintro c d ⟨rfl,p,m⟩;rw[show min (max (max ok 1) n) n=n by lia]at m;exact⟨rfl,p,m⟩
 ·by_cases z:ok=0
  ·rw[show i=0 by lia,show j=0 by lia];exact ac _
  ·exact J i j v (by lia)
 ·rintro c d ⟨rfl,p,m⟩;exact wpS_pure (q d p m)
end
section
variable {kf:Keyed->Nat}{arr:Array Keyed}{L ra rb R X:List Keyed}
theorem lA (e:arr.toList=L++(ra++R))(hi:i<ra.length):arr[L.length+i]?=ra[i]?:=by rw[←Array.getElem?_toList,e,List.getElem?_append_right (Nat.le_add_right _ _),Nat.add_sub_cancel_left,List.getElem?_append_left hi]
theorem rD {l:List Keyed}(p:l.Pairwise (tJ kf)){i j:Nat}{x y:Keyed}(d:i<=j)(ex:l[i]?=some x)(c:l[j]?=some y):kf x<=kf y:=by
 rcases Nat.eq_or_lt_of_le d with rfl|lt
 ·rw[ex]at c;cases c;exact ac _
 ·obtain⟨hi,g⟩:=cr.mp ex;obtain⟨e,f⟩:=cr.mp c;have:=List.pairwise_iff_getElem.mp p i j hi e lt;rw[g,f]at this;exact this
theorem F5 (e:arr.toList=L++(ra++R))(p:ra.Pairwise (tJ kf)):J0 kf arr L.length ra.length:=λi j x y d c ex f =>
 rD p d (by rw[←lA e (by lia)];exact ex) (by rw[←lA e c];exact f)
theorem MY (e:arr.toList=L++(X++R)):(arr.extract L.length (L.length+X.length)).toList=X:=by rw[AH,e,List.drop_left,List.take_left]
theorem MB (e:arr.toList=L++(X++R)):L.length+X.length<=arr.size:=by
 have:=congrArg List.length e;rw[br,av,av]at this
 lia
theorem BL:∀(m:List Keyed) {d:Array Keyed} {L Z R:List Keyed} {k b:Nat},d.toList=L++(Z++R)->Z.length=m.length->L.length=b+k->((m.zipIdx k).foldl (λa x=>match x with|(p,j)=>a.setIfInBounds (b+j) p) d).toList=L++(m++R)
 | [],d,L,Z,R,k,b,e,z,l=>by
  rw[List.length_eq_zero_iff.mp z]at e;exact e
 | x::m,d,L,[],R,k,b,e,z,l=>by cases z
 | x::m,d,L,c::Z,R,k,b,e,z,l=>by
  rw[List.zipIdx_cons,List.foldl_cons];have e':(d.setIfInBounds (b+k) x).toList=(L++[x])++(Z++R):=by rw[Array.toList_setIfInBounds,e,←l,List.set_append_right _ _ (ac _),Nat.sub_self];show L++(x::(Z++R))=_;rw[cp];rfl
  have:=BL m (k:=k+1) (b:=b) e' (by simpa using z) (by rw[av,l];rfl);rw[this,cp];rfl
theorem K1 (h:l.Pairwise (tJ kf)):iH kf l l:=⟨List.Perm.refl _,h⟩
theorem D1 (sa:ra.Pairwise (tJ kf))(sb:rb.Pairwise (tJ kf))(h:∀x∈ra,∀y∈rb,kf x<=kf y):(ra++rb).Pairwise (tJ kf):=List.pairwise_append.mpr ⟨sa,sb,h⟩
theorem N7 (sa:ra.Pairwise (tJ kf))(sb:rb.Pairwise (tJ kf))(o:rb[0]?=some b0)(q:ra[ra.length - 1]?=some al)(f1:∀i x,i<k->ra[i]?=some x->kf x<=kf b0)(p:∀i y,m<=i->rb[i]?=some y->kf al<=kf y)
  (h:iH kf (ra.drop k++rb.take m) r):iH kf (ra++rb) (ra.take k++(r++rb.drop m)):=by
 have inr:∀x∈r,(∃i,k<=i/\ra[i]?=some x)∨∃i,i<m/\rb[i]?=some x:=λx d=>by
  rcases cw.mp (h.1.mem_iff.mp d)with z|z
  ·obtain⟨i,c⟩:=List.getElem?_of_mem z;rw[List.getElem?_drop]at c;exact .inl ⟨k+i,Nat.le_add_right _ _,c⟩
  ·obtain⟨i,c⟩:=List.getElem?_of_mem z;rw[List.getElem?_take]at c;by_cases w:i<m
   ·rw[ai w]at c;exact .inr ⟨i,w,c⟩
   ·rw[ab w]at c;cases c
 have inl:∀x∈ra.take k,∃i,i<k/\ra[i]?=some x:=λx d=>by
  obtain⟨i,c⟩:=List.getElem?_of_mem d;rw[List.getElem?_take]at c;by_cases w:i<k
  ·rw[ai w]at c;exact⟨i,w,c⟩
  ·rw[ab w]at c;cases c
 have ind:∀x∈rb.drop m,∃i,m<=i/\rb[i]?=some x:=λx d=>by obtain⟨i,c⟩:=List.getElem?_of_mem d;rw[List.getElem?_drop]at c;exact⟨m+i,Nat.le_add_right _ _,c⟩
 refine⟨?_,D1 (sa.sublist (List.take_sublist _ _)) (D1 h.2 (sb.sublist (List.drop_sublist _ _)) λx d y g=>?_) λx d y g=>?_⟩
 ·conv=>rhs;rw[←List.take_append_drop k ra,←List.take_append_drop m rb,cp,←cp (ra.drop k)]
  exact(h.1.append_right _).append_left _
 ·obtain⟨j,l,e⟩:=ind y g;rcases inr x d with⟨i,f,c⟩|⟨i,u,c⟩
  ·have lt:=(cr.mp c).1;exact aq (rD sa (by lia) c q) (p j y l e)
  ·exact rD sb (by lia) c e
 ·obtain⟨i,f,c⟩:=inl x d;rcases cw.mp g with z|z
  ·rcases inr y z with⟨j,s,e⟩|⟨j,t,e⟩
   ·exact rD sa (by lia) c e
   ·exact aq (f1 i x f c) (rD sb (ax _) o e)
  ·obtain⟨j,l,e⟩:=ind y z;exact aq (f1 i x f c) (rD sb (ax _) o e)
end
section
variable {M:Model}{A:Around}{E:cJ}{s:Shared}{kf:Keyed->Nat}{κ:SortKind}{a0:Array Keyed}
theorem NT {σ:Type}{st c:σ}{Q:PUnit->σ->Prop}(h:Q ⟨⟩ c):wpS M A E s (set c:StateT σ Sem PUnit) Q st:=by unfold wpS;rw[StateT.run_set];exact ao ⟨rfl,h⟩
theorem yR {i K U:Nat}{L ra d R:List Keyed}{st:SortSt}{Q:Bool->SortSt->Prop}(u:qY M A E s kf κ a0)(z:kindOf st=κ)(S:failedOf st=none)(mem:∀x∈(arrOf st).toList,x∈a0.toList)(e:(arrOf st).toList=L++(ra++(d++R)))
  (p1:(pendingOf st)[i]?=some (L.length,ra.length,K)) (p2:(pendingOf st)[i+1]?=some (L.length+ra.length,d.length,U)) (sa:ra.Pairwise (tJ kf)) (sb:d.Pairwise (tJ kf)) (na:ra≠[]) (nb:d≠[])
  (q:∀c rm,kindOf c=κ->failedOf c=none->pendingOf c=((pendingOf st).setIfInBounds i (L.length,ra.length+d.length,K)).eraseIdxIfInBounds (i+1)->(arrOf c).toList=L++(rm++R)->iH kf (ra++d) rm->Q true c):wpS M A E s (mergeAt' i) Q st:=by
 have la:1<=ra.length:=List.length_pos_iff.mpr na;have lb:1<=d.length:=List.length_pos_iff.mpr nb;have O:(arrOf st).toList=(L++ra)++(d++R):=by rw[e,cp]
 have o:(L++ra).length=L.length+ra.length:=av;have l1:=MB e;have l2:=MB O;rw[o]at l2;obtain⟨J,eb0⟩:∃J,d[0]?=some J:=⟨d[0],az lb⟩
 obtain⟨H,eal⟩:∃H,ra[ra.length - 1]?=some H:=⟨ra[ra.length - 1],az (by lia)⟩
 have hb0:(arrOf st)[L.length+ra.length]?=some J:=by have:=lA O lb;rw[o,Nat.add_zero]at this;rw[this];exact eb0
 have hal:(arrOf st)[L.length+(ra.length - 1)]?=some H:=by rw[lA e (by lia)];exact eal
 have W:J∈a0.toList:=mem _ (by rw[e];exact bz _ (bz _ (ci _ (bj eb0))));have X:H∈a0.toList:=mem _ (by rw[e];exact bz _ (ci _ (bj eal)));have B:(∀x∈ra,∀y∈d,kf x<=kf y)->iH kf (ra++d) (ra++d):=λh=>K1 (D1 sa sb h);have e0:(arrOf st).toList=L++((ra++d)++R):=by rw[e,cp]
 refine wpS_bind (wpS_get ?_);rw[p1,p2];dsimp only;refine wpS_bind (NT ?_);refine wpS_bind (bR hb0 (wpS_bind (lO u z (F5 e sa) mem W l1 (by lia) λk kn f1 f2=>?_)));dsimp only;have f1':∀i x,i<k->ra[i]?=some x->kf x<=kf J:=λi x Z ex=>f1 i x Z (by rw[lA e (by lia)];exact ex);have f2':∀i x,k<=i->ra[i]?=some x->kf J<kf x:=λi x Z ex=>by have lt:=(cr.mp ex).1;exact f2 i x Z lt (by rw[lA e lt];exact ex)
 by_cases c1:ra.length - k=0
 ·rw[ai (by simpa using c1)];refine wpS_pure (q _ _ z S rfl e0 (B λx g y I=>?_));obtain⟨i,N⟩:=List.getElem?_of_mem g;obtain⟨j,l⟩:=List.getElem?_of_mem I;have lt:=(cr.mp N).1;exact aq (f1' i x (by lia) N) (rD sb (ax _) eb0 l)
 rw[ab (by simpa using c1)];have hal':(arrOf st)[L.length+k+(ra.length - k) - 1]?=some H:=by rw[show L.length+k+(ra.length - k) - 1=L.length+(ra.length - 1)by lia];exact hal
 have sg:=F5 O sb;rw[o]at sg;refine wpS_bind (bR hal' (wpS_bind (lQ u z sg mem X (by lia) (by lia) λm mn q1 q2=>?_)));dsimp only;have P:∀i,i<d.length->(arrOf st)[L.length+ra.length+i]?=d[i]?:=λi hi=>by have:=lA O hi;rw[o]at this;exact this
 have q1':∀i y,i<m->d[i]?=some y->kf y<kf H:=λi y Y G=>q1 i y Y (by rw[P i (by lia)];exact G);have q2':∀i y,m<=i->d[i]?=some y->kf H<=kf y:=λi y Y G=>by have lt:=(cr.mp G).1;exact q2 i y Y lt (by rw[P i lt];exact G)
 by_cases c2:m=0
 ·rw[ai (by simpa using c2)];refine wpS_pure (q _ _ z S rfl e0 (B λx g y I=>?_));obtain⟨i,N⟩:=List.getElem?_of_mem g;obtain⟨j,l⟩:=List.getElem?_of_mem I;have lt:=(cr.mp N).1;exact aq (rD sa (by lia) N eal) (q2' j y (by lia) l)
 rw[ab (by simpa using c2)];have F:((arrOf st).extract (L.length+k) (L.length+ra.length)).toList=ra.drop k:=by
  have e3:(arrOf st).toList=(L++ra.take k)++(ra.drop k++(d++R)):=by rw[e,cp,←cp (ra.take k),List.take_append_drop]
  have:=MY e3;rw[av,bv,bx,Nat.min_eq_left kn,show L.length+k+(ra.length - k)=L.length+ra.length by lia]at this;exact this
 have C:((arrOf st).extract (L.length+ra.length) (L.length+ra.length+m)).toList=d.take m:=by
  have e3:(arrOf st).toList=(L++ra)++(d.take m++(d.drop m++R)):=by rw[O,←cp (d.take m),List.take_append_drop]
  have:=MY e3;rw[o,bv,Nat.min_eq_left mn]at this;exact this
 have T:QQ kf a0 ((arrOf st).extract (L.length+k) (L.length+ra.length)) ((arrOf st).extract (L.length+ra.length) (L.length+ra.length+m)):=by
  have zx:((arrOf st).extract (L.length+k) (L.length+ra.length)).size=ra.length - k:=by rw[←br,F,bx]
  have zy:((arrOf st).extract (L.length+ra.length) (L.length+ra.length+m)).size=m:=by rw[←br,C,bv,Nat.min_eq_left mn]
  refine⟨by rw[F];exact sa.sublist (List.drop_sublist _ _),by rw[C];exact sb.sublist (List.take_sublist _ _),λx g=>?_,λx g=>?_,by lia,by lia,λx y G g=>?_,λx y ex I=>?_⟩
  ·rw[F]at g;exact mem x (by rw[e];exact bz _ (ci _ (List.mem_of_mem_drop g)))
  ·rw[C]at g;exact mem x (by rw[e];exact bz _ (bz _ (ci _ (List.mem_of_mem_take g))))
  ·rw[←Array.getElem?_toList,C,List.getElem?_take,ai (by lia),eb0]at G;cases G;rw[F]at g;obtain⟨j,l⟩:=List.getElem?_of_mem g;rw[List.getElem?_drop]at l;exact f2' _ x (Nat.le_add_right _ _) l
  ·rw[←Array.getElem?_toList,zx,F,List.getElem?_drop,show k+(ra.length - k - 1)=ra.length - 1 by lia,eal]at ex;cases ex;rw[C]at I;obtain⟨j,l⟩:=List.getElem?_of_mem I;rw[List.getElem?_take]at l;by_cases w:j<m
   ·rw[ai w]at l;exact q1' j y w l
   ·rw[ab w]at l;cases l
 have fin:∀(r:Array Keyed) (f c:SortSt),kindOf f=κ->failedOf f=none->arrOf f=arrOf st->pendingOf f=((pendingOf st).setIfInBounds i (L.length,ra.length+d.length,K)).eraseIdxIfInBounds (i+1)->Kp f c->iH kf (ra.drop k++d.take m) r.toList ->
   wpS M A E s (do modify (λs=>setArr s ((r.toList.zipIdx).foldl (λa x=>match x with|(p,j)=>a.setIfInBounds (L.length+k+j) p) (arrOf s)));let t ←get;pure (failedOf t).isNone) Q c:=by
  intro r f c k1 k2 k3 k4 kp v;refine wpS_bind (wpS_modify ?_);refine wpS_bind (wpS_get ?_);have e4:(arrOf c).toList=(L++ra.take k)++((ra.drop k++d.take m)++(d.drop m++R)):=by rw[kp.ar,k3,e,cp,cp,←cp (d.take m),List.take_append_drop,←cp (ra.take k),List.take_append_drop]
  have e5:=BL r.toList (k:=0) (b:=L.length+k) e4 v.1.length_eq.symm (by rw[av,bv,Nat.min_eq_left kn];rfl);rw[show(failedOf (setArr c _)).isNone=true by show(failedOf c).isNone=true;rw[kp.fa,k2];rfl];refine wpS_pure (q _ (ra.take k++(r.toList++d.drop m)) (kp.kd.trans k1) (kp.fa.trans k2) (kp.pe.trans k4) ?_ (N7 sa sb eb0 eal f1' q2' v));refine e5.trans ?_;rw[cp,cp,cp]
 by_cases c3:ra.length - k<=m
 ·rw[ai c3];exact wpS_bind (AX u z T λr c kp v=>fin r (SortSt.mk' (kindOf st) (arrOf st) (((pendingOf st).setIfInBounds i (L.length,ra.length+d.length,K)).eraseIdxIfInBounds (i+1)) (gallopOf st) (failedOf st)) c z S rfl rfl kp (by rw[F,C]at v;exact v))
 ·rw[ab c3];exact wpS_bind (AY u z T λr c kp v=>fin r (SortSt.mk' (kindOf st) (arrOf st) (((pendingOf st).setIfInBounds i (L.length,ra.length+d.length,K)).eraseIdxIfInBounds (i+1)) (gallopOf st) (failedOf st)) c z S rfl rfl kp (by rw[F,C]at v;exact v))
end
noncomputable def offs:Nat->List (List Keyed)->List (Nat×Nat)
 | _,[]=>[]
 | a,r::rs=>(a,r.length)::offs (a+r.length) rs
theorem oU:∀(a:Nat) (rs ts:List (List Keyed)),offs a (rs++ts)=offs a rs++offs (a+rs.flatten.length) ts
 | a,[],ts=>by simp[offs]
 | a,r::rs,ts=>by show(a,r.length)::offs (a+r.length) (rs++ts)=(a,r.length)::(offs (a+r.length) rs++_);rw[oU (a+r.length) rs ts,List.flatten_cons,av,Nat.add_assoc]
theorem uL:∀(a:Nat) (rs:List (List Keyed)),(offs a rs).length=rs.length
 | _,[]=>rfl
 | a,r::rs=>by show(offs (a+r.length) rs).length+1=rs.length+1;rw[uL]
theorem map_erase {α β:Type}(f:α->β):∀(l:List α) (k:Nat),(l.eraseIdx k).map f=(l.map f).eraseIdx k
 | [],_=>rfl
 | _::_,0=>rfl
 | x::l,k+1=>congrArg (f x :: ·) (map_erase f l k)
noncomputable abbrev two3 (p:Nat×Nat×Nat):Nat×Nat:=(p.1,p.2.1)
structure SI (kf:Keyed->Nat)(κ:SortKind)(a0:Array Keyed)(rs:List (List Keyed))(rest:List Keyed)(st:SortSt):Prop where
 ar:(arrOf st).toList=rs.flatten++rest
 pe:(pendingOf st).toList.map two3=offs 0 rs
 so:∀r∈rs,r≠[]/\r.Pairwise (tJ kf)
 kd:kindOf st=κ
 fa:failedOf st=none
 pm:(arrOf st).Perm a0
section
variable {M:Model}{A:Around}{E:cJ}{s:Shared}{kf:Keyed->Nat}{κ:SortKind}{a0:Array Keyed}{rs:List (List Keyed)}{rest:List Keyed}
theorem SI.many {st:SortSt}(h:SI kf κ a0 rs rest st):(pendingOf st).size=rs.length:=by have:=congrArg List.length h.pe;rw[ae,br,uL]at this;exact this
theorem RS (h:i+1<rs.length):∃r1 ra c d,rs=r1++ra::c::d/\r1.length=i:=by refine⟨rs.take i,rs[i],rs[i+1],rs.drop (i+1+1),?_,by rw[bv];lia⟩;rw[←List.drop_eq_getElem_cons h,←List.drop_eq_getElem_cons (show i<rs.length by lia),List.take_append_drop]
theorem qZ {i:Nat}{st:SortSt}{Q:Bool->SortSt->Prop}(u:qY M A E s kf κ a0)(h:SI kf κ a0 rs rest st)(hi:i+1<rs.length)
  (q:∀c f,SI kf κ a0 f rest c->f.length+1=rs.length->f.flatten.length=rs.flatten.length->Q true c):wpS M A E s (mergeAt' i) Q st:=by
 obtain⟨r1,ra,e,j,rfl,J⟩:=RS hi;have g:offs 0 (r1++ra::e::j)=offs 0 r1++(r1.flatten.length,ra.length)::(r1.flatten.length+ra.length,e.length)::offs (r1.flatten.length+ra.length+e.length) j:=by rw[oU,Nat.zero_add];rfl
 have d:(offs 0 r1).length=i:=by rw[uL,J]
 have m:((pendingOf st).toList.map two3)[i]?=some (r1.flatten.length,ra.length):=by rw[h.pe,g,List.getElem?_append_right (by lia),d,Nat.sub_self];rfl
 have l:((pendingOf st).toList.map two3)[i+1]?=some (r1.flatten.length+ra.length,e.length):=by rw[h.pe,g,List.getElem?_append_right (by lia),d,Nat.add_sub_cancel_left];rfl
 rw[bI,Array.getElem?_toList]at m l;obtain⟨⟨U,T,W⟩,I,F⟩:=Option.map_eq_some_iff.mp m;obtain⟨⟨S,R,G⟩,H,C⟩:=Option.map_eq_some_iff.mp l;cases F;cases C;have B:(arrOf st).toList=r1.flatten++(ra++(e++(j.flatten++rest))):=by rw[h.ar,List.flatten_append,List.flatten_cons,List.flatten_cons];simp only[cp]
 have mem:∀x∈(arrOf st).toList,x∈a0.toList:=λx O=>(Array.perm_iff_toList_perm.mp h.pm).mem_iff.mp O;have sa:=h.so ra (by simp);have sb:=h.so e (by simp);refine yR u h.kd h.fa mem B I H sa.2 sb.2 sa.1 sb.1 λc o N L K v t=>?_;have p:o.length=ra.length+e.length:=by rw[t.1.length_eq,av]
 refine q c (r1++o::j) ⟨?_,?_,λr P=>?_,N,L,?_⟩ ?_ ?_
 ·rw[v,List.flatten_append,List.flatten_cons];simp only[cp]
 ·rw[K,Array.toList_eraseIdxIfInBounds,Array.toList_setIfInBounds,map_erase,List.map_set,h.pe,g,oU,Nat.zero_add];show((offs 0 r1++_).set i (r1.flatten.length,ra.length+e.length)).eraseIdx (i+1)=offs 0 r1++(r1.flatten.length,o.length)::offs (r1.flatten.length+o.length) j;rw[List.set_append_right _ _ (by lia),d,Nat.sub_self,List.eraseIdx_append_of_length_le (by lia),d,Nat.add_sub_cancel_left,p,Nat.add_assoc];rfl
 ·rcases cw.mp P with z|z
  ·exact h.so r (ci _ z)
  ·rcases cu.mp z with rfl|z
   ·exact⟨λw=>sa.1 (List.length_eq_zero_iff.mp (by rw[w]at p;simp at p;lia)),t.2⟩
   ·exact h.so r (bz _ (bc _ (bc _ z)))
 ·refine Array.Perm.trans (Array.perm_iff_toList_perm.mpr ?_) h.pm;rw[v,B,←cp ra];exact((t.1.append_right _).append_left _)
 ·simp only[av,au]
  lia
 ·rw[List.flatten_append,List.flatten_append,List.flatten_cons,List.flatten_cons,List.flatten_cons];simp only[av]
  lia
theorem QM {c:Array Keyed}{lo n:Nat}(h:mU kf c lo n):((c.toList.drop lo).take n).Pairwise (tJ kf):=by
 refine List.pairwise_iff_getElem.mpr λi j hi f m=>?_;have l:j<n:=by rw[bv]at f;lia
 have g:∀k (d:k<((c.toList.drop lo).take n).length),c[lo+k]?=some (((c.toList.drop lo).take n)[k]):=λk d=>by have e:=az d;rw[←e,List.getElem?_take,ai (by rw[bv]at d;lia),List.getElem?_drop,Array.getElem?_toList]
 have:=h i j (Nat.le_of_lt m) l;rw[GM (g i hi),GM (g j f)]at this;exact this
theorem SI.found {st c:SortSt}(h:SI kf κ a0 rs rest st)(r:SR κ a0 (arrOf st) rs.flatten.length st c):SI kf κ a0 rs ((arrOf c).toList.drop rs.flatten.length) c:=by
 refine⟨?_,by rw[r.pe];exact h.pe,h.so,r.kd,r.fa,r.pm⟩;have t:(arrOf c).toList.take rs.flatten.length=rs.flatten:=by
  refine List.ext_getElem? λj=>?_;rw[List.getElem?_take];by_cases z:j<rs.flatten.length
  ·rw[ai z,Array.getElem?_toList,r.pre j z,←Array.getElem?_toList,h.ar,List.getElem?_append_left z]
  ·rw[ab z,List.getElem?_eq_none (by lia)]
 conv=>lhs;rw[←List.take_append_drop rs.flatten.length (arrOf c).toList,t]
theorem GJ {α β:Type}(g:α->β)(f:α->α)(e:∀x,g (f x)=g x):∀(l:List α) (k:Nat),(l.modify k f).map g=l.map g
 | [],k=>by simp
 | x::l,0=>by simp[e]
 | x::l,k+1=>by simp[GJ g f e l k]
theorem mQ (h:n<=rest.length):(rs++[rest.take n]).flatten.length=rs.flatten.length+n:=by rw[List.flatten_append,av,List.flatten_cons,List.flatten_nil,bp,bv,Nat.min_eq_left h]
theorem SI.run {st c:SortSt}{n:Nat}(h:SI kf κ a0 rs rest st)(d:n<=rest.length)(n1:1<=n)(e:(rest.take n).Pairwise (tJ kf))(ar:arrOf c=arrOf st)(kd:kindOf c=kindOf st)(fa:failedOf c=failedOf st)
  (pe:(pendingOf c).toList.map two3=(pendingOf st).toList.map two3++[(rs.flatten.length,n)]):SI kf κ a0 (rs++[rest.take n]) (rest.drop n) c:=by
 refine⟨?_,?_,λr f=>?_,kd.trans h.kd,fa.trans h.fa,by rw[ar];exact h.pm⟩
 ·rw[ar,h.ar,List.flatten_append,List.flatten_cons,List.flatten_nil,bp,cp,List.take_append_drop]
 ·rw[pe,h.pe,oU,Nat.zero_add];show _=offs 0 rs++[(rs.flatten.length,(rest.take n).length)];rw[bv,Nat.min_eq_left d]
 ·rcases cw.mp f with z|z
  ·exact h.so r z
  ·rw[cs.mp z];refine⟨λw=>?_,e⟩;have:=congrArg List.length w;rw[bv,Nat.min_eq_left d,List.length_nil]at this
   lia
theorem P2 {c:Prop}[Decidable c](h:k+1<n):(if c then k - 1 else k)+1<n:=by split <;> lia
theorem F6:∀{rs:List (List Keyed)},(∀r∈rs,r≠[])->rs.length<=rs.flatten.length
 | [],_=>ac _
 | r::rs,h=>by
  have e:=F6 (rs:=rs) λx c=>h x (bc _ c);have d:=List.length_pos_iff.mpr (h r ay);rw[List.flatten_cons,av,au]
  lia
theorem v9 {st:SortSt}{Q:Unit->SortSt->Prop}(C:qY M A E s kf κ a0)(Y:SI kf κ a0 [] a0.toList st)
  (q:∀d,(arrOf d).Perm a0->failedOf d=none->(arrOf d).toList.Pairwise (tJ kf)->Q () d):wpS M A E s sortRuns' Q st:=by
 refine wpS_bind (wpS_get ?_);have z0:(arrOf st).size=a0.size:=Y.pm.size_eq;dsimp only;rw[z0]
 refine wpS_bind (wpS_mono (wpS_forRange (I:=λx c d=>∃rs rest,SI kf κ a0 rs rest d/\c=(none,rs.flatten.length)/\(x<=rs.flatten.length∨rest=[]))
  (Q:=λc d=>∃rs,SI kf κ a0 rs [] d/\c.1=none) ?_ ?_ ⟨[],_,Y,rfl,.inl (ac _)⟩) ?_)
 ·rintro x c m _ xn ⟨rs,rest,i,rfl,K⟩;dsimp only;have sz:rs.flatten.length+rest.length=a0.size:=by have:=i.pm.size_eq;rw[←br,i.ar,av]at this;exact this
  by_cases W:rs.flatten.length ≥ a0.size
  ·rw[ai W];have e:rest=[]:=List.length_eq_zero_iff.mp (by lia);subst e;exact wpS_pure ⟨rs,i,rfl⟩
  rw[ab W];have x1':x<=rs.flatten.length:=K.elim id λz=>by rw[z,List.length_nil]at sz;lia
  refine wpS_bind (wC (a1:=arrOf m) (st0:=m) C ⟨i.pm,i.kd,i.fa,rfl,λ_ _=>rfl⟩ (by lia) (by lia) λn o R2 n1 nn A2=>?_);dsimp only;generalize hn:n=u
  revert u
  refine yS (λu g=>SR κ a0 (arrOf m) rs.flatten.length m g/\1<=u/\u<=a0.size - rs.flatten.length/\mU kf (arrOf g) rs.flatten.length u) ?_ (λZ j=>j8 (wpS_bind (AZ C R2 (by lia) (by lia) A2 λg L X=>?_))) λ_=>⟨R2,n1,nn,A2⟩
  rotate_left
  ·rw[ab (by decide)];exact j _ _ ⟨L,by have c2':n<minRun' a0.size a0.size 0:=Z;change 1<=min _ (minRun' a0.size a0.size 0);lia,Nat.min_le_left _ _,X⟩
  rintro u g ⟨L,G,nX2,X⟩;refine wpS_bind (wpS_get ?_);have J:=i.found L;have lr:((arrOf g).toList.drop rs.flatten.length).length=a0.size - rs.flatten.length:=by rw[bx,br,L.size]
  have N:=QM X;generalize (arrOf g).toList.drop rs.flatten.length=rest3 at J lr N⊢;cases hb:(pendingOf g).back? with
  | none =>
   dsimp only;exact wpS_bind (wpS_modify (wpS_pure ⟨rs++[rest3.take u],rest3.drop u,J.run (by lia) G N rfl rfl rfl (by rw[Array.toList_push,ba];rfl),by rw[mQ (by lia)],.inl (by rw[mQ (by lia)];lia)⟩))
  | some p =>
   obtain⟨s1,n1',o1⟩:=p;dsimp only
   refine wpS_bind (wpS_mono (wpS_forRange (I:=λ_ c d=>c=(none,())/\∃f,SI kf κ a0 f rest3 d/\f.flatten.length=rs.flatten.length)
    (Q:=λc d=>c=(none,())/\∃f,SI kf κ a0 f rest3 d/\f.flatten.length=rs.flatten.length) ?_ (λ_ _ h=>h) ⟨rfl,rs,J,rfl⟩) ?_)
   ·rintro y c w _ _ ⟨rfl,B,F,H⟩;refine wpS_bind (wpS_get ?_);have m4:=F.many;by_cases T:(pendingOf w).size > 1
    ·rw[ai T];obtain⟨R,ep⟩:∃R,(pendingOf w)[(pendingOf w).size - 2]?=some R:=⟨_,Array.getElem?_eq_getElem (by lia)⟩
     rw[ep];obtain⟨o2,o3,o4⟩:=R;dsimp only;refine bB (λ_=>wpS_pure ⟨rfl,B,F,H⟩) λ_=>?_;refine wpS_bind (qZ C F (by rw[m4]at T⊢;lia) λst5 O S5 l5 f5=>?_);rw[ab (by decide)];exact wpS_pure ⟨rfl,O,S5,by lia⟩
    ·rw[ab T];exact wpS_pure ⟨rfl,B,F,H⟩
   ·rintro c w ⟨rfl,B,F,H⟩;dsimp only;refine wpS_bind (wpS_modify (wpS_bind (wpS_modify (wpS_pure ⟨B++[rest3.take u],rest3.drop u,F.run (by lia) G N rfl rfl rfl ?_,by rw[mQ (by lia),H],.inl (by rw[mQ (by lia)];lia)⟩))));rw[Array.toList_push,ba,Array.toList_modify,GJ,H]
    ·rfl
    ·exact λ_=>rfl
 ·rintro c m ⟨rs,rest,i,rfl,K⟩;have sz:rs.flatten.length+rest.length=a0.size:=by have:=i.pm.size_eq;rw[←br,i.ar,av]at this;exact this
  rw[show max 0 a0.size=a0.size by lia]at K;have e:rest=[]:=K.elim (λz=>List.length_eq_zero_iff.mp (by lia)) id;subst e;exact⟨rs,i,rfl⟩
 ·rintro⟨W,Z⟩ m ⟨rs,i,e⟩;cases e;dsimp only;have rl:rs.length<=a0.size:=by
   have:=F6 λr hr=>(i.so r hr).1;have z:=i.pm.size_eq;rw[←br,i.ar,bp]at z
   lia
  refine wpS_bind (wpS_mono (wpS_forRange (I:=λx c d=>c=(none,())/\∃f,SI kf κ a0 f [] d/\(f.length+x<=a0.size∨f.length<=1))
   (Q:=λc d=>c=(none,())/\∃f,SI kf κ a0 f [] d/\f.length<=1) ?_ ?_ ⟨rfl,rs,i,.inl (by lia)⟩) ?_)
  ·rintro y c o _ _ ⟨rfl,t,v,S⟩;refine wpS_bind (wpS_get ?_);have m2:=v.many;by_cases U:(pendingOf o).size<=1
   ·rw[ai U];exact wpS_pure ⟨rfl,t,v,by lia⟩
   ·rw[ab U];refine wpS_bind (qZ C v (by rw[m2]at U⊢;exact P2 (by lia)) λg P J l3 _=>?_);rw[ab (by decide)];exact wpS_pure ⟨rfl,P,J,by lia⟩
  ·rintro c o ⟨rfl,t,v,S⟩;exact⟨rfl,t,v,by lia⟩
  ·rintro c o ⟨rfl,t,v,S⟩;refine wpS_pure (q o v.pm v.fa ?_);rw[v.ar,bp]
   match t,S,v.so with
   | [],_,_=>exact List.Pairwise.nil
   | [r],_,so =>
    rw[List.flatten_cons,List.flatten_nil,bp];exact(so r ay).2
   | _::_::_,l,_=>exact absurd l (by simp)
end
structure T5 {α:Type}(lt:α->α->Bool):Prop where
 irr:∀x,lt x x=false
 tr:∀x y z,lt x y=true->lt y z=true->lt x z=true
 one:∀x y,lt x y=false->lt y x=false->∀z,lt z x=lt z y
noncomputable def rank {α β:Type}(lt:β->β->Bool)(iv:α->β)(l:List α)(x:α):Nat:=l.countP λz=>lt (iv z) (iv x)
section
variable {α β:Type}{lt:β->β->Bool}{iv:α->β}
theorem zD (O:T5 lt):∀(l:List α) {x y:α},lt (iv x) (iv y)=true->rank lt iv l x<=rank lt iv l y/\(x∈l->rank lt iv l x<rank lt iv l y)
 | [],x,y,h=>⟨ac _,λm=>nomatch m⟩
 | z::l,x,y,h=>by
  obtain⟨f,d⟩:=zD O l h;unfold rank at f d⊢;rw[List.countP_cons,List.countP_cons];have step:(if lt (iv z) (iv x)=true then 1 else 0)<=(if lt (iv z) (iv y)=true then 1 else 0):=by
   by_cases c:lt (iv z) (iv x)=true
   ·rw[ai c,ai (O.tr _ _ _ c h)];exact ac _
   ·rw[ab c];exact ax _
  refine⟨Nat.add_le_add f step,λm=>?_⟩;rcases cu.mp m with e|m
  ·subst e;rw[O.irr,h];simp only[Bool.false_eq_true,if_false,if_true]
   lia
  ·exact Nat.add_lt_add_of_lt_of_le (d m) step
theorem BK (O:T5 lt){l:List α}{x y:α}(g:x∈l)(f:y∈l):decide (rank lt iv l x<rank lt iv l y)=lt (iv x) (iv y):=by
 cases c:lt (iv x) (iv y)with
 | true=>exact bi ((zD O l c).2 g)
 | false =>
  refine bo λz=>?_;cases d:lt (iv y) (iv x)with
  | true =>
   have:=(zD O l d).2 f
   lia
  | false =>
   have e:rank lt iv l x=rank lt iv l y:=by unfold rank;congr 1;funext w;exact O.one _ _ c d _
   lia
end
end L2
namespace L2
open PySem PySem.Spec PyProof.Rows
def AR (vs:cS)(ks:List cM):Prop:=ks.length=vs.length/\∀(i:Nat) (k:cM) (v:Value),ks[i]?=some k->vs[i]?=some v->keyIs k v=true/\v.scannable=true
def NK (P:Program)(w:World)(h:Heap)(S:Addr)(ks:List cM)(i:Nat):Prop:=h.SetOf (bW P w) S (λk=>(ks.take i).any λx=>decide (x=k)) i
theorem NK.at (x:NK P w h S ks i)(k:∀o,h.get? S=some o->h'.get? S=some o):NK P w h' S ks i:=by obtain⟨o,c,d,t,e,r⟩:=x;exact⟨o,c,d,t,k _ e,r⟩
local macro_rules | `(tactic| walk_at "sd_on")=>`(tactic| (repeat (any_goals (first | assumption | wp_step))))
section
variable {P:Program}{w:World}{A:Around}
theorem GL {R:Result->Shared->Prop}(h:wpAny (model P w) A.in1 (Builtin.«set.update.loop» ⟨[.ref S,.ref I],[]⟩) (λy d=>match y with | .done f=>R (.ok f) d | .again c=>c.quiet=true/\codeAny (model P w) A c R d) (λe d=>R (.error e) d) s):codeAny (model P w) A (.builtin "set.update.loop" ⟨[.ref S,.ref I],[]⟩) R s :=
 codeAny_builtin F.entry_set_update_loop (by rw[Around.under_plainId F.plain_set_update_loop _];exact h)
theorem KU (X:A.handled=none)(G:AR items ks)(nd:ks.Nodup)(hb:items.length+1<scanBound)(n1:S≠I)(n2:l≠I)(n3:l≠S){R:Result->Shared->Prop} :
  ∀(j i:Nat) (s:Shared),i+j=items.length->s.heap.IsListIter I l i->s.heap.IsList l items.toArray->NK P w s.heap S ks i ->
   (∀h' tk,NK P w h' S ks items.length->(∀b o,b≠S->b≠I->s.heap.get? b=some o->h'.get? b=some o)->R (.ok (.ret .none)) {s with heap:=h',toks:=tk}) ->
   codeAny (model P w) A (.builtin "set.update.loop" ⟨[.ref S,.ref I],[]⟩) R s:=by
 intro j
 induction j with
 | zero =>
  intro i s e it g v B;rw[Nat.add_zero]at e;subst e;refine GL ?_;refine aa (wpAny_pyNext_list_end (A:=A.in1) X it g (by simp) λh' L=>?_);exact ao (B h' s.toks (v.at λo z=>L _ _ n1 z) λb o _ Y z=>L b o Y z)
 | succ j T =>
  intro i s e it g v B;have hi:i<items.length:=by lia
  have J:i<ks.length:=by rw[G.1];exact hi
  obtain⟨is,Q⟩:=G.2 i ks[i] items[i] (az J) (az hi);refine GL ?_;refine aa (wpAny_pyNext_list_item (A:=A.in1) (x:=items[i]) it g (by simp[hi]) λC q d=>?_);have t:NK P w C S ks i:=v.at λo z=>(d.2 S n1).trans z;show wpAny _ A.in1 (holding [items[i]] (setAdd S items[i]) >>= _) _ _ {s with heap:=C};refine aa (cj (show wpAny _ _ (setAdd S items[i]) _ _ _ from ?_));unfold setAdd;refine cj (aa ((bW P w).pyHash (k:=ks[i]) is ?_));refine wpAny_setAddHashed_of (knd:=bW P w) (s:={s with heap:=C,toks:=s.toks+1}) is Q t (by lia) λK c f=>?_;have new:((ks.take i).any λx=>decide (x=ks[i]))=false:=by
   rw[List.any_eq_false];intro x U z;have z:=bu z;obtain⟨m,W,E⟩:=List.mem_iff_getElem.mp U;rw[z]at E;rw[bv]at W;rw[List.getElem_take]at E;have:=(List.getElem_inj nd).mp E
   lia
  rw[new]at f;have Z:(λH=>((ks.take i).any λx=>decide (x=H)) || decide (H=ks[i]))=λk=>(ks.take (i+1)).any λx=>decide (x=k):=by funext k;rw[List.take_succ_eq_append_getElem J,List.any_append,List.any_cons,List.any_nil,Bool.or_false];congr 1;exact decide_eq_decide.mpr eq_comm
  rw[Z]at f;have r:NK P w K S ks (i+1):=f;refine ao ⟨plainId_quiet F.plain_set_update_loop _,T (i+1) {s with heap:=K,toks:=s.toks+1} (by lia) ?_ ?_ r λh' tk u kp=>?_⟩
  ·obtain⟨o,p,h⟩:=q;exact⟨o,(c.2 I n1.symm).trans p,h⟩
  ·obtain⟨o,p,h⟩:=g;exact⟨o,(c.2 l n3).trans ((d.2 l n2).trans p),h⟩
  ·exact B h' tk u λb o N O z=>kp b o N O ((c.2 b N).trans ((d.2 b O).trans z))
theorem JR {E:cJ}{Q:cJ}(I:A.handled=none)(H:s.heap.IsList l items.toArray)(G:AR items ks)(nd:ks.Nodup)(hb:items.length+1<scanBound)
  (h:∀(h':Heap) (tk:Nat),NK P w h' s.heap.objs.size ks items.length->(∀b o,s.heap.get? b=some o->h'.get? b=some o)->Q (.ref s.heap.objs.size) {s with heap:=h',toks:=tk}) :
  wpAny (model P w) A (call (.type "set") [.ref l]) Q E s:=by
 obtain⟨c,tl,U⟩:=F.called_set.mro;have T:=F.called_set.made;have S:=F.called_set.sub;refine wpAny_call (codeAny_of_tree (ao ⟨Code.quiet_builtin _ (by decide +kernel),codeAny_builtin F.entry_type_call ?_⟩));have x:=weight_type_call_type "set" [.ref l] [];rw[Around.under_plain x rfl];have O:=F.called_set.notType;have N:=F.called_set.canCreate;have L:=F.typeCall_set_1 (.ref l)
 walk_at "sd_on"
 refine codeAny_mono (code_set_new_1 (.ref l) (E:=E) (Q₁:=λobj u=>∃d:Bool,obj = .ref s.heap.objs.size/\u={s with heap:=s.heap.push {cls:=.type "set",dict:=none,data:=.set #[] 0 (.fresh 0 0 d)} }) λd=>⟨d,rfl,rfl⟩) λr u i=>?_;cases r with
 | error e=>exact i
 | ok fl =>
  cases fl with
  | next=>exact i.elim
  | brk=>exact i.elim
  | cont=>exact i.elim
  | ret obj =>
   obtain⟨d,rfl,rfl⟩:=i;have v:(s.heap.push {cls:=.type "set",dict:=none,data:=.set #[] 0 (.fresh 0 0 d)}).get? s.heap.objs.size=some {cls:=.type "set",dict:=none,data:=.set #[] 0 (.fresh 0 0 d)}:=aw _ rfl;have z:Shared.TypeIs {s with heap:=s.heap.push {cls:=.type "set",dict:=none,data:=.set #[] 0 (.fresh 0 0 d)} } (.ref s.heap.objs.size) "set":=⟨_,v,rfl⟩
   have i1:=F.called_set.init.lookup;have Z:=F.called_set.init.bind (.ref s.heap.objs.size)
   walk_at "sd_on"
   refine codeAny_mono (codeAny_call_builtin (R:=wants (λr s2=>r = .none/\∃h' tk,s2={s with heap:=h',toks:=tk}/\NK P w h' s.heap.objs.size ks items.length/\∀b o,s.heap.get? b=some o->h'.get? b=some o) E) F.called_set.init.plain F.entry_set_init (check_set_init_1 z ?_)) λC s2 f=>?_
   ·obtain⟨⟨c1,d1,t1,B⟩,ho,m,n1,j⟩:=id H;simp only at m j;subst m j;have ho':=af {cls:=.type "set",dict:=none,data:=.set #[] 0 (.fresh 0 0 d)} ho;have Y:=F.sub_list_set;have X:=F.sub_list_frozenset;have W:(Value.type "list" == Value.type "dict")=false:=by decide
    have hl':(s.heap.push {cls:=.type "set",dict:=none,data:=.set #[] 0 (.fresh 0 0 d)}).IsList l items.toArray:=⟨_,ho',rfl,n1,rfl⟩
    unfold Builtin.«set.__init__» Builtin.Frozenset.updateFrom noKeywords;generalize t:pyIter=PI
    wp_walk
    subst t;refine wpAny_pyIter_list hl' (aa (wpAny_runValue ?_));have lt:=bd ho;have p:(s.heap.push {cls:=.type "set",dict:=none,data:=.set #[] 0 (.fresh 0 0 d)}).objs.size=s.heap.objs.size+1:=Heap.size_push _ _;refine KU (P:=P) (w:=w) (items:=items) (ks:=ks) (l:=l) (by simp[I]) G nd hb (by rw[p];exact bq (Nat.lt_succ_self _)) (by rw[p];exact bq (Nat.lt_succ_of_lt lt)) (bq lt) items.length 0 _ (Nat.zero_add _) ⟨_,aw _ rfl,rfl,rfl⟩ (hl'.push _) ?_ λh' tk g kp=>?_
    ·have K:=af {cls:=.type "list_iterator",data:=.fields #[.ref l,.int 0 0]} v;refine⟨_,#[],0,.fresh 0 0 d,K,⟨rfl,rfl,rfl⟩,rfl,(λe J=>absurd J (by simp)),λk=>?_,(by show 0<scanBound;lia),(by cases d <;> decide),rfl⟩;simp
    ·refine ao (ao ⟨rfl,h',tk,rfl,g,λb o e=>kp b o (bq (bd e)) (by rw[p];exact bq (Nat.lt_succ_of_lt (bd e))) (af _ (af _ e))⟩)
   ·cases C with
    | error e=>exact f
    | ok f2 =>
     cases f2 with
     | next=>exact f.elim
     | brk=>exact f.elim
     | cont=>exact f.elim
     | ret r =>
      obtain⟨rfl,h',tk,rfl,g,q⟩:=f
      walk_at "sd_on"
      exact h _ _ g q
end
noncomputable abbrev C7 (P:Program)(w:World)(a:Addr)(n:Nat):HO:=.ext λh=>∃ks,NK P w h a ks n
theorem N1 (x:NK P w h a ks n):cD P w H h a (C7 P w a n):=by refine⟨⟨ks,x⟩,?_,λf d ⟨c,y⟩ k=>⟨c,y.at λo e=>k o e⟩⟩;obtain⟨o,_,_,_,e,_⟩:=x;exact⟨o,e⟩
theorem ET:∀{d:aT} {us:cS},aR (d.map V.str) us->AR us (d.map Sum.inr):=by
 intro d us h;refine⟨by rw[ae,←h.length,ae],λi k v c g=>?_⟩;rw[bI]at c;cases hs:d[i]? with
 | none=>rw[hs]at c;cases c
 | some x =>
  rw[hs]at c;cases c;obtain⟨u,e,f⟩:=h.get (i:=i) (x:=.str x) (by rw[bI,hs];rfl);rw[g]at e;cases e;obtain⟨t,rfl⟩:=f;exact⟨xS x t,rfl⟩
section
variable {X:Cx}
def rSetT (P:Program)(w:World):List V->Hp->VK->Prop:=λxs H Q=>∃(l:Addr) (ss:aT),xs=[.ref l]/\H l=some (.lst (ss.map V.str))/\ss.Nodup/\ss.length<=100/\∀p,H p=none->Q (.ref p) (upd H p (C7 P w p ss.length))
theorem yE (hc:X.calm=true):cN X (.type "set") (rSetT X.prog X.w):=by
 intro d s σ H xs us Q I g h;obtain⟨l,c,rfl,m,nd,le,q⟩:=h;obtain⟨u,rfl,i⟩:=aR.one g;cases i;obtain⟨its,r,pl,hz⟩:=I.list (eV.of m);have len:its.length=c.length:=by rw[←r.length,ae]
 refine JR (P:=X.prog) (w:=X.w) (I.ok.hd hc) pl.isList (ET r) ((List.pairwise_map.mpr (nd.imp λh e=>h (Sum.inr.inj e)))) (by rw[len];exact aj (Nat.succ_le_succ le) (by decide)) λh' tk f kp=>?_;have j:H s.heap.objs.size=none:=I.hok.fresh (ac _);rw[len]at f;exact⟨.ref s.heap.objs.size,_,I.laid (t':=tk) (o:=C7 X.prog X.w s.heap.objs.size c.length) kp (ac _) (N1 f),rfl,q _ j⟩
def rLenS (P:Program)(w:World):List V->Hp->VK->Prop:=λxs H Q=>∃(a:Addr) (n:Nat),xs=[.ref a]/\H a=some (C7 P w a n)/\Q (.int n) H
theorem yG:cN X (.builtin "len") (rLenS X.prog X.w):=by intro d s σ H xs us Q I e h;obtain⟨a,n,rfl,j,q⟩:=h;obtain⟨u,rfl,f⟩:=aR.one e;cases f;obtain⟨⟨ks,o,l,m,t,ho,c,hd,_,_,hb,i,g⟩,_⟩:=I.hok a _ j;have b1:l.size<4096:=hb;refine call_len_set ho c hd i (by lia) ?_;rw[g];exact⟨.int n,H,I.tok _,⟨_,rfl⟩,q⟩
end
mutual
noncomputable def pdOf:D->PyData
 | .non=>.none
 | .bl b=>.bool b
 | .int i=>.int i
 | .str x=>.str x
 | .tup ds=>.tuple (pdsOf ds)
 | .lst ds=>.list (pdsOf ds)
noncomputable def pdsOf:List D->List PyData
 | []=>[]
 | d::ds=>pdOf d::pdsOf ds
end
mutual
def Tx:D->Prop
 | .str _=>True
 | .tup ds=>Txs ds
 | .lst ds=>Txs ds
 | _=>False
def Txs:List D->Prop
 | []=>True
 | d::ds=>Tx d/\Txs ds
end
mutual
theorem sN:∀{d:D},Tx d->(pdOf d).showable=true/\(pdOf d).hasDict=false/\(pdOf d).depth=depD d
 | .str _,_=>by unfold pdOf PyData.showable PyData.hasDict PyData.depth depD;exact⟨rfl,rfl,rfl⟩
 | .tup ds,h=>by
  unfold Tx at h;obtain⟨a,b,c⟩:=tO h;unfold pdOf PyData.showable PyData.hasDict PyData.depth depD;exact⟨a,b,by rw[c]⟩
 | .lst ds,h=>by
  unfold Tx at h;obtain⟨a,b,c⟩:=tO h;unfold pdOf PyData.showable PyData.hasDict PyData.depth depD;exact⟨a,b,by rw[c]⟩
 | .non,h | .bl _,h | .int _,h=>by unfold Tx at h;exact absurd h id
theorem tO:∀{ds:List D},Txs ds->PyData.showableAll (pdsOf ds)=true/\PyData.hasDictAll (pdsOf ds)=false/\PyData.depthAll (pdsOf ds)=depDs ds
 | [],_=>by unfold pdsOf PyData.showableAll PyData.hasDictAll PyData.depthAll depDs;exact⟨rfl,rfl,rfl⟩
 | d::ds,⟨x,y⟩=>by obtain⟨a,b,c⟩:=sN x;obtain⟨g,f,e⟩:=tO y;unfold pdsOf PyData.showableAll PyData.hasDictAll PyData.depthAll depDs;rw[a,g,b,f,c,e];exact⟨rfl,rfl,rfl⟩
end
section
variable {X:Cx}{pins:cW}{σ:St}{H:Hp}{s:Shared}
mutual
theorem uC (I:aN X pins σ H s):∀{d:D} {v:V} {u:Value},Tx d->aY H d v->aQ v u->∃as,Reads s.heap u (pdOf d) as
 | .str x,v,u,_,h,r=>by
  cases (show v = .str x from h);obtain⟨t,rfl⟩:=r;unfold pdOf;exact⟨_,.str x t⟩
 | .tup ds,v,u,t,h,r=>by
  unfold Tx at t;obtain⟨a,vs,rfl,f,e⟩:=h;cases r;obtain⟨its,c,⟨o,j,i,n,g⟩,_⟩:=I.tuple (iG.of f);obtain⟨as,ra⟩:=lV I t e c;unfold pdOf;exact⟨_,.tuple j i g (by simpa using ra)⟩
 | .lst ds,v,u,t,h,r=>by
  unfold Tx at t;obtain⟨a,vs,rfl,f,e⟩:=h;cases r;obtain⟨its,c,pl,_⟩:=I.list (eV.of f);obtain⟨as,ra⟩:=lV I t e c;obtain⟨o,j,i,n,g⟩:=pl.isList;unfold pdOf;exact⟨_,.list j i g (by simpa using ra)⟩
 | .non,_,_,t,_,_ | .bl _,_,_,t,_,_ | .int _,_,_,t,_,_=>by unfold Tx at t;exact absurd t id
theorem lV (I:aN X pins σ H s):∀{ds:List D} {vs:List V} {us:cS},Txs ds->Reps H ds vs->aR vs us->∃as,ReadsAll s.heap us (pdsOf ds) as
 | [],_,_,_,h,r=>by
  cases (show _=[]from h);cases r;unfold pdsOf;exact⟨_,.nil⟩
 | d::ds,_,_,⟨t1,c⟩,⟨x,vs,e,j,i⟩,r=>by
  subst e;cases r with
  | cons r1 g =>
   obtain⟨as,ra⟩:=uC I t1 j r1;obtain⟨bs,f⟩:=lV I c i g;unfold pdsOf;exact⟨_,.cons ra f⟩
end
def rRepr:List V->Hp->VK->Prop:=λxs H Q=>∃d v,xs=[v]/\aY H d v/\Tx d/\depD d<=50/\(pdOf d).shown.length<=sizeLine/\Q (.str (pdOf d).shown) H
theorem vI (m:X.A.guards=some [])(F:X.A.units+64<cLine):cN X (.builtin "repr") rRepr:=by
 rintro f s σ H xs us Q I r ⟨d,v,rfl,rep,g,C,hz,q⟩;obtain⟨u,rfl,ru⟩:∃u,us=[u]/\aQ v u:=by
  cases r with
  | cons r1 j=>cases j;exact⟨_,rfl,r1⟩
 obtain⟨as,i⟩:=uC I g rep ru;obtain⟨B,p,G⟩:=sN g;have c:∀a,u = .ref a->wpAny (model X.prog X.w) X.A (call (.builtin "repr") [u]) (EP X f σ Q) X.xe s:=λa e=>by subst e;refine repr_of_reads' i B (λz=>by rw[p]at z;cases z) m (by lia) (λb o e=>e) (λh' E tk l=>?_) hz;exact⟨.str (pdOf d).shown,H,I.kept (t':=tk) l,⟨_,rfl⟩,q⟩
 cases d with
 | str x =>
  cases (show v = .str x from rep);obtain⟨t,rfl⟩:=ru;have e:(pdOf (.str x)).shown=reprText x:=by unfold pdOf;exact PyData.shown_str x
  rw[e]at hz q;exact P.repr_of_str (h:=⟨.str (reprText x),H,I.tok _,⟨_,rfl⟩,q⟩) hz
 | tup ds =>
  obtain⟨a,vs,rfl,_⟩:=rep;cases ru;exact c a rfl
 | lst ds =>
  obtain⟨a,vs,rfl,_⟩:=rep;cases ru;exact c a rfl
 | _=>unfold Tx at g;exact absurd g id
end
structure vX (P:Program)(w:World)(K:PySem.W.Frag)(mg:jB)(base:Heap)(CX:AW)(k:Nat)(f:Addr)(fd:FuncData)(ps:aT)(sp:Sp):Prop where
 len:∀vs H Q E,sp vs H Q E->vs.length=ps.length
 run:∀(A:Around) (outer:List Env) (s:Shared) (H:Hp) (args:Args) (us:cS) (vs:List V) (Q:VK) (E:XK),A.guards=some []->dY k A->wL P w K mg base A outer s H->BindsTo s fd args (ps.zip us)->aR vs us->sp vs H Q E ->
  codeAny (model P w) A (.call (.ref f) args) (CR CX outer P w H s Q E) s
theorem fP.okG {P:Program}{w:World}{K:PySem.W.Frag}{mg:jB}{base:Heap}{x c:Str}{st:Stmt}{f:Addr}{R:FuncData}{N ps:aT}{k:Nat}{sp:Sp}(F:fP K x c st f R)(S:aP N ps (aH st))(len:∀vs H Q E,sp vs H Q E->vs.length=ps.length)
  (h:∀(d:Value) (A:Around) (outer:List Env) (s:Shared) (H:Hp) (vs:List V) (Q:VK) (E:XK),A.guards=some []->dY k (A.deeper (envOfC c (aH st) s.heap.objs.size f d))->sp vs H Q E ->
   ∃t,DH (cxOf bJ P w K mg base N c (aH st) f d A outer s H E).nox (cK st) t/\t {nx:=λ_ H'=>Q .non H',rt:=Q} (start N vs) H):vX P w K mg base bJ (k+1) f R ps sp:=by
 obtain⟨oc,od,kV,doc,pm,an,d,ct,osl,rfl,T,L⟩:=F.ex;refine⟨len,λA outer s H args us vs Q E hG G l hb r j=>?_⟩;have Z:=len _ _ _ _ j;have KX:K.In s.heap:=l.mod.kin.keeps λb o e=>(l.bs b o e).1;have B:s.heap.NoLimit:=l.mod.nolimit.keeps λb o e=>(l.bs b o e).1;have g:∀y∈ps.zip us,(aH st).names.lookup y.1=some .local∨((aH st).names.lookup y.1=some .cell/\((cellsFrom (s.heap.objs.size+1) (aH st).names []).lookup y.1).isSome=true):=λ⟨n,v⟩ U=>by
  rcases S.par n (List.of_mem_zip U).1 with q|q
  ·exact .inl q
  ·exact .inr ⟨q,PySem.W.cellsFrom_some _ _ _ (.inl q)⟩
 refine codeAny_call_function G.depth (KX _ _ T) rfl S.co S.gen rfl (PySem.W.codeRec_of KX L) (hb _ _ _ _ ?_);refine wpAny_newFunctionEnv_cells S.kind g λenv he O x=>?_;subst he;refine⟨B.keeps x.toInCall.keep,codeAny_func ?_⟩;obtain⟨t,C,Y⟩:=h d A outer s H vs Q E hG (G.deeper _) j;have X:=C.nox;have I:aN (cxOf bJ P w K mg base N c (aH st) f d A outer s H E) [] (start N vs) H O:=xU S G.hd l Z r x;refine wpAny_mono (X [] O (start N vs) H _ I Y) (λfl p i=>?_) λe p i=>i;have fin:∀{m:St} {H':Hp} {v:V} {u:Value},aN (cxOf bJ P w K mg base N c (aH st) f d A outer s H E) [] m H' p->aQ v u->Q v H'->CE outer P w H s Q u p :=
  λ{m H' v u} J z q=>⟨v,H',J.os,J.bare,J.base,J.hok,z,q⟩
 cases fl with
 | ret u =>
  obtain⟨v,m,H',J,z,q⟩:=i;exact fin J z q
 | next =>
  obtain⟨m,H',J,q⟩:=i;exact fin (v:=V.non) (u:=Value.none) J rfl q
 | brk =>
  obtain⟨_,_,_,q⟩:=i;exact False.elim q
 | cont =>
  obtain⟨_,_,_,q⟩:=i;exact False.elim q
theorem nL {α β:Type}{F:α->β->Prop}:∀{l:List α} {m:List β} {i:Nat} {x:α},Paired F l m->l[i]?=some x->∃y,m[i]?=some y/\F x y
 | _,_,_,_,.nil,h=>by simp at h
 | _,_,0,_,.cons r _,h=>by simp at h;subst h;exact⟨_,rfl,r⟩
 | _,_,i+1,_,.cons _ t,h=>by obtain⟨y,d,c⟩:=nL t (by simpa using h);exact⟨y,by simpa using d,c⟩
section
variable {P:Program}{w:World}{A:Around}{E:cJ}{s:Shared}{it v d:Addr}{o:Obj}{es:Array DictEntry}{i ep:Nat}{ok ov:Value}
theorem E1 {Q:cJ}(t:s.TypeIs (.ref d) "dict")(ns:(d == sysModules)=false)
  (q:∀h',h'.objs.size=s.heap.objs.size+1->(∀b c,s.heap.get? b=some c->h'.get? b=some c)->h'.IsItemsView s.heap.objs.size d->Q (.ref s.heap.objs.size) {s with heap:=h'}):wpAny (model P w) A (call (.builtin "dict.items") [.ref d]) Q E s:=by
 refine wpAny_call_entry F.slot_dict_items t F.entry_dict_items ?_ (F.args_dict_items_1 _);unfold Builtin.«dict.items» Builtin.Dict.noArgs;refine aa (aa (wpAny_notOrdered_dict t (show wpAny _ _ (pure d) _ _ _ from ao ?_)));have no:Builtin.Dict.showsAll d=pure ():=ab (by rw[ns];decide);rw[no];exact aa (ao (aa (cg (ao ⟨_,rfl,q _ (Heap.size_push _ _) (λb c e=>af _ e) ⟨_,aw _ rfl,rfl,rfl⟩⟩))))
theorem E4 {Q:cJ}(f:s.heap.IsItemsView v d)(ho:s.heap.get? d=some o)(hd:o.data = .dict es ep)
  (q:∀h',h'.objs.size=s.heap.objs.size+1->(∀b c,s.heap.get? b=some c->h'.get? b=some c)->IsItemIter h' s.heap.objs.size d 0 es.size ep .none .none->Q (.ref s.heap.objs.size) {s with heap:=h'}):wpAny (model P w) A (pyIter (.ref v)) Q E s:=by
 obtain⟨i,h,j,g⟩:=id f;refine wpAny_pyIter_slot f.typeIs F.slot_dict_items_iter (wpAny_call_entry F.slot_dict_items_iter f.typeIs F.entry_dict_items_iter (show wpAny _ _ (Builtin.«dict_items.__iter__» _) _ _ _ from ?_) (F.args_dict_items_iter_1 _));unfold Builtin.«dict_items.__iter__» Builtin.Dict_items.dictOf Builtin.Dict_items.newIterator;refine aa (ao (aa (aa (wpAny_field h g (x:=.ref d) rfl (ao (aa (aa (wpAny_dictEntries ho hd (aa (wpAny_dictEpoch ho hd ?_))))))))));have tp:Builtin.Dict_items.ownsTuple "dict_itemiterator" = true:=by decide
 simp only[tp,if_true,Bool.false_eq_true,if_false];refine cg (ao ⟨_,rfl,"dict_itemiterator",_,⟨_,aw _ rfl,rfl⟩,F.slot_dict_itemiterator_next.lookup,q _ (Heap.size_push _ _) (λb c e=>af _ e) ?_⟩) ?_
 ·exact(aw _ (by rfl))
 ·simp only[sizeOk,Builtin.Dict_items.ownedTupleFields,ag,av,au,List.length_nil,sizeLine_eq];decide
theorem E3 {Q:Option Value->Shared->Prop}(g:IsItemIter s.heap it d i es.size ep ok ov)(ho:s.heap.get? d=some o)(hd:o.data = .dict es ep)(J:es[i]?=some e)
  (q:∀h',IsItemIterOut h' it d (i+1) es.size ep e.key e.val s.heap.objs.size->h'.get? s.heap.objs.size=some {cls:=.type "tuple",data:=.seq #[e.key,e.val]}->h'.objs.size=s.heap.objs.size+1 ->
   (∀b c,b≠it->s.heap.get? b=some c->h'.get? b=some c)->Q (some (.ref s.heap.objs.size)) {s with heap:=h'}):wpAny (model P w) A (pyNext (.ref it)) Q E s:=by
 have t:s.TypeIs (.ref it) "dict_itemiterator":=⟨_,g,rfl⟩
 have l:it<s.heap.objs.size:=bd g;have tp:Builtin.Dict_items.ownsTuple "dict_itemiterator" = true:=by decide
 unfold pyNext;refine aa (wpAny_attempt (wpAny_callSpecial?_slot (name:=Str.ofString "__next__") t F.slot_dict_itemiterator_next (wpAny_call_entry F.slot_dict_itemiterator_next t F.entry_dict_itemiterator_next ?_ (F.args_dict_itemiterator_next_1 _))));refine aa (ao (aa (aa (aa (wpAny_typeNameOfWhole_itemiter t (ao (aa (wpAny_fieldsOf g rfl ?_))))))));simp only[tp,if_true];dsimp only[List.take,List.drop];rw[ab (show ¬(Value.ref d == Value.none)=true from λz=>nomatch z)];refine aa (ao (aa (wpAny_dictEntries ho hd ?_)));rw[ab (show ¬((es.size:Int) != (es.size:Int))=true by simp)];refine aa (ao (aa (wpAny_dictEpoch ho hd ?_)));rw[ab (show ¬((ep:Int) != (ep:Int))=true by simp)];refine ao ?_;dsimp only;rw[ab (show ¬(i:Int)<0 by lia),cq,J];dsimp only;refine aa (aa (wpAny_typeNameOfWhole_itemiter t (ao (aa (wpAny_isOneOf_itemiter t (aa (wpAny_setField_rec g (show _<8 by rw[tp];decide) λf R I=>?_)))))));have s1':Heap.SameBut it s.heap f:=I;have e1':IsItemIter f it d (i+1) es.size ep ok ov:=by unfold IsItemIter;rw[show((i+1:Nat):Int)=(i:Int)+1 from rfl];exact R
 have t1:Shared.TypeIs {s with heap:=f} (.ref it) "dict_itemiterator":=⟨_,e1',rfl⟩
 refine aa (cj (aa (wpAny_isOneOf_itemiter t1 (aa (wpAny_isOneOf_itemiter t1 ?_)))));rw[ab (by decide)];unfold Builtin.Dict_items.pairFromOwner Builtin.Dict_items.ownedTupleIsFree;refine aa (wpAny_newTuple (show wpAny _ _ _ _ _ {s with heap:=f.push {cls:=.type "tuple",data:=.seq #[e.key,e.val]} }from ?_));have j:f.objs.size=s.heap.objs.size:=s1'.1;rw[j];have h:IsItemIter (f.push {cls:=.type "tuple",data:=.seq #[e.key,e.val]}) it d (i+1) es.size ep ok ov:=af _ e1';have G:(f.push {cls:=.type "tuple",data:=.seq #[e.key,e.val]}).get? s.heap.objs.size=some {cls:=.type "tuple",data:=.seq #[e.key,e.val]}:=j ▸ aw _ rfl;have p:(f.push {cls:=.type "tuple",data:=.seq #[e.key,e.val]}).objs.size=s.heap.objs.size+1:=by rw[Heap.size_push,j]
 have C:∀b c,b≠it->s.heap.get? b=some c->(f.push {cls:=.type "tuple",data:=.seq #[e.key,e.val]}).get? b=some c:=λb c nb z=>af _ (s1'.extBut b c nb z);generalize f.push {cls:=.type "tuple",data:=.seq #[e.key,e.val]}=h2 at h G p C⊢;refine aa (aa (wpAny_field h rfl (x:=.none) rfl (ao ?_)));dsimp only;rw[ai rfl];refine aa (wpAny_field h rfl (x:=ok) rfl (aa (wpAny_field h rfl (x:=ov) rfl (aa (wpAny_setField_rec h (by simp) λU O B=>?_)))));refine aa (wpAny_setField_rec O (by simp) λT N v=>aa (wpAny_setField_rec N (by simp) λS L u=>aa (wpAny_setField_rec L (by simp) λm K r=>?_)));have far:∀b c,b≠it->h2.get? b=some c->m.get? b=some c:=λb c nb z=>r.extBut b c nb (u.extBut b c nb (v.extBut b c nb (B.extBut b c nb z)));have H:m.objs.size=s.heap.objs.size+1:=r.1.trans (u.1.trans (v.1.trans (B.1.trans p)));exact aa (wpAny_letGo (ao (ao ⟨_,rfl,ao (q m K (far _ _ (Nat.ne_of_gt l) G) H λb c nb z=>far b c nb (C b c nb z))⟩)))
theorem E2 {Q:Option Value->Shared->Prop}(f:A.handled=none)(c:IsItemIter s.heap it d i es.size ep ok ov)(ho:s.heap.get? d=some o)(hd:o.data = .dict es ep)(hi:es.size<=i)
  (q:∀h',Heap.ExtBut it s.heap h'->Q none {s with heap:=h'}):wpAny (model P w) A (pyNext (.ref it)) Q E s:=by
 have t:s.TypeIs (.ref it) "dict_itemiterator":=⟨_,c,rfl⟩
 have tp:Builtin.Dict_items.ownsTuple "dict_itemiterator" = true:=by decide
 unfold pyNext;refine aa (wpAny_attempt (wpAny_callSpecial?_slot (name:=Str.ofString "__next__") t F.slot_dict_itemiterator_next (wpAny_call_entry F.slot_dict_itemiterator_next t F.entry_dict_itemiterator_next ?_ (F.args_dict_itemiterator_next_1 _))));refine aa (ao (aa (aa (aa (wpAny_typeNameOfWhole_itemiter t (ao (aa (wpAny_fieldsOf c rfl ?_))))))));simp only[tp,if_true];dsimp only[List.take,List.drop];rw[ab (show ¬(Value.ref d == Value.none)=true from λz=>nomatch z)];refine aa (ao (aa (wpAny_dictEntries ho hd ?_)));rw[ab (show ¬((es.size:Int) != (es.size:Int))=true by simp)];refine aa (ao (aa (wpAny_dictEpoch ho hd ?_)));rw[ab (show ¬((ep:Int) != (ep:Int))=true by simp)];refine ao ?_;dsimp only;rw[ab (show ¬(i:Int)<0 by lia),cq,Array.getElem?_eq_none hi];dsimp only;refine aa (aa (wpAny_typeNameOfWhole_itemiter t (ao (aa (wpAny_setField_rec c (show _<8 by rw[tp];decide) λg h e=>?_)))))
 wp_walk
 refine wpAny_raiseNew_none f (aa (wpAny_isInstance (b:=true) ⟨_,aw _ rfl,rfl⟩ isSubtype_stop (ao (q _ ?_))));exact(e.extBut.push _).push _
end
noncomputable def layKV (f c:Expr)(e:Value)(env:Env):Sem Unit:=eval f env >>= λa=>holding [a] (eval c env) >>= λb=>match e with
 | .ref d=>standAt {f.pos with endLine:=c.pos.endLine,endCol:=c.pos.endCol} >>= λ_=>holding [a,b] (dictSet d a b)
 | _=>unsupported "internal:dictcomp"
theorem G9 (h f g iter:Expr)(c:pO)(scope:Scope)(e:Pos)(it d:Value)(env:Env) :
  compTurn (.DictComp h f [⟨g,iter,c,0⟩] scope e) 0 it d env=nI iter.pos it g env (layOn c (layKV h f d env) env (.compLoop (.DictComp h f [⟨g,iter,c,0⟩] scope e) 0 it d env)):=rfl
section
variable {β:Type}{F:Heap->Addr->β->Prop}{e0:β}{mk:Sem Value}{ce:Expr}{cls:List Comprehension}
variable {X:Cx}{scope:Scope}{N':aT}{src:List (Option Nat)}{pins:cW}{σ:St}{H₂:Hp}{s₂:Shared}{fp:List Addr}{it:Addr}{tn:NG}{J:It}{tg iter:Expr}{ifs:pO}{g:TG}{tt:TT}{tl:β->St->Hp->(β->Hp->Prop)->Prop}
theorem C2 {W:NO β}{Fin:β->Hp->Prop}{RR:Value->Addr->Result->Shared->Prop}{E:cJ}{lay:Value->Env->Sem Unit}{obj:Addr->β->HO}{ps:Pos}(hF:NI F)(l:DE F e0 X.prog X.w X.A mk)(v:NP ce)(p:clausesOf ce=⟨tg,iter,ifs,0⟩::cls)(hb:∀it c env,compTurn ce 0 it c env=nI ps it tg env (layOn ifs (lay c env) env (.compLoop ce 0 it c env)))
  (hok:∀H h D c,(D == sysModules)=false->H D=none->F h D c->Fin c H->cD X.prog X.w (upd H D (obj D c)) h D (obj D c))
  (S:bF X scope N' src) (u:aN X pins σ H₂ s₂) (T:∀C,yM (blk X scope N' C s₂ H₂ fp) tg J fp it tn) (e:tn 0 s₂.heap) (x:∀b∈fp,fC X pins H₂ b)
  (Z:∀C,PG (blk X scope N' C s₂ H₂ fp) tg g) (Q:∀C,RF (blk X scope N' C s₂ H₂ fp) ifs tt) (U:∀C D c,NJ F (blk X scope N' C s₂ H₂ fp) D (lay (.ref D) (blk X scope N' C s₂ H₂ fp).env) (tl c) c)
  (G:∃m,W 0 m e0 (stC src σ) H₂) (turn:vZ J g tt tl Fin W)
  (q:∀D C f H' c,s₂.heap.objs.size<=C->H' C=none->D≠C->(∃m,f.heap.Ns C m)->aN X pins σ (upd H' D (obj D c)) f->H' D=none->Fin c H'->RR (.ref D) C (.ok .next) f) :
  wpAny (model X.prog X.w) X.A mk (λc L=>wpAny (model X.prog X.w) X.A (newFunctionEnv scope X.env.globals (closL X.env.cells scope.names []) [] X.env.qual none .none (some X.env)) (λd K =>
   codeAny (model X.prog X.w) X.A (.compStart ce 0 (.ref it) c {d with scope:=relabel scope X.env}) (RR c d.locals) K) E L) E s₂:=by
 refine rL l v p S u T e x λD C t B=>?_;obtain⟨m,b⟩:=B.betw W G;have P:(D == sysModules)=false:=by have:=u.big;rw[B.at_]at this;exact cy.mpr (Nat.ne_of_gt this)
 refine uQ v (hb ..) (FO F (blk X scope N' C s₂ H₂ fp) [] D fp tn W) (λn s b=>?_) m b;refine(x6 (Y:=blk X scope N' C s₂ H₂ fp) hF (λ_ _ z=>z) (T C) B.place (Z C) turn (λs σc H c I r R fin=>?_) n s b).mono (λ_ z=>z) ?_
 ·obtain⟨o1,o2,O⟩:=B.out u x I r (hok _ _ _ _ P r R fin);exact q D C s H c B.le o1 B.ne o2 O r fin
 ·rintro t ⟨i,c,o,more,σ3,H3,j,I3,N⟩;exact DG.go (CB (W:=W) (λ_ _ z=>z) B.place (T C) (Q C) (U C D c) j I3 N)
end
section
variable {β:Type}{J:It}{g:TG}{tt:TT}{te:TE}{tb:TS}{D:jD}{tl:β->St->Hp->(β->Hp->Prop)->Prop}{Fin:β->Hp->Prop}{σ:St}{H:Hp}{e0:β}
theorem P7 {n:Nat}(Pv:Nat->St->Hp->Prop)(e:Pv 0 σ H)(d:∀i σ H,i<n->Pv i σ H->J.go i H/\∀x H',J.yld i H x H'->g x σ H' λc f=>tb {D with nx:=Pv (i+1),ct:=Pv (i+1),bk:=D.nx} c f)
  (hd:∀σ H,Pv n σ H->J.stop n H/\D.nx σ H):sI J g tb D σ H:=by
 refine⟨λi m σ H=>m=n - i/\i<=n/\Pv i σ H,⟨n,by simp,ax _,e⟩,?_⟩;rintro i m σ H ⟨rfl,hi,p⟩;by_cases lt:i<n
 ·obtain⟨go,step⟩:=d i σ H lt p;exact .inr ⟨go,Pv (i+1),λh H' q=>⟨n - (i+1),by lia,rfl,lt,q⟩,step⟩
 ·obtain rfl:i=n:=by lia
  exact .inl (hd σ H p)
theorem KG {n:Nat}(Pv:Nat->β->St->Hp->Prop)(l:Pv 0 e0 σ H)
  (j:∀i c σ H,i<n->Pv i c σ H->J.go i H/\∀x H',J.yld i H x H'->g x σ H' λd r=>tt d r λb h=>if b=true then tl c d h λa o=>Pv (i+1) a d o else Pv (i+1) c d h)
  (hd:∀c σ H,Pv n c σ H->J.stop n H/\Fin c H):∃W:NO β,(∃m,W 0 m e0 σ H)/\vZ J g tt tl Fin W:=by
 refine⟨λi m c σ H=>m=n - i/\i<=n/\Pv i c σ H,⟨n,by simp,ax _,l⟩,?_⟩;rintro i m c σ H ⟨rfl,hi,p⟩;by_cases lt:i<n
 ·obtain⟨go,step⟩:=j i c σ H lt p;refine .inr ⟨go,λx H' y=>?_⟩;have e:∀c σ H,(∃f,f<n - i/\f=n - (i+1)/\i+1<=n/\Pv (i+1) c σ H)=Pv (i+1) c σ H:=λc σ H=>propext ⟨λz=>z.choose_spec.2.2.2,λq=>⟨n - (i+1),by lia,rfl,lt,q⟩⟩;simp only[e];exact step x H' y
 ·obtain rfl:i=n:=by lia
  exact .inl (hd c σ H p)
end
section
variable {β:Type}{F:Heap->Addr->β->Prop}{e0:β}{mk:Sem Value}{ce:Expr}{cls:List Comprehension}{ob:HO}
variable {X:Cx}{scope:Scope}{N':aT}{src:List (Option Nat)}{pins:cW}{σ:St}{H₂:Hp}{s₂:Shared}{fp:List Addr}{it:Addr}{tn:NG}{J:It}{tg iter:Expr}{ifs:pO}
variable {g:TG}{tt:TT}{tl:β->St->Hp->(β->Hp->Prop)->Prop}
end
noncomputable def wD (P:Program)(w:World)(a:Addr)(o:Obj)(c:List (cM×V)):HO:=.ext λh=>h.get? a=some o/\cD P w (λ_=>none) h a (.dK c)
section
variable {P:Program}{w:World}{H:Hp}{h:Heap}{a:Addr}{o:Obj}{kvs:List (cM×V)}{es:Array DictEntry}{ep:Nat}
theorem UG (e:h.get? a=some o)(k:cD P w H h a (.dK kvs)):cD P w H' h a (wD P w a o kvs) :=
 ⟨⟨e,k⟩,⟨o,e⟩,λl j ⟨c,z,y,vs,r,d,f,i,g,rest⟩ k=>⟨k _ c,z,y,vs,r,d,f,i,k _ g,rest⟩⟩
theorem Q2 (ok:gQ P w H h)(e:H a=some (wD P w a o kvs)):h.get? a=some o/\cD P w H h a (.dK kvs):=(ok a _ e).1
theorem MH (h:(bW P w).is k u=true):aQ (kV k) u:=by
 rcases cX ((EJ P w k u).symm.trans h)with⟨i,t,rfl,rfl⟩|⟨x,t,rfl,rfl⟩
 ·exact⟨t,rfl⟩
 ·exact⟨t,rfl⟩
theorem M3 (r:KV kvs vs)(p:Pairs (bW P w) es.toList vs):es.size=kvs.length/\∀(i:Nat) (k:cM) (v:V),kvs[i]?=some (k,v)->∃y:DictEntry,es[i]?=some y/\aQ (kV k) y.key/\aQ v y.val:=by
 have l:es.size=vs.length:=by rw[←p.length,br]
 refine⟨l.trans (Paired.length r).symm,λi k v g=>?_⟩;obtain⟨⟨m,u⟩,c,f,d⟩:=nL r g;cases f;have hi:i<es.size:=by rw[l];exact(cr.mp c).1
 obtain⟨j,h⟩:=p.get? (i:=i) (e:=es[i]) (by rw[Array.getElem?_toList];exact Array.getElem?_eq_getElem hi) c;exact⟨es[i],Array.getElem?_eq_getElem hi,MH j,by rw[h];exact d⟩
theorem Q3 (ok:gQ P w H h)(e:H a=some (wD P w a o kvs))(hd:o.data = .dict es ep):h.get? a=some o/\es.size=kvs.length/\∀(i:Nat) (k:cM) (v:V),kvs[i]?=some (k,v)->∃y:DictEntry,es[i]?=some y/\aQ (kV k) y.key/\aQ v y.val:=by obtain⟨f,_,_,vs,r,m,j,l,d,_,c,_,g,_⟩:=Q2 ok e;rw[f]at d;cases d;rw[hd]at c;cases c;exact⟨f,M3 r g⟩
end
section
variable {X:Cx}{pins:cW}{σ:St}{H:Hp}{s:Shared}{a:Addr}{kvs:List (cM×V)}
theorem aN.walkD (I:aN X pins σ H s)(e:H a=some (.dK kvs)):∃o d f,s.heap.get? a=some o/\o.data = .dict d f/\aN X pins σ (upd H a (wD X.prog X.w a o kvs)) s:=by
 obtain⟨z,y,vs,r,o,d,f,c,h,g,rest⟩:=(show cD X.prog X.w H s.heap a (.dK kvs)from I.hok a _ e)
 exact⟨o,d,f,c,g,tG (t':=s.toks) I (by rw[e];trivial) ⟨rfl,λ_ _=>rfl⟩ ⟨o,c⟩ (UG (H:=H) c ⟨z,y,vs,r,o,d,f,c,h,g,rest⟩)⟩
theorem aN.melt {o:Obj}(I:aN X pins σ H s)(e:H a=some (wD X.prog X.w a o kvs)):aN X pins σ (upd H a (.dK kvs)) s:=by obtain⟨g,k⟩:=Q2 I.hok e;exact tG (t':=s.toks) I (by rw[e];trivial) ⟨rfl,λ_ _=>rfl⟩ ⟨o,g⟩ k
end
def NH (P:Program)(w:World)(H H':Hp):Prop:=H'=H∨∃a o c,H a=some (wD P w a o c)/\H'=upd H a (.dK c)
theorem aN.melts {X:Cx}{c:cW}{σ:St}{H H':Hp}{s:Shared}(I:aN X c σ H s)(m:NH X.prog X.w H H'):aN X c σ H' s:=by
 rcases m with rfl|⟨a,o,d,e,rfl⟩
 ·exact I
 ·exact I.melt e
def tMelt (P:Program)(w:World)(t:TE):TE:=λσ H Q=>t σ H λv d=>∃c,NH P w d c/\Q v c
theorem F9 (h:PE X e t):PE X e (tMelt X.prog X.w t):=λc s σ H Q I q =>
 thn (h c s σ H _ I q) λ_ _ ⟨v,H',f,r,g,m,d⟩=>⟨v,g,f.melts m,r,d⟩
def sMelt (P:Program)(w:World)(t:TS):TS:=λD σ H=>t {D with nx:=λσ d=>∃c,NH P w d c/\D.nx σ c} σ H
theorem OF {X:Cx}{st:Stmt}{t:TS}(h:PS X st t):PS X st (sMelt X.prog X.w t):=λc s σ H D I q =>
 thn (h c s σ H _ I q) λfl i z=>by
  cases fl with
  | next =>
   obtain⟨d,H',f,g,m,e⟩:=z;exact⟨d,g,f.melts m,e⟩
  | ret u=>exact z
  | brk=>exact z
  | cont=>exact z
noncomputable def U8 (P:Program)(w:World)(a:Addr)(o:Obj)(c:List (cM×V)):It :=
 ⟨λi H=>H a=some (wD P w a o c)/\i<c.length,λi H x H'=>∃T k v,c[i]?=some (k,v)/\x = .ref T/\H T=none/\H'=upd H T (.tup [kV k,v]),λi H=>H a=some (wD P w a o c)/\c.length<=i⟩
theorem A7 {P:Program}{w:World}{K:PySem.W.Frag}{j:pO}{tk0}{g:Pos}(a it:Addr)(o:Obj)(x:Array DictEntry)(B:Nat)(d:List (cM×V))(hd:o.data = .dict x B) :
  pF P w K (.Tuple j tk0 g) (U8 P w a o d) [it] it (λi h=>∃ok f,IsItemIter h it a i x.size B ok f) where
 mem:=cs.mpr rfl
 obj:=λi h ⟨ok,f,st⟩ b hb=>by rw[cs.mp hb];exact⟨_,st,λv z=>nomatch z⟩
 keep:=λi h h' ⟨ok,f,st⟩ k=>⟨ok,f,k it (cs.mpr rfl) _ st⟩
 item:=by
  rintro X r m t hc i e s σ H E I l st ⟨p,hi⟩;subst r m t;obtain⟨ok,f,st⟩:=st;obtain⟨u,S,C⟩:=Q3 I.hok p hd;obtain⟨y,N,J,G⟩:=C i d[i].1 d[i].2 (az hi);obtain⟨f0,f1,f2,f3,f4,Z⟩:=l it (cs.mpr rfl);refine E3 st u hd N λh' a1 a2 a3 U=>⟨_,rfl,wpAny_letOwnedTupleGo_items (s:={s with heap:=h'}) a1 λR T F=>?_⟩
  have lt:s.heap.objs.size≠it:=Nat.ne_of_gt (bd st);have Y:aN X e σ (upd H s.heap.objs.size (.tup [kV d[i].1,d[i].2])) {s with heap:=R}:=I.turnedLaid (t':=s.toks) (ch:=[it]) (λc L hc z=>F.extBut _ _ (λq=>hc (cs.mpr q)) (U c L (λq=>hc (cs.mpr q)) z)) l (ac _)
   ⟨show 2<=sizeLine by decide,[_,_],.cons J (.cons G .nil),⟨_,F.extBut _ _ lt a2,rfl,_,rfl⟩⟩
  refine⟨.ref s.heap.objs.size,_,Y,rfl,⟨s.heap.objs.size,d[i].1,d[i].2,az hi,rfl,I.hok.fresh (ac _),rfl⟩,⟨_,_,T⟩,λc hc=>?_⟩;rw[cs.mp hc,aC lt.symm];exact f0
 done:=by rintro X r m t hc i e s σ H E I l st ⟨p,hi⟩;subst r m t;obtain⟨ok,f,st⟩:=st;obtain⟨u,S,C⟩:=Q3 I.hok p hd;exact E2 (I.ok.hd hc) st u hd (by lia) λh' O=>⟨rfl,I.turnedL (t':=s.toks) (ch:=[it]) (λc o hc z=>O c o (λq=>hc (cs.mpr q)) z) l⟩
 self:=λA i s Q E ⟨ok,f,st⟩ h=>PySem.W.kcp_self st h
def P3 (P:Program)(w:World)(e:TE):TI:=λσ H R=>e σ H λx d=>∃a c,x = .ref a/\d a=some (.dK c)/\∀o,R (U8 P w a o c) (upd d a (wD P w a o c))
section
variable {X:Cx}{elts:pO}{tk0:_}{tpos apos cpos:Pos}{o:Expr}{to:TE}
theorem qB (ho:PE X o to)(f:attributeBase o "items" X.env (eval o X.env)=eval o X.env:=by rfl)(d:(apos.endLine == cpos.line)=true:=by rfl) :
  PI X (.Tuple elts tk0 tpos) (.Call (.Attribute o "items" apos) [] [] cpos) (P3 X.prog X.w to):=by
 intro g s σ H R I h;refine wpAny_Call_method (T:="dict") (id:="dict.items") f rfl d F.plainAttrs_dict F.slot_dict_items F.type_dict_items (thn (ho g s σ H _ I h) λu j ⟨x,L,v,B,a,i,ex,e,q⟩=>?_);subst ex;cases B;obtain⟨t1,A,t3⟩:=E6 v (.inl ⟨i,.inl e⟩);obtain⟨m,E,G,J,t,l⟩:=v.walkD e;refine⟨t1,A,?_⟩;show wpAny _ _ (callWith cpos (.builtin "dict.items") [.ref a] [] []) _ _ j;refine Calls.callWith_builtin rfl (PySem.evalArgs_none (E1 t1 t3 λr z p iv=>?_));refine E4 (s:={j with heap:=r}) iv (p _ _ J) t λh' K C st=>?_;have le:j.heap.objs.size<=r.objs.size:=by rw[z];exact Nat.le_succ _
 refine⟨_,[_],_,_,_,rfl,l.kept (t':=j.toks) λb u e=>C b u (p b u e),A7 a _ m E G i t,⟨_,_,st⟩,λc hc=>?_,q m⟩;rw[cs.mp hc];exact l.fpOk le (l.hok.fresh le)
end
section
variable {β:Type}{g:TG}{tt:TT}{te:TE}{tb:TS}{D:jD}{tl:β->St->Hp->(β->Hp->Prop)->Prop}{Fin:β->Hp->Prop}{σ:St}{H:Hp}{e0:β}{P:Program}{w:World}{a:Addr}{o:Obj}{kvs:List (cM×V)}
theorem CP (Pv:Nat->St->Hp->Prop)(j:Pv 0 σ H)(c:∀i σ H,Pv i σ H->H a=some (wD P w a o kvs))
  (f:∀i k v T σ H,kvs[i]?=some (k,v)->Pv i σ H->H T=none->g (.ref T) σ (upd H T (.tup [kV k,v])) λd l=>tb {D with nx:=Pv (i+1),ct:=Pv (i+1),bk:=D.nx} d l)
  (hd:∀σ H,Pv kvs.length σ H->D.nx σ H):sI (U8 P w a o kvs) g tb D σ H :=
 P7 (n:=kvs.length) Pv j (λi σ H lt p=>⟨⟨c i σ H p,lt⟩,λx H' y=>by
  obtain⟨T,k,v,e,rfl,h,rfl⟩:=y
  exact f i k v T σ H e p h⟩) λσ H p=>⟨⟨c _ σ H p,ac _⟩,hd σ H p⟩
theorem n6 (Pv:Nat->β->St->Hp->Prop)(q:Pv 0 e0 σ H)(f:∀i c σ H,Pv i c σ H->H a=some (wD P w a o kvs))
  (j:∀i k v T c σ H,kvs[i]?=some (k,v)->Pv i c σ H->H T=none->g (.ref T) σ (upd H T (.tup [kV k,v])) λd s=>tt d s λb h=>if b=true then tl c d h λa r=>Pv (i+1) a d r else Pv (i+1) c d h)
  (hd:∀c σ H,Pv kvs.length c σ H->Fin c H):∃W:NO β,(∃m,W 0 m e0 σ H)/\vZ (U8 P w a o kvs) g tt tl Fin W :=
 KG (n:=kvs.length) Pv q (λi c σ H lt p=>⟨⟨f i c σ H p,lt⟩,λx H' y=>by
  obtain⟨T,k,v,e,rfl,l,rfl⟩:=y
  exact j i k v T c σ H e p l⟩) λc σ H p=>⟨⟨f _ c σ H p,ac _⟩,hd c σ H p⟩
end
def T9 (P:Program)(w:World)(h:Heap)(a:Addr)(c:List (cM×V)):Prop:=c.length<=sizeLine/\∃vs,KV c vs/\h.DictOf (bW P w) a vs
theorem JM:NI (T9 P w):=by rintro h a i ⟨z,vs,r,o,c,f,e,x,d,q⟩;exact⟨o,e,λv k=>(by rw[d]at k;cases k),λh' g=>⟨z,vs,r,o,c,f,g,x,d,q⟩⟩
theorem EM:DE (T9 P w) [] P w A newDict:=λ_ _ _ q=>cg (q _ rfl λ_ e=>⟨ax _,[],.nil,_,_,_,e,⟨rfl,rfl,rfl⟩,rfl,λ_ z=>absurd z (by simp),.nil,List.nodup_nil⟩)
def tlDK (tk d:TE)(c:List (cM×V)):St->Hp->(List (cM×V)->Hp->Prop)->Prop:=λσ H N=>tk σ H λy f=>d σ f λv e=>∃k,y=kV k/\c.length<sizeLine/\N (putK c k v) e
theorem IX {Y:Cx}{D:Addr}{h f:Expr}{tk g:TE}{c:List (cM×V)}(i:∀e s,¬Y.xe e s)(J:PE Y h tk)(F:PE Y f g):NJ (T9 Y.prog Y.w) Y D (layKV h f (.ref D) Y.env) (tlDK tk g c) c:=by intro E pl o σ H t N I G K q;refine aa (wpAny_mono (J _ t σ H _ I q) (λy t1 ⟨S,R,P,r1,x⟩=>?_) λe t z=>(i e t z).elim);refine aa (cj (wpAny_mono (F _ t1 σ R _ P x) (λv m ⟨l,Q,j,u,k,C,sm,w⟩=>?_) λe t z=>(i e t z).elim));subst C;obtain⟨_,vs,r,O⟩:=K _ (j.pin (D,o) (bz _ G)).1;have B:vs.length=c.length:=(Paired.length r).symm;refine aa (wpAny_standAt (cj (wpAny_dictSet_pairs (A:=Y.A) (hsz:=by rw[B];exact Nat.le_of_lt sm) (oZ r1) O λL d p=>?_)));exact⟨m,L,_,Q,_,rfl,j,p,⟨by have:=jO c k l;lia,_,r.put k u,d⟩,w⟩
def RY (src:List (Option Nat))(d:TI)(g:TG)(f:TT)(tk e:TE):TE:=λσ H Q=>d σ H λJ h=>∃W:NO (List (cM×V)),(∃m,W 0 m [] (stC src σ) h)/\vZ J g f (tlDK tk e) (λc H=>∀p,H p=none->Q (.ref p) (upd H p (.dK c))) W
theorem oS (hc:X.calm=true)(S:bF X scope N' src)(hi:PI X tg iter wi)(r:∀C s H fp,PG (blk X scope N' C s H fp) tg g)(o:∀C s H fp,RF (blk X scope N' C s H fp) ifs tt)(q:∀C s H fp,PE (blk X scope N' C s H fp) kx tk)(m:∀C s H fp,PE (blk X scope N' C s H fp) vx tv)
  (p:∀x,foldedSetIterable iter X.env x=pure x:=by intro _;rfl):PE X (.DictComp kx vx [⟨tg,iter,ifs,0⟩] scope pos) (RY src wi g tt tk tv):=by
 intro e s σ H Q I h;change wpAny _ _ (comprehension (.DictComp kx vx [⟨tg,iter,ifs,0⟩] scope pos) scope X.env iter.pos newDict false (eval iter X.env)) _ _ s;refine qS rfl S hi p I h λd H₂ it fp A J i T st f ⟨W,j,turn⟩=>?_;exact C2 (lay:=layKV kx vx) (tl:=tlDK tk tv) (obj:=λ_ c=>.dK c) JM EM (.dct ..) rfl (G9 kx vx tg iter ifs scope pos) (λ_ _ _ _ l _ f _=>⟨f.1,l,f.2⟩) S i (λC=>pF.y (Y:=blk X scope N' C d H₂ fp) T hc) st f (λC=>r C d H₂ fp) (λC=>o C d H₂ fp) (λC D c=>IX (λ_ _ z=>z) (q C d H₂ fp) (m C d H₂ fp)) j turn λD C B H' c a1 a2 w v u t fin=>CU i a1 a2 w v u (fin D t)
end L2
namespace L2
open PySem
variable {X:Cx}
end L2
namespace L2
open PySem PySem.Spec PyProof.Rows
def dM (H:Hp)(ds:List (cM×D))(c:List (cM×V)):Prop:=Paired (λ(d:cM×D) (v:cM×V)=>d.1=v.1/\aY H d.2 v.2) ds c
theorem dM.same (h:dM H ds kvs)(s:aG H H'):dM H' ds kvs:=Paired.mapP h λ_ _ z=>⟨z.1,aY.same s z.2⟩
noncomputable def keyPd:cM->PyData
 | .inl i=>.int i
 | .inr x=>.str x
noncomputable def kvPd (ds:List (cM×D)):List (PyData×PyData):=ds.map λp=>(keyPd p.1,pdOf p.2)
noncomputable def eZ (ds:List (cM×D)):Str:=dictText (PyData.shownKv (kvPd ds))
def UU (ds:List (cM×D)):Prop:=∀p∈ds,(∃x,p.1 = .inr x)/\Tx p.2/\depD p.2<=50
theorem A4:∀{ds:List (cM×D)},UU ds->(PyData.showableAll ((kvPd ds).map (·.1))=true/\PyData.hasDictAll ((kvPd ds).map (·.1))=false)/\PyData.showableAll ((kvPd ds).map (·.2))=true/\PyData.hasDictAll ((kvPd ds).map (·.2))=false
 | [],_=>⟨⟨rfl,rfl⟩,rfl,rfl⟩
 | (k,d)::ds,h=>by obtain⟨⟨a,b⟩,c,e⟩:=A4 (ds:=ds) λp g=>h p (bc _ g);obtain⟨⟨x,rfl⟩,t,_⟩:=h (k,d) ay;obtain⟨t1,f,_⟩:=sN t;simp only[kvPd,bf,PyData.showableAll,PyData.hasDictAll,keyPd,PyData.showable,PyData.hasDict,t1,f];exact⟨⟨a,b⟩,c,e⟩
theorem vC:∀{ds:List (cM×D)},UU ds->PyData.depthKv (kvPd ds)<=51
 | [],_=>ax _
 | (k,d)::ds,h=>by
  have g:=vC (ds:=ds) λp f=>h p (bc _ f);obtain⟨⟨x,rfl⟩,t,c⟩:=h (k,d) ay;obtain⟨_,_,t3⟩:=sN t;have d50':depD d<=50:=c;have e:PyData.depthKv (kvPd ((Sum.inr x,d)::ds))=max (max (PyData.depth (.str x)) (pdOf d).depth) (PyData.depthKv (kvPd ds)):=by rw[show kvPd ((Sum.inr x,d)::ds)=(.str x,pdOf d)::kvPd ds from rfl,PyData.depthKv]
  rw[e,t3,PyData.depth]
  lia
section
variable {X:Cx}{pins:cW}{σ:St}{H:Hp}{s:Shared}
theorem HR (I:aN X pins σ H s){ds:List (cM×D)}{c:List (cM×V)}{vs:List (cM×Value)}{f:List DictEntry}(h:UU ds)(r:dM H ds c)(i:KV c vs)(g:Pairs (bW X.prog X.w) f vs) :
  (∃as,ReadsAll s.heap (f.map (·.key)) ((kvPd ds).map (·.1)) as)/\∃bs,ReadsAll s.heap (f.map (·.val)) ((kvPd ds).map (·.2)) bs:=by
 induction r generalizing vs f with
 | nil=>cases i;cases g;exact⟨⟨_,.nil⟩,_,.nil⟩
 | @cons kd _ ds _ a1 t1 o =>
  cases i with|cons a2 t2 =>
  cases g with|cons a3 a4 t3 =>
  obtain⟨k,d⟩:=kd;obtain⟨⟨as,ra⟩,bs,l⟩:=o (λp q=>h p (bc _ q)) t2 t3;obtain⟨⟨x,rfl⟩,t,_⟩:=h (k,d) ay;obtain⟨v,j⟩:=uC I t a1.2 a2.2;have e:Sum.inr x=_:=a1.1.trans a2.1;have m:=MH (k:=Sum.inr x) (by rw[e];exact a3);obtain⟨tk,u⟩:=(show ∃tk,_=Value.str x tk from m)
  simp only[kvPd,bf,keyPd,u,a4];exact⟨⟨_,.cons (.str x tk) ra⟩,_,.cons j l⟩
def R8:List V->Hp->VK->Prop:=λxs H Q=>∃a c ds,xs=[.ref a]/\H a=some (.dK c)/\dM H ds c/\UU ds/\(eZ ds).length<=sizeLine/\Q (.str (eZ ds)) H
theorem vH (N:X.A.guards=some [])(W:X.A.units+64<cLine):cN X (.builtin "repr") R8:=by
 rintro m s σ H xs us Q I r ⟨a,G,ds,rfl,O,rep,f,hz,q⟩;obtain⟨u,rfl,B⟩:=r.one;cases B;obtain⟨z,lo,vs,g,o,R,Y,j,i,v,_,P,_⟩:=RB I.hok O;obtain⟨⟨as,ra⟩,bs,l⟩:=HR I f rep g P;obtain⟨⟨x,U⟩,s2,T⟩:=A4 f;have S:=vC f;obtain⟨b1,E,K⟩:=ReprAllK.of_readsAll (prog:=X.prog) (w:=X.w) ra x (λz=>by rw[U]at z;cases z) λt h=>let⟨p,hp,hl⟩:=PyData.shownKv_key_le _ t h;aq hl (aq (dictText_mem_le hp) hz);obtain⟨b2,C,J⟩:=ReprAllK.of_readsAll (prog:=X.prog) (w:=X.w) l s2 (λz=>by rw[T]at z;cases z) λt h=>let⟨p,hp,hl⟩:=PyData.shownKv_val_le _ t h;aq hl (aq (dictText_mem_le hp) hz);have d:=PyData.depthAll_keys_le (kvPd ds);have c:=PyData.depthAll_vals_le (kvPd ds);have na:a∉b1++b2:=not_mem_of_deeper (.dict j i.1 v ra l) (by simp only[PyData.depth];exact Nat.lt_succ_self _) ((E.mono d).append (C.mono c));refine call_repr_slot (by lia) ⟨o,j,i.1⟩ F.slot_dict_repr (call_dict_reprK (h₀:=s.heap) j i.1 v lo na (ReprEntriesK.of_two R.toList _ _ (K.more_le (λb hb=>ci _ hb) d) (J.more_le (λb hb=>bz _ hb) c)) N (λb _=>Clear.nil b) ?_ (λb o e=>e) (λh' u tk L=>?_) ?_)
 ·show X.A.units+1+(_+1)<cLine
  lia
 ·rw[←PyData.shownKv_eq];exact⟨_,_,rfl,.str (eZ ds),H,I.kept (t':=tk) L,⟨_,rfl⟩,q⟩
 ·rw[←PyData.shownKv_eq];exact hz
end
def T3 (P:Program)(w:World)(K:PySem.W.Frag)(mg:jB)(base:Heap)(CX:AW)(k:Nat)(x:Str)(sp:Sp):Prop :=
 ∃f c ps,vX P w K mg base CX k f c ps sp/\mg x=some (.ref f)/\PySem.W.keepIn K (.ref f)=true/\eI K c ps []
section
variable {X:Cx}{CX:AW}{k:Nat}{sp:Sp}{E:XK}{x:Str}{p pos:Pos}{e:Expr}{es:pO}{t:TA}
theorem OL (O:T3 X.prog X.w X.K X.mg X.base CX k x sp)(R:X.A.guards=some [])(B:dY k X.A)(z:jY CX X E)(L:Gl X x)(P:PA X (e::es) t)(l:(x == ("__debug__" : Str))=false:=by decide)
  (N:starEach (e::es) X.env=(false,eval e X.env)::starEach es X.env:=by rfl) (j:(backTo pos (starEach es X.env)).any (·.1)=false:=by rfl):PE X (.Call (.Name x p) (e::es) [] pos) (tCall sp [] E t):=by
 obtain⟨f,S,ps,F,C,J,hb⟩:=O;intro c s σ H Q I h;refine wpAny_Call_Name_kw (oY I L C ?_ l);refine PySem.W.callWith_K (h₀:=X.base) I.ok.mod.kin J (thn (P pos c s σ H _ I h) λus i ⟨vs,m,g,r,q⟩=>⟨g.kIn,?_⟩) N j;have G:(us++[]).length=ps.length:=by rw[bp,←r.length,←bp vs];exact F.len _ _ _ _ q
 have v:aR (vs++[]) (us++[]):=r.append .nil;refine wpAny_call (codeAny_mono (F.run X.A X.stack i m ⟨us,[]⟩ (us++[]) (vs++[]) Q E R B g.env0 (hb i us g.kIn G) v q) λr o d=>?_);cases r with
 | error e=>exact z c σ m i e o g d
 | ok fl =>
  cases fl with
  | ret u=>exact g.after d
  | next=>exact False.elim d
  | brk=>exact False.elim d
  | cont=>exact False.elim d
end
end L2
namespace L2
open PySem
theorem bV (a:sc.kind = .function)(b:sc.isCoroutine=false)(c:sc.isGenerator=false)(d:N.take P.length=P)(e:N.Nodup/\(∀x∈P,sc.names.lookup x=some .local∨sc.names.lookup x=some .cell)/\∀y∈sc.names,y.2≠.free):aP N P sc:=⟨a,b,c,e.1,d,e.2.1,e.2.2⟩
theorem U4:ixV H (.ref p) (.int i)=(match H p with
  | some (.lst xs)=>atI xs i
  | some (.tup xs)=>atI xs i
  | some (.frz _ (.lst xs))=>atI xs i
  | _=>none):=rfl
noncomputable def abc:Str:="abcdefghijklmnopqrstuvwxyz"
theorem TZ (j:Nat)(h:j<26):abc.cps.toList[j]?=some (97+j):=by
 have:∀j:Fin 26,abc.cps.toList[j.1]?=some (97+j.1):=by decide +kernel
 exact this ⟨j,h⟩
theorem QP:abc.cps.toList.length=26:=by decide +kernel
theorem TL (e:0<=i)(d:i<26):ixV H (.str abc) (.int i)=some (.str ⟨#[97+i.toNat]⟩):=by show(if abc.length<=sizeLine then(atI abc.cps.toList i).map λc=>V.str ⟨#[c]⟩else none)=_;rw[ai (by decide +kernel),jW e (by rw[QP];exact d),TZ _ (by lia)];rfl
noncomputable def wordL:Nat->Int->List Nat
 | 0,_=>[]
 | k+1,n=>(97+(n % 26).toNat)::wordL k (n / 26)
theorem pQ:∀k n,(wordL k n).length=k
 | 0,_=>rfl
 | k+1,n=>by simp[wordL,pQ k]
noncomputable def wordS (k:Nat)(n:Int):Str:=⟨(wordL k n).toArray⟩
theorem tyL (h:H p=some (.lst xs)):tyV K "list" (.ref p) H:=.inl ⟨rfl,xs,eV.of h⟩
def i9 (x:Str):Prop:=1<=x.cps.toList.length/\x.cps.toList.length<=6/\∀c∈x.cps.toList,97<=c/\c<=122
theorem A0:∀(k:Nat) (n:Int),∀c∈wordL k n,97<=c/\c<=122
 | 0,_,_,h=>by simp[wordL]at h
 | k+1,n,c,h=>by
  rw[wordL]at h;rcases cu.mp h with e|e
  ·have f:=Int.emod_nonneg n (b:=26) (by decide);have d:=Int.emod_lt_of_pos n (b:=26) (by decide)
   lia
  ·exact A0 k _ c e
theorem J6 (d:1<=k)(c:k<=6):i9 (wordS k n):=by
 have e:(wordS k n).cps.toList=wordL k n:=by simp[wordS]
 refine⟨?_,?_,?_⟩
 ·rw[e,pQ];exact d
 ·rw[e,pQ];exact c
 ·rw[e];exact A0 k n
theorem G6 (c:1<=k)(h:wordS k a=wordS k b):a % 26=b % 26:=by
 obtain⟨j,rfl⟩:∃j,k=j+1:=⟨k - 1,by lia⟩
 have e:(wordS (j+1) a).cps.toList=(wordS (j+1) b).cps.toList:=by rw[h]
 simp only[wordS,wordL]at e;injection e with g _;have f:=Int.emod_nonneg a (b:=26) (by decide);have d:=Int.emod_nonneg b (b:=26) (by decide)
 lia
theorem xG {α:Type}[DecidableEq α]:∀{xs ys:List α},xs.Nodup->(∀x∈xs,x∈ys)->xs.length<=ys.length
 | [],_,_,_=>ax _
 | x::xs,ys,nd,h=>by
  obtain⟨g,f⟩:=cz.mp nd;have d:=h x ay;have q:=xG (ys:=ys.erase x) f λy c=>(List.mem_erase_of_ne (λe=>g (by rw[←e];exact c))).mpr (h y (bc _ c));rw[List.length_erase_of_mem d]at q;have:=List.length_pos_of_mem d;simp only[au]
  lia
theorem pP {k:Nat}{n:Int}{c:aT}{t:Nat}(f:1<=k)(l:t<=26)(h:∀i,i<t->wordS k (n+i)∈c):t<=c.length:=by
 have nd:((List.range t).map λi=>wordS k (n+(i:Nat))).Nodup:=by
  rw[List.nodup_iff_pairwise_ne,List.pairwise_map];refine List.Pairwise.imp_of_mem ?_ (List.pairwise_lt_range (n:=t));intro a b j hb g e;have:=G6 f e;have o:=List.mem_range.mp j;have m:=List.mem_range.mp hb
  lia
 have q:=xG nd (ys:=c) λx d=>by obtain⟨i,hi,rfl⟩:=cx.mp d;exact h i (List.mem_range.mp hi)
 simpa using q
theorem qA:∀(c:aT),Reps H (c.map D.str) (c.map V.str)
 | []=>rfl
 | x::r=>⟨.str x,r.map V.str,rfl,rfl,qA r⟩
theorem vD:∀c:aT,depDs (c.map D.str)=0
 | []=>rfl
 | x::r=>by rw[bf,depDs,vD r];rfl
theorem uX:∀c:aT,inD (.str x) (c.map D.str)=decide (x∈c)
 | []=>by simp[inD]
 | y::r=>by
  have d:=uX (x:=x) r;unfold inD at d⊢;rw[bf,List.any_cons,d];have e:eqD (.str y) (.str x)=decide (y=x):=by show(y == x)=_;rw[cf];simp
  rw[e,cf];simp only[Bool.or_eq_true,decide_eq_true_eq,cu];constructor
  ·rintro(h|h)
   ·exact .inl h.symm
   ·exact .inr h
  ·rintro(h|h)
   ·exact .inl h.symm
   ·exact .inr h
noncomputable def del (H:Hp)(p:Addr):Hp:=λb=>if b=p then none else H b
theorem eL (h:H b=some o)(n:b≠p):del H p b=some o:=by unfold del;rw[ab n];exact h
theorem dH (h:del H p b=some o):H b=some o/\b≠p:=by
 unfold del at h;by_cases e:b=p
 ·rw[ai e]at h;cases h
 ·rw[ab e]at h;exact⟨h,e⟩
theorem pC (H:Hp)(p:Addr):aG (del H p) H:=λb o h=>(dH h).1
end L2
section
local macro_rules | `(tactic| walk_at "rd")=>do
 let xs:Array (Lean.TSyntax [`Lean.Parser.Tactic.simpStar,`Lean.Parser.Tactic.simpErase,`Lean.Parser.Tactic.simpLemma]):=("L2.start List.map_cons List.map_nil List.length_cons List.length_nil Nat.reduceAdd Nat.reduceSub Nat.zero_add List.replicate_succ List.replicate_zero List.cons_append List.nil_append List.set_cons_zero List.set_cons_succ L2.tSeq L2.tIfS L2.tTest L2.tOp L2.tVar L2.tC L2.rI0 L2.tAsg L2.gName L2.gSub L2.rI L2.tRet L2.tNext L2.rSetL L2.rAddF L2.rRep L2.tCB L2.r1 L2.tCons L2.tNil L2.tDrop L2.tAnd L2.tOr L2.tNot L2.tIf L2.tLst L2.tTup L2.tCall L2.tFor_eq L2.tComp_eq L2.tComp2_eq L2.iRng1 L2.iRng2 L2.iAny L2.iSq L2.iZip L2.iZip2 L2.iEnum L2.tRaise L2.tTry L2.rNo L2.rAll L2.rAny L2.rSum L2.tUn L2.rU L2.gTup L2.gCons L2.gNil L2.tBM L2.tBM0 L2.rAppend L2.rPop L2.rPopAt L2.rExtend L2.tSl L2.tNoPart L2.tPart L2.rSlF L2.rSlU L2.rTupU L2.CStep L2.tYes L2.stC Option.bind_some Option.bind_none Option.join_some L2.tAndV L2.tOrV L2.tNotV L2.tNever not_true_eq_false not_false_eq_true L2.tChain L2.tTruth L2.rIs_eq L2.truV_bl L2.isV_ii L2.isV_ib L2.isV_ll L2.lenV_l L2.lenV_t L2.seqV_l L2.seqV_t L2.ixV_l L2.ixV_t if_true if_false Bool.not_true Bool.not_false Bool.false_eq_true Option.bind_eq_bind Option.pure_def L2.rEqD_ii L2.rNeD_ii L2.rEqD_bb L2.rNeD_bb L2.isV_bb L2.rEqD_ss L2.rNeD_ss Int.zero_add L2.catO_i L2.catO_s L2.addV L2.intV L2.atI_zero L2.atI_one L2.ixN_zero L2.ixN_one L2.upd_same L2.upd_upd Option.map_some Option.map_none List.getElem?_cons_zero List.getElem?_cons_succ Option.some.injEq L2.V.int.injEq L2.V.ref.injEq L2.V.bl.injEq L2.V.str.injEq L2.HO.lst.injEq List.cons.injEq and_true true_and exists_eq_left exists_eq_left' exists_eq_right exists_eq_right' exists_and_left exists_and_right exists_const reduceCtorEq false_and and_false exists_false or_false false_or decide_eq_true_eq ite_eq_left_iff Bool.not_eq_true Bool.not_eq_eq_eq_not decide_eq_false_iff_not decide_true decide_false".splitOn " ").toArray.map λs=>⟨Lean.mkNode `Lean.Parser.Tactic.simpLemma #[Lean.mkNullNode,Lean.mkNullNode,Lean.mkIdent s.toName]⟩
 let xs:=xs.push ⟨Lean.mkNode `Lean.Parser.Tactic.simpStar #[Lean.mkAtom "*"]⟩
 `(tactic| simp only [$xs,*])
namespace Lw
open PySem L2
noncomputable def rZ:aT:=["_law_script","_law_k"]
noncomputable def rV:aT:=rZ.take 2
theorem zB:aP rZ rV (aH jK):=bV rfl rfl rfl rfl (by decide +kernel)
noncomputable def vU:aT:=["_law_script","_law_k","_law_cell_here"]
noncomputable def vQ:aT:=vU.take 2
theorem q8:aP vU vQ (aH kY):=bV rfl rfl rfl rfl (by decide +kernel)
noncomputable def rX:aT:=["_law_pot_here","_law_many","_law_digit"]
noncomputable def rQ:aT:=rX.take 2
theorem oG:aP rX rQ (aH jH):=bV rfl rfl rfl rfl (by decide +kernel)
noncomputable def rW:aT:=["_law_size","_law_number","_law_word_here","_law_k"]
noncomputable def rP:aT:=rW.take 2
theorem gA:aP rW rP (aH jG):=bV rfl rfl rfl rfl (by decide +kernel)
noncomputable def pN:aT:=["_law_pot_here","_law_many","_law_found","_law_k","_law_size","_law_number"]
noncomputable def pJ:aT:=pN.take 2
theorem eA:aP pN pJ (aH iP):=bV rfl rfl rfl rfl (by decide +kernel)
noncomputable def iR:aT:=["_law_pot_here","_law_many","_law_sums","_law_names_here","_law_sure","_law_fixed","_law_left","_law_told","_law_name","_law_nought"]
noncomputable def pI:aT:=["_law_pot_here"]
theorem cB:aP iR pI (aH eQ):=bV rfl rfl rfl rfl (by decide +kernel)
noncomputable def nG:aT:=["_law_pot_here","_law_found","_law_k","_law_wish","_law_j"]
noncomputable def nE:aT:=["_law_pot_here"]
theorem dJ:aP nG nE (aH g9):=bV rfl rfl rfl rfl (by decide +kernel)
noncomputable def jR:aT:=["_law_pot_here","_law_told","_law_own_here","_law_bare","_law_some"]
noncomputable def rT:aT:=jR.take 3
theorem kT:aP jR rT (aH iB):=bV rfl rfl rfl rfl (by decide +kernel)
noncomputable def gM:aT:=["_law_told","_law_room","_law_found"]
noncomputable def pK:aT:=gM.take 2
theorem jT:aP gM pK (aH eT):=bV rfl rfl rfl rfl (by decide +kernel)
noncomputable def mF:aT:=["_law_pot_here","_law_told","_law_own_here","_law_room","_law_deep","_law_heads_here","_law_name","_law_parts","_law_left","_law_row","_law_k","_law_more_here"]
noncomputable def iI:aT:=mF.take 5
theorem cT:aP mF iI (aH fS):=bV rfl rfl rfl rfl (by decide +kernel)
noncomputable def rY:aT:=["_law_term_here"]
noncomputable def rR:aT:=["_law_term_here"]
theorem zA:aP rY rR (aH jI):=bV rfl rfl rfl rfl (by decide +kernel)
noncomputable def lF:aT:=["_law_one","_law_other","_law_here","_law_there"]
noncomputable def gL:aT:=lF.take 2
theorem mX:aP lF gL (aH eU):=bV rfl rfl rfl rfl (by decide +kernel)
noncomputable def j7:aT:=["_law_name","_law_nought","_law_parts","_law_found","_law_part"]
noncomputable def nF:aT:=j7.take 3
theorem gB:aP j7 nF (aH hU):=bV rfl rfl rfl rfl (by decide +kernel)
noncomputable def jS:aT:=["_law_told","_law_term_here","_law_parts","_law_noughts","_law_found","_law_part","_law_at"]
noncomputable def iJ:aT:=jS.take 2
theorem dN:aP jS iJ (aH eK):=bV rfl rfl rfl rfl (by decide +kernel)
noncomputable def U1:aT:=["_law_script","_law_pot_here","_law_told","_law_signs_here","_law_some","_law_k","_law_filling_here","_law_wish"]
noncomputable def RE:aT:=["_law_script"]
theorem kR:aP U1 RE (aH q9):=bV rfl rfl rfl rfl (by decide +kernel)
noncomputable def qV:aT:=["thing"]
noncomputable def yN:aT:=["thing"]
theorem DY:aP qV yN (aH kE):=bV rfl rfl rfl rfl (by decide +kernel)
noncomputable def nV:aT:=["signs","thing"]
noncomputable def vO:aT:=nV.take 2
theorem BE:aP nV vO (aH kW):=bV rfl rfl rfl rfl (by decide +kernel)
noncomputable def lE:aT:=["signs","thing","todo","at","depth"]
noncomputable def pH:aT:=lE.take 2
theorem g8:aP lE pH (aH gF):=bV rfl rfl rfl rfl (by decide +kernel)
noncomputable def NE:aT:=["term","found","todo","at"]
noncomputable def C8:aT:=["term"]
theorem mJ:aP NE C8 (aH oI):=bV rfl rfl rfl rfl (by decide +kernel)
noncomputable def pM:aT:=["term"]
noncomputable def pG:aT:=["term"]
theorem wG:aP pM pG (aH iO):=bV rfl rfl rfl rfl (by decide +kernel)
noncomputable def mE:aT:=["term"]
noncomputable def rO:aT:=["term"]
theorem y8:aP mE rO (aH iA):=bV rfl rfl rfl rfl (by decide +kernel)
noncomputable def vS:aT:=["name","term"]
noncomputable def C9:aT:=vS.take 2
theorem HQ:aP vS C9 (aH oJ):=bV rfl rfl rfl rfl (by decide +kernel)
noncomputable def nW:aT:=["name","nought","parts","left","part"]
noncomputable def vP:aT:=nW.take 3
theorem lR:aP nW vP (aH kX):=bV rfl rfl rfl rfl (by decide +kernel)
noncomputable def iN:aT:=["signs","name","parts","nought"]
noncomputable def lI:aT:=iN.take 3
theorem kB:aP iN lI (aH fI):=bV rfl rfl rfl rfl (by decide +kernel)
noncomputable def j5:aT:=["term","filling","whole","made","at","parts"]
noncomputable def nA:aT:=j5.take 3
theorem fZ:aP j5 nA (aH fF):=bV rfl rfl rfl rfl (by decide +kernel)
noncomputable def DB:aT:=["signs","filling","term"]
noncomputable def vM:aT:=DB.take 3
theorem HP:aP DB vM (aH cQ):=bV rfl rfl rfl rfl (by decide +kernel)
noncomputable def FN:aT:=["signs","term"]
noncomputable def NC:aT:=FN.take 2
theorem N2:aP FN NC (aH zC):=bV rfl rfl rfl rfl (by decide +kernel)
noncomputable def qW:aT:=["thing"]
noncomputable def yP:aT:=["thing"]
theorem D0:aP qW yP (aH kF):=bV rfl rfl rfl rfl (by decide +kernel)
noncomputable def vT:aT:=["thing"]
noncomputable def vN:aT:=["thing"]
theorem BD:aP vT vN (aH kU):=bV rfl rfl rfl rfl (by decide +kernel)
noncomputable def fM:aT:=["thing","least","most","pair"]
noncomputable def lJ:aT:=fM.take 3
theorem kC:aP fM lJ (aH d5):=bV rfl rfl rfl rfl (by decide +kernel)
noncomputable def h8:aT:=["pairs","names"]
noncomputable def nC:aT:=["pairs"]
theorem lU:aP h8 nC (aH eB):=bV rfl rfl rfl rfl (by decide +kernel)
noncomputable def j6:aT:=["fixed_rows","name","many"]
noncomputable def nB:aT:=["fixed_rows"]
theorem lT:aP j6 nB (aH fG):=bV rfl rfl rfl rfl (by decide +kernel)
noncomputable def fN:aT:=["sum_rows","bare_names","name","nought","noughts"]
noncomputable def lK:aT:=fN.take 2
theorem gU:aP fN lK (aH d8):=bV rfl rfl rfl rfl (by decide +kernel)
noncomputable def eY:aT:=["self","fixed","sums","fixed_rows","sum_rows"]
noncomputable def g7:aT:=eY.take 3
theorem gE:aP eY g7 (aH cG):=bV rfl rfl rfl rfl (by decide +kernel)
noncomputable def lG:aT:=["self","name"]
noncomputable def lD:aT:=lG.take 2
theorem wH:aP lG lD (aH dQ):=bV rfl rfl rfl rfl (by decide +kernel)
noncomputable def jA:aT:=["self","name"]
noncomputable def i8:aT:=jA.take 2
theorem sD:aP jA i8 (aH cZ):=bV rfl rfl rfl rfl (by decide +kernel)
noncomputable def yQ:aT:=["signs","thing"]
noncomputable def yO:aT:=yQ.take 2
theorem DZ:aP yQ yO (aH mK):=bV rfl rfl rfl rfl (by decide +kernel)
noncomputable def lM:aT:=["signs","thing","wish","term"]
noncomputable def lL:aT:=lM.take 2
theorem kD:aP lM lL (aH fJ):=bV rfl rfl rfl rfl (by decide +kernel)
noncomputable def mC:aT:=["filling"]
noncomputable def l9:aT:=["filling"]
theorem sA:aP mC l9 (aH eJ):=bV rfl rfl rfl rfl (by decide +kernel)
noncomputable def j4:aT:=["signs","filling"]
noncomputable def m8:aT:=j4.take 2
theorem t8:aP j4 m8 (aH fE):=bV rfl rfl rfl rfl (by decide +kernel)
noncomputable def DC:aT:=["signs","filling","term","looked"]
noncomputable def DA:aT:=DC.take 3
theorem xA:aP DC DA (aH oK):=bV rfl rfl rfl rfl (by decide +kernel)
noncomputable def nZ:aT:=["_law_pot_here","_law_told","_law_wish","_law_noughts","_law_way","_law_name","_law_nought"]
noncomputable def vR:aT:=nZ.take 3
theorem jF:aP nZ vR (aH iY):=bV rfl rfl rfl rfl (by decide +kernel)
noncomputable def mG:aT:=["_law_pot_here","_law_told","_law_some","_law_found","_law_many","_law_k","_law_wish"]
noncomputable def mB:aT:=mG.take 3
theorem dZ:aP mG mB (aH gG):=bV rfl rfl rfl rfl (by decide +kernel)
noncomputable def DD:aT:=["_law_pot_here","_law_some"]
noncomputable def rS:aT:=["_law_pot_here"]
theorem oH:aP DD rS (aH jJ):=bV rfl rfl rfl rfl (by decide +kernel)
noncomputable def nY:aT:=["_law_filling_here","_law_term_here"]
noncomputable def i5:aT:=nY.take 2
theorem BF:aP nY i5 (aH fQ):=bV rfl rfl rfl rfl (by decide +kernel)
noncomputable def kL:aT:=["_law_signs_here","_law_told","_law_filling_here","_law_term_here","_law_due","_law_held"]
noncomputable def kK:aT:=kL.take 4
theorem gC:aP kL kK (aH eS):=bV rfl rfl rfl rfl (by decide +kernel)
structure Txt (mg:jB):Prop where
 n_len:mg "len" = none
 n_range:mg "range" = none
 n_int:mg "int" = none
 n_abs:mg "abs" = none
 n_min:mg "min" = none
 n_max:mg "max" = none
 n_tuple:mg "tuple" = none
 n_list:mg "list" = none
 n_dict:mg "dict" = none
 n_set:mg "set" = none
 n_isinstance:mg "isinstance" = none
 n_str:mg "str" = none
 n_bool:mg "bool" = none
 n_sorted:mg "sorted" = none
 n_reversed:mg "reversed" = none
 n_all:mg "all" = none
 n_any:mg "any" = none
 n_zip:mg "zip" = none
 n_repr:mg "repr" = none
 c_WISH_SIGNS:∃u,mg "WISH_SIGNS" = some u/\aQ (.str "abcdefghijklmnopqrstuvwxyz0123456789") u
 c_LETTERS:∃u,mg "LETTERS" = some u/\aQ (.str "abcdefghijklmnopqrstuvwxyz") u
 c_LONGEST_WISH:∃u,mg "LONGEST_WISH" = some u/\aQ (.int 9) u
 c_DEEPEST:∃u,mg "DEEPEST" = some u/\aQ (.int 1000) u
 c_LONGEST_NAME:∃u,mg "LONGEST_NAME" = some u/\aQ (.int 6) u
 c_MOST_FIXED:∃u,mg "MOST_FIXED" = some u/\aQ (.int 12) u
 c_MOST_SUMS:∃u,mg "MOST_SUMS" = some u/\aQ (.int 3) u
 c_MOST_PARTS:∃u,mg "MOST_PARTS" = some u/\aQ (.int 3) u
section
variable {P:Program}{w:World}{K:PySem.W.Frag}{mg:jB}{base:Heap}
def KP (K:PySem.W.Frag):Sp:=λvs H Q _=>∃(a:Addr) (k:Int) (ns:List Int),vs=[.ref a,.int k]/\eV K H a (ns.map V.int)/\0<=k/\k<=1000/\∀n,Q (.int n) H
theorem PL (F:fP K "_law_cell" "_law_cell" jK f fd)(T:Txt mg):cA P w K mg base bJ 1 f fd rV (KP K):=by
 refine F.ok zB (λvs H Q E h=>?_) (λl A outer s H vs Q E g h=>?_)
 ·obtain⟨a,k,ns,rfl,_⟩:=h;rfl
 ·obtain⟨a,k,ns,rfl,d,j,m,q⟩:=h;have e:=g.units
  refine⟨_,(aD (bH (aU (jU e) (pv 1) (aK lC rfl T.n_len rfl (aA (pv 0) aB)) (nomark _)) (aF (aO (bM MI (pv 0) (pv 1) (λ_ _=>rfl)))) aS)
   (aF (aO aJ))),?_⟩
  refine⟨_,rfl,_,rfl,a,_,rfl,.inl d,.inl (.inl ⟨_,_,rfl,rfl,_,rfl,?_⟩)⟩;refine ite2 (λc=>?_) (λc=>?_)
  ·have c:k<((ns.map V.int).length:Int):=by simpa using c
   have i:k.toNat<ns.length:=by rw[ae]at c;lia
   refine⟨_,rfl,_,rfl,.inl ⟨a,_,k,.int (ns[k.toNat]),rfl,rfl,d,?_,q _⟩⟩;rw[jW j c];simp[i]
  ·exact q 0
def spPot (K:PySem.W.Frag):Sp:=λvs H Q _=>∃(a:Addr) (k:Int) (ns:List Int),vs=[.ref a,.int k]/\eV K H a (ns.map V.int)/\0<=k/\k<=1000/\∀p x y,H p=none->Q (.ref p) (upd H p (.lst [.int x,.int y]))
theorem SQ (F:fP K "_law_pot" "_law_pot" kY f fd)(T:Txt mg)(c:dG P w K mg base bJ 1 "_law_cell" (KP K)):cA P w K mg base bJ 2 f fd vQ (spPot K):=by
 refine F.ok q8 (λvs H Q E h=>?_) (λm A outer s H vs Q E d h=>?_)
 ·obtain⟨a,k,ns,rfl,_⟩:=h;rfl
 ·obtain⟨a,k,ns,rfl,g,l,j,q⟩:=h
  refine⟨_,(aD (aW (i:=2) q8.nd rfl (Or.inl rfl) (aL c (d.mono (by decide)) pass0 rfl (aA (pv 0) (aA (pv 1) aB))))
   (aF (aO (cF (aA (bK (qF.or qE) (pv 2) (cH qT rfl T.n_int rfl (aA (dR Q7 (pv 2) (bK SG aJ aJ) (nomark _)) aB))) (aA (bK bQ (bK bQ (bK (qF.or qE) (bK uK (aK JY rfl T.n_abs rfl (aA (pv 2) aB)) aJ) aJ) (bK (qF.or qE) aJ (pv 1))) aJ) aB)))))),?_⟩
  try dsimp only[cxOf,Cx.nox]
  refine⟨_,rfl,_,rfl,a,k,ns,rfl,g,l,j,λn=>?_⟩;clear F T c d;refine⟨_,rfl,_,rfl,_,_,rfl,rfl,⟨by decide,by decide,by decide⟩,_,_,rfl,rfl,_,_,rfl,rfl,.inl ⟨_,_,rfl,rfl,.inr ?_,_,rfl,_,rfl,_,_,rfl,rfl,(by decide:(0:Int)<2147483629),.inl ⟨_,_,rfl,rfl,.inr (by decide),_,rfl,.inl ⟨_,_,rfl,rfl,.inl (by decide),.inl ⟨_,rfl,.inl ⟨_,rfl,show 2<=sizeLine by decide,λp e=>q p _ _ e⟩⟩⟩⟩⟩⟩;split <;> decide
def bE (H:Hp)(p:Addr):Prop:=∃a b:Int,H p=some (.lst [.int a,.int b])
theorem bE.but (h:bE H p)(n:p≠l):bE (upd H l o) p:=by obtain⟨x,y,e⟩:=h;exact⟨x,y,by rw[aC n];exact e⟩
theorem bE.ne (h:bE H p)(n:H l=none):p≠l:=by obtain⟨x,y,e⟩:=h;exact aE e n
def fY:Sp:=λvs H Q _=>∃p n,vs=[.ref p,.int n]/\bE H p/\0<n/\n<1073741824/\∀d a b,0<=d->d<n->Q (.int d) (upd H p (.lst [.int a,.int b]))
theorem O5 (F:fP K "_law_take" "_law_take" jH f fd)(T:Txt mg):cA P w K mg base bJ 1 f fd rQ fY:=by
 refine F.ok oG (λvs H Q E h=>?_) (λm A outer s H vs Q E g h=>?_)
 ·obtain⟨p,n,rfl,_⟩:=h;rfl
 ·obtain⟨p,n,rfl,⟨a,b,d⟩,c,j,k⟩:=h
  refine⟨_,(aD (bH (aU BS (bM cY (pv 0) aJ (λ_ _=>rfl)) aJ (nomark _)) (aD (aW (i:=2) oG.nd rfl (Or.inl rfl) (bK uK (bM cY (pv 0) aJ (λ_ _=>rfl)) (pv 1)))
   (aD (uE (bK sS (bM cY (pv 0) aJ (λ_ _=>rfl)) (pv 1)) (K7 (pv 0) aJ BC))
   (aF (aO (pv 2))))) aS)
   (aD (uE (bK uK (bK bQ (bK (qF.or qE) (bM cY (pv 0) aJ (λ_ _=>rfl)) aJ) aJ) aJ) (K7 (pv 0) aJ BC))
   (aF (aO (bK uK (bK sS (bM cY (pv 0) aJ (λ_ _=>rfl)) aJ) (pv 1)))))),?_⟩
  try dsimp only[cxOf,Cx.nox]
  clear g F T;have e:ixV H (.ref p) (.int 0)=some (.int a):=by rw[ixV_l d];rfl
  have l:ixV H (.ref p) (.int 1)=some (.int b):=by rw[ixV_l d];rfl
  refine⟨_,rfl,_,e,_,_,rfl,rfl,_,rfl,ite2 (λ_=>?_) λ_=>?_⟩
  ·exact⟨_,rfl,_,e,_,rfl,_,_,rfl,rfl,c,_,rfl,_,e,_,rfl,_,_,rfl,rfl,⟨c,j⟩,_,rfl,p,_,0,0,rfl,rfl,d,rfl,_,rfl,k _ _ _ (Int.emod_nonneg _ (by lia)) (Int.emod_lt_of_pos _ c)⟩
  ·refine⟨_,rfl,_,l,.inl ⟨_,_,rfl,rfl,.inr (by decide),.inl ⟨_,rfl,_,_,rfl,rfl,(by decide:(0:Int)<2147483647),_,rfl,p,_,1,1,rfl,rfl,d,rfl,_,rfl,_,by rw[ixV_l upd_same];rfl,_,_,rfl,rfl,⟨by decide,by decide⟩,_,rfl,_,_,rfl,rfl,c,k _ _ _ (Int.emod_nonneg _ (by lia)) (Int.emod_lt_of_pos _ c)⟩⟩⟩
def KJ:Sp:=λvs H Q _=>∃(k:Nat) (n:Int),vs=[.int k,.int n]/\k<=6/\Q (.str (wordS k n)) H
theorem O2 (F:fP K "_law_word" "_law_word" jG f fd)(T:Txt mg):cA P w K mg base bJ 1 f fd rP KJ:=by
 refine F.ok gA (λvs H Q E h=>?_) (λp A outer s H vs Q E g h=>?_)
 ·obtain⟨k,n,rfl,_⟩:=h;rfl
 ·obtain⟨k,n,rfl,r,q⟩:=h
  refine⟨_,(aD (aW (i:=2) gA.nd rfl (Or.inl rfl) gW)
   (aD (eE dh rfl (fT rfl T.n_range (aA (pv 0) aB)) (bP (i:=3) gA.nd rfl (Or.inl rfl)) (aD (aW (i:=2) gA.nd rfl (Or.inl rfl) (bK bQ (pv 2) (bM cY gW (bK uK (pv 1) aJ) (λ_ _=>rfl))))
   (aF (aW (i:=1) gA.nd rfl (Or.inl rfl) (bK sS (pv 1) aJ)))))
   (aF (aO (pv 2))))),?_⟩
  try dsimp only[cxOf,Cx.nox]
  clear g F T;refine⟨_,rfl,_,rfl,by lia,by lia,?_⟩;rw[cq];refine fR (lo:=0) (λi σ H'=>H'=H/\∃(m:Int) (l:List Nat) (o:Option V),σ=[some (.int k),some (.int m),some (.str ⟨l.toArray⟩),o]/\l.length=i/\l++wordL (k - i) m=wordL k n) ⟨rfl,n,[],none,rfl,rfl,rfl⟩ ?_ ?_
  ·rintro i σ H' hi ⟨rfl,m,l,o,rfl,d,c⟩;have e:=TL (H:=H') (i:=m % 26) (Int.emod_nonneg _ (by decide)) (Int.emod_lt_of_pos _ (by decide));have j:k - i=(k - (i+1))+1:=by lia
   rw[j,wordL]at c;refine⟨_,rfl,_,rfl,_,_,rfl,rfl,(by decide:(0:Int)<26),_,e,.inl ⟨_,ai (aq (m:=100) ?_ (by decide)),_,rfl,_,_,rfl,rfl,⟨by decide,by decide⟩,rfl,_,l++[97+(m % 26).toNat],some (.int (0+i)),congrArg (λx=>[some (V.int k),some (V.int (m / 26)),some (V.str x),some (V.int (0+i))]) ?_,by simp[d],by rw[cp];exact c⟩⟩
   ·show l.toArray.size+1<=100;rw[ag]
    lia
   ·exact congrArg Str.mk (by simp)
  ·rintro σ H' ⟨rfl,m,l,o,rfl,d,c⟩;rw[Nat.sub_self,wordL,bp]at c;rw[c];exact⟨_,rfl,q⟩
def FZ:Sp:=λvs H Q _=>∃(p:Addr) (m:Nat),vs=[.ref p,.int m]/\bE H p/\m<=15/\∀(l:Addr) (ws:aT) (H':Hp),H l=none->H' l=some (.lst (ws.map V.str))->bU p H H'->bE H' p->ws.length=m->ws.Nodup->(∀x∈ws,i9 x)->Q (.ref l) H'
def VF (p l:Addr)(m:Nat)(H:Hp)(i:Nat)(σ:St)(d:Hp):Prop:=∃(c:aT) (o1 o2 o3:Option V),σ=[some (.ref p),some (.int m),some (.ref l),o1,o2,o3]/\d l=some (.lst (c.map V.str))/\bU p H d/\bE d p/\c.length=i/\c.Nodup/\∀x∈c,i9 x
theorem LR (F:fP K "_law_names" "_law_names" iP f fd)(T:Txt mg)(u:dG P w K mg base bJ 1 "_law_take" fY)(g:dG P w K mg base bJ 1 "_law_word" KJ):cA P w K mg base bJ 2 f fd pJ FZ:=by
 refine F.ok eA (λvs H Q E h=>?_) (λcdv A outer s H vs Q E G h=>?_)
 ·obtain⟨p,m,rfl,_⟩:=h;rfl
 ·obtain⟨p,m,rfl,hp,hm,q⟩:=h;have hu:=G.units
  refine⟨_,(aD (aW (i:=2) eA.nd rfl (Or.inl rfl) (cF aB))
   (aD (eE dh rfl (fT rfl T.n_range (aA (pv 1) aB)) (bP (i:=3) eA.nd rfl (Or.inl rfl)) (aD (aW (i:=4) eA.nd rfl (Or.inl rfl) (bK bQ aJ (aL u (G.mono (by decide)) pass0 rfl (aA (pv 0) (aA aJ aB)))))
   (aD (aW (i:=5) eA.nd rfl (Or.inl rfl) (aL u (G.mono (by decide)) pass0 rfl (aA (pv 0) (aA (bM cY (cF (aA aJ (aA aJ (aA aJ (aA aJ (aA aJ (aA aJ aB))))))) (bK qD (pv 4) aJ) (λ_ _=>rfl)) aB))))
   (aD (oO dh (aU (SL hu) (aL g (G.mono (by decide)) pass0 rfl (aA (pv 4) (aA (pv 5) aB))) (pv 2) (by with_unfolding_all rfl)) (aF (aW (i:=5) eA.nd rfl (Or.inl rfl) (bK bQ (pv 5) aJ))))
   (aF (cU (kH de dg df fU (pv 2) (aA (aL g (G.mono (by decide)) pass0 rfl (aA (pv 4) (aA (pv 5) aB))) aB))))))))
   (aF (aO (pv 2))))),?_⟩
  try dsimp only[cxOf,Cx.nox]
  clear G F T u g hu;refine⟨show 0<=sizeLine by decide,λl hl=>⟨_,rfl,_,rfl,by lia,by lia,?_⟩⟩;rw[cq];have C:p≠l:=by obtain⟨a,b,e⟩:=hp;exact aE e hl
  refine fR (lo:=0) (VF p l m H)
   ⟨[],none,none,none,rfl,upd_same,bU.new hl,by obtain⟨a,b,e⟩:=hp;exact⟨a,b,by rw[aC C];exact e⟩,rfl,List.nodup_nil,by simp⟩ ?_ ?_
  ·rintro i σ S hi ⟨z,o1,o2,o3,rfl,J,hb,L,I,nd,ok⟩;clear q;refine⟨_,rfl,p,6,rfl,L,by decide,by decide,λd a b h0 h1=>.inl ⟨_,rfl,?_⟩⟩;obtain⟨v,hkk⟩:∃v:Nat,(v:Int)=1+d:=⟨(1+d).toNat,by lia⟩
   clear L;rw[←hkk];refine⟨_,rfl,show 6<=sizeLine by decide,λr G=>?_⟩;have U:p≠r:=aE upd_same G;have W:l≠r:=aE (by rw[aC C.symm];exact J) G;obtain⟨B,hB,hB0,hB1⟩:∃B:Int,atI [V.int 26,V.int 676,V.int 17576,V.int 456976,V.int 11881376,V.int 308915776] ((v:Int) - 1)=some (.int B)/\0<B/\B<1073741824:=by
    have:v=1∨v=2∨v=3∨v=4∨v=5∨v=6:=by lia
    rcases this with rfl|rfl|rfl|rfl|rfl|rfl
    ·exact⟨26,by decide,by decide,by decide⟩
    ·exact⟨676,by decide,by decide,by decide⟩
    ·exact⟨17576,by decide,by decide,by decide⟩
    ·exact⟨456976,by decide,by decide,by decide⟩
    ·exact⟨11881376,by decide,by decide,by decide⟩
    ·exact⟨308915776,by decide,by decide,by decide⟩
   refine⟨_,rfl,_,_,rfl,rfl,_,by rw[ixV_l upd_same];exact hB,p,B,rfl,⟨a,b,by rw[aC U,upd_same]⟩,hB0,hB1,λn a2 b2 hn0 hn1=>?_⟩;have N:upd (upd (upd S p (.lst [.int a,.int b])) r (.lst [.int 26,.int 676,.int 17576,.int 456976,.int 11881376,.int 308915776])) p (.lst [.int a2,.int b2]) l=some (.lst (z.map V.str)):=by rw[aC C.symm,aC W,aC C.symm];exact J
   have hb4:bU p H (upd (upd (upd S p (.lst [.int a,.int b])) r (.lst [.int 26,.int 676,.int 17576,.int 456976,.int 11881376,.int 308915776])) p (.lst [.int a2,.int b2])) :=
    hb.trans (((bU.upd p S _).trans (bU.new G)).trans (bU.upd p _ _))
   have Y:bE (upd (upd (upd S p (.lst [.int a,.int b])) r (.lst [.int 26,.int 676,.int 17576,.int 456976,.int 11881376,.int 308915776])) p (.lst [.int a2,.int b2])) p:=⟨a2,b2,upd_same⟩
   generalize upd (upd (upd S p (.lst [.int a,.int b])) r (.lst [.int 26,.int 676,.int 17576,.int 456976,.int 11881376,.int 308915776])) p (.lst [.int a2,.int b2])=H4 at N hb4 Y⊢;clear G U W hB hB0 hB1 J hb;refine RO (λσ' H'=>H'=H4/\∃t:Nat,σ'=[some (.ref p),some (.int m),some (.ref l),some (.int (0+i)),some (.int v),some (.int (n+t))]/\∀j:Nat,j<t->wordS v (n+j)∈z)
    (λ(σ':St) (_:Hp)=>match σ'[5]? with|some (some (V.int x))=>(n+30 - x).toNat|_=>0) ⟨rfl,0,by simp,by simp⟩ ?_
   rintro σ' H' ⟨rfl,t,rfl,ht⟩;have ht26:t<=26->t<=z.length:=λh=>pP (by lia) h ht;have hty:=tyL (K:=K) N;refine⟨decide (wordS v (n+t)∈z),λR hR=>?_,λhb=>?_,λhb=>?_⟩
   ·have hin:=uX (x:=wordS v (n+t)) z;refine⟨_,rfl,_,rfl,v,n+t,rfl,by lia,_,rfl,.inl ⟨.str _,z.map D.str,rfl,.inl ⟨l,_,rfl,N,qA z⟩,by rw[vD];decide,_,rfl,?_⟩⟩;show R (inD _ _) _;rw[hin];exact hR
   ·have Z:wordS v (n+t)∈z:=bu hb;have O:∀j:Nat,j<t+1->wordS v (n+j)∈z:=λj hj=>by
     by_cases e:j<t
     ·exact ht j e
     ·have:j=t:=by lia
      subst this;exact Z
    have few:t<26->t+1<=z.length:=λh=>pP (by lia) (by lia) O;refine⟨_,rfl,.inl ⟨_,rfl,⟨rfl,t+1,?_,O⟩,?_⟩⟩
    ·simp only[List.set_cons_zero,List.set_cons_succ];have:n+(t:Int)+1=n+((t+1:Nat):Int):=by lia
     rw[this]
    ·have X:t<26:=by
      by_cases e:t<26
      ·exact e
      ·have:=pP (t:=16) (n:=n) (by lia:1<=v) (by lia) λj hj=>ht j (by lia)
       lia
     have:=few X;show(n+30 - (n+(t:Int)+1)).toNat<(n+30 - (n+(t:Int))).toNat
     lia
   ·have hnm:wordS v (n+t)∉z:=of_decide_eq_false hb;refine⟨_,rfl,hty,_,rfl,_,rfl,v,n+t,rfl,by lia,l,_,_,rfl,rfl,N,aj (m:=100) (by rw[ae];lia) (by decide),?_⟩;refine⟨z++[wordS v (n+t)],_,_,_,rfl,?_,λc o hc e=>?_,?_,by simp[I],GG nd hnm,λx hx=>?_⟩
    ·rw[upd_same,ba];rfl
    ·have nlc:c≠l:=aE e hl;rw[aC nlc];exact hb4 c o hc e
    ·obtain⟨a3,b3,e3⟩:=Y;exact⟨a3,b3,by rw[aC C];exact e3⟩
    ·obtain h|h:=cw.mp hx
     ·exact ok x h
     ·rw[cs.mp h];exact J6 (by lia) (by lia)
  ·rintro σ S ⟨z,o1,o2,o3,rfl,J,hb,L,I,nd,ok⟩;exact⟨_,rfl,q l z S hl J hb L I nd ok⟩
def bC (H H':Hp):Prop:=∀b xs,H b=some (.tup xs)->H' b=some (.tup xs)
theorem bC.refl (H:Hp):bC H H:=λ_ _ h=>h
theorem bC.trans (a:bC H H1)(b:bC H1 H2):bC H H2:=λc xs h=>b c xs (a c xs h)
theorem bC.of (s:aG H H'):bC H H':=λb xs h=>s b _ h
theorem bC.lst (h:H a=some (.lst ys)):bC H (upd H a o):=λb xs e=>by rw[aC (λz=>by rw[z,h]at e;cases e)];exact e
theorem AM (h:bU p H H')(n:H a=none):bU p H (upd H' a o):=λc u nc e=>by rw[aC (aE e n)];exact h c u nc e
theorem bC.pot (h:bE H p):bC H (upd H p o):=by obtain⟨x,y,e⟩:=h;exact bC.lst e
def dE (H:Hp):cP->List V->Prop
 | [],vs=>vs=[]
 | r::l,vs=>∃t us,vs = .ref t::us/\H t=some (.tup [.str r.1,.int r.2])/\dE H l us
def dW (H:Hp):cE->List V->Prop
 | [],vs=>vs=[]
 | r::l,vs=>∃t us,vs = .ref t::us/\H t=some (.tup [.str r.1,.str r.2])/\dW H l us
theorem dE.same (s:bC H H'):∀{l:cP} {vs:List V},dE H l vs->dE H' l vs
 | [],_,h=>h
 | _::_,_,⟨t,us,e,h,q⟩=>⟨t,us,e,s _ _ h,dE.same s q⟩
theorem dW.same (s:bC H H'):∀{l:cE} {vs:List V},dW H l vs->dW H' l vs
 | [],_,h=>h
 | _::_,_,⟨t,us,e,h,q⟩=>⟨t,us,e,s _ _ h,dW.same s q⟩
theorem dE.snoc (c:H t=some (.tup [.str n,.int k])):∀{l:cP} {vs:List V},dE H l vs->dE H (l++[(n,k)]) (vs++[.ref t])
 | [],_,h=>by cases h;exact⟨t,[],rfl,c,rfl⟩
 | _::_,_,⟨u,us,e,h,q⟩=>by subst e;exact⟨u,us++[.ref t],rfl,h,dE.snoc c q⟩
theorem dW.snoc (c:H t=some (.tup [.str n,.str k])):∀{l:cE} {vs:List V},dW H l vs->dW H (l++[(n,k)]) (vs++[.ref t])
 | [],_,h=>by cases h;exact⟨t,[],rfl,c,rfl⟩
 | _::_,_,⟨u,us,e,h,q⟩=>by subst e;exact⟨u,us++[.ref t],rfl,h,dW.snoc c q⟩
theorem dE.len:∀{l:cP} {vs:List V},dE H l vs->vs.length=l.length
 | [],_,h=>by cases h;rfl
 | _::_,_,⟨t,us,e,h,q⟩=>by subst e;simp[dE.len q]
theorem dE.get:∀{l:cP} {vs:List V} {i:Nat} {v:V},dE H l vs->vs[i]?=some v->∃r t,l[i]?=some r/\v = .ref t/\H t=some (.tup [.str r.1,.int r.2])
 | [],_,_,_,h,e=>by cases h;simp at e
 | r::_,_,0,_,⟨t,us,e,h,q⟩,k=>by subst e;simp at k;exact⟨r,t,rfl,k.symm,h⟩
 | _::_,_,i+1,_,⟨t,us,e,h,q⟩,k=>by subst e;simp at k;obtain⟨r,t,f,d,c⟩:=dE.get q k;exact⟨r,t,by simpa using f,d,c⟩
noncomputable def zeros (c:cP):aT:=(c.filter λr=>decide (r.2=0)).map (·.1)
structure bD (fx:cP)(sm:cE):Prop where
 f1:1<=fx.length
 f2:fx.length<=12
 s2:sm.length<=3
 nm:∀x∈fx.map (·.1)++sm.map (·.1),i9 x
 nd:(fx.map (·.1)++sm.map (·.1)).Nodup
 parts:∀r∈fx,0<=r.2/\r.2<=3
 bare:∃r∈fx,r.2=0
 nought:∀r∈sm,r.2≠("" : Str)->r.2∈zeros fx
 once:((sm.map (·.2)).filter λ(x:Str)=>decide (x≠("" : Str))).Nodup
theorem iV (c:cP)(r:Str×Int):zeros (c++[r])=zeros c++(if r.2=0 then [r.1]else []):=by unfold zeros;rw[List.filter_append,ba];congr 1;by_cases z:r.2=0 <;> simp[z]
theorem gR (c:cP):(zeros c).Sublist (c.map (·.1)):=List.Sublist.map _ List.filter_sublist
theorem take_snoc {α:Type}{xs:List α}{i:Nat}{x:α}(h:xs[i]?=some x):xs.take (i+1)=xs.take i++[x]:=by rw[List.take_succ,h];rfl
theorem vF (xs:List V)(n:Nat):cutV xs (some (n:Int)) none=xs.drop n:=by
 unfold cutV;rw[HT.sIx_nat,HT.sIx_none,←bx];rcases Nat.le_total n xs.length with h|h
 ·rw[Nat.min_eq_left h,bw]
 ·rw[Nat.min_eq_right h,List.drop_eq_nil_of_le h,List.drop_eq_nil_of_le (ac _)];rfl
theorem map_erase {α β:Type}(f:α->β):∀(l:List α) (k:Nat),(l.map f).eraseIdx k=(l.eraseIdx k).map f
 | [],_=>rfl
 | _::_,0=>rfl
 | a::l,k+1=>by show f a::(l.map f).eraseIdx k=f a::(l.eraseIdx k).map f;rw[map_erase f l k]
theorem xJ {α:Type}{l:List α}{k:Nat}{x:α}(h:x∈l.eraseIdx k):x∈l:=List.eraseIdx_subset h
theorem mZ {α:Type}:∀{l:List α} {k:Nat} {x:α},l.Nodup->l[k]?=some x->x∉l.eraseIdx k
 | [],_,_,_,z=>by simp at z
 | a::l,0,x,n,h=>by simp at h;subst h;exact(cz.mp n).1
 | a::l,k+1,x,n,h=>by
  simp at h;intro m;obtain e|e:=cu.mp m
  ·subst e;exact(cz.mp n).1 (bj h)
  ·exact mZ (cz.mp n).2 h e
structure NS (fx:cP)(ns:aT)(sm:cE)(lz:aT):Prop where
 names:sm.map (·.1)=ns
 lzl:lz.length<=(zeros fx).length
 lzn:lz.Nodup
 lz1:∀x∈lz,x∈zeros fx
 no:∀r∈sm,r.2≠("" : Str)->r.2∈zeros fx/\r.2∉lz
 once:((sm.map (·.2)).filter λ(x:Str)=>decide (x≠("" : Str))).Nodup
theorem NS.none (h:NS fx ns sm lz)(n:Str):NS fx (ns++[n]) (sm++[(n,("" : Str))]) lz:=by
 refine⟨by rw[ba,h.names];rfl,h.lzl,h.lzn,h.lz1,λr c ne=>?_,?_⟩
 ·obtain m|m:=cw.mp c
  ·exact h.no r m ne
  ·rw[cs.mp m]at ne;exact absurd rfl ne
 ·rw[ba,List.filter_append];have e:(List.filter (λ(x:Str)=>decide (x≠("" : Str))) (List.map (λr:Str×Str=>r.2) [(n,("" : Str))]))=[]:=by simp
  rw[e,bp];exact h.once
theorem NS.pop (h:NS fx ns sm lz)(n:Str)(f:lz[k]?=some y):NS fx (ns++[n]) (sm++[(n,y)]) (lz.eraseIdx k):=by
 have d:=bj f;refine⟨by rw[ba,h.names];rfl,aq (List.eraseIdx_sublist _ _).length_le h.lzl,h.lzn.sublist (List.eraseIdx_sublist _ _),λx p=>h.lz1 x (xJ p),λr c ne=>?_,?_⟩
 ·obtain m|m:=cw.mp c
  ·exact⟨(h.no r m ne).1,λz=>(h.no r m ne).2 (xJ z)⟩
  ·rw[cs.mp m];exact⟨h.lz1 y d,mZ h.lzn f⟩
 ·rw[ba,List.filter_append];refine List.nodup_append.mpr ⟨h.once,?_,?_⟩
  ·by_cases z:y=("" : Str) <;> simp[z]
  ·intro a q b hb e;subst e;obtain⟨o,l⟩:=da.mp q;obtain⟨r,c,g⟩:=cx.mp o;have i:a=y:=by
    obtain⟨j,_⟩:=da.mp hb
    simpa using j
   have ne:r.2≠("" : Str):=by rw[g];simpa using l
   exact(h.no r c ne).2 (by rw[g,i];exact d)
structure U3 (p fl lf tl sl:Addr)(H:Hp):Prop where
 fp:fl≠p
 lp:lf≠p
 tp:tl≠p
 sp:sl≠p
 lf1:lf≠fl
 ls:lf≠sl
 lt:lf≠tl
 tf:tl≠fl
 ts:tl≠sl
 nl:H lf=none
 nt:H tl=none
structure HS (p fl lf tl sl:Addr)(H:Hp)(fx:cP)(acc zl:List V)(lv:List V)(sm:cE)(sv:List V)(H':Hp):Prop where
 b:bU p H H'
 pot:bE H' p
 f:H' fl=some (.lst acc)
 r:dE H' fx acc
 l:H' lf=some (.lst lv)
 t:H' tl=some (.lst sv)
 s:dW H' sm sv
 z:H' sl=some (.lst zl)
section
variable {p fl lf tl sl:Addr}{H H':Hp}{fx:cP}{acc zl lv sv:List V}{sm:cE}
theorem HS.new (h:HS p fl lf tl sl H fx acc zl lv sm sv H')(c:H' q=none):HS p fl lf tl sl H fx acc zl lv sm sv (upd H' q o) :=
 ⟨h.b.trans (bU.new c),h.pot.but (h.pot.ne c),by rw[aC (aE h.f c)];exact h.f,h.r.same (bC.of (aG.upd c)),by rw[aC (aE h.l c)];exact h.l,by rw[aC (aE h.t c)];exact h.t,h.s.same (bC.of (aG.upd c)),by rw[aC (aE h.z c)];exact h.z⟩
theorem HS.take (h:HS p fl lf tl sl H fx acc zl lv sm sv H')(d:U3 p fl lf tl sl H)(x y:Int):HS p fl lf tl sl H fx acc zl lv sm sv (upd H' p (.lst [.int x,.int y])) :=
 ⟨h.b.trans (bU.upd _ _ _),⟨_,_,upd_same⟩,by rw[aC d.fp];exact h.f,h.r.same (bC.pot h.pot),by rw[aC d.lp];exact h.l,by rw[aC d.tp];exact h.t,h.s.same (bC.pot h.pot),by rw[aC d.sp];exact h.z⟩
theorem HS.left (h:HS p fl lf tl sl H fx acc zl lv sm sv H')(d:U3 p fl lf tl sl H)(c:List V):HS p fl lf tl sl H fx acc zl c sm sv (upd H' lf (.lst c)) :=
 ⟨AM h.b d.nl,h.pot.but d.lp.symm,by rw[aC d.lf1.symm];exact h.f,h.r.same (bC.lst h.l),upd_same,by rw[aC d.lt.symm];exact h.t,h.s.same (bC.lst h.l),by rw[aC d.ls.symm];exact h.z⟩
theorem HS.told (h:HS p fl lf tl sl H fx acc zl lv sm sv H')(d:U3 p fl lf tl sl H)(c:dW H' sm' sv'):HS p fl lf tl sl H fx acc zl lv sm' sv' (upd H' tl (.lst sv')) :=
 ⟨AM h.b d.nt,h.pot.but d.tp.symm,by rw[aC d.tf.symm];exact h.f,h.r.same (bC.lst h.t),by rw[aC d.lt];exact h.l,upd_same,c.same (bC.lst h.t),by rw[aC d.ts.symm];exact h.z⟩
end
def LI (d:cP)(f:Hp)(i:Nat)(c:List V)(σ:St)(e:Hp):Prop:=∃o1 o2:Option V,σ=[o1,o2]/\e=f/\c=(zeros (d.take i)).map V.str
def SI (p fl f tl m l:Addr)(many d c:Nat)(j:aT)(g:cP)(e h:List V)(H:Hp)(i:Nat)(σ:St)(H':Hp):Prop :=
 ∃(q o:Option V) (sm:cE) (lz:aT) (sv:List V),σ=[some (.ref p),some (.int many),some (.int d),some (.ref l),some (.int c),some (.ref fl),some (.ref f),some (.ref tl),q,o]/\HS p fl f tl m H g e h (lz.map V.str) sm sv H'/\NS g ((j.drop many).take i) sm lz/\sv.length=i
theorem BH (H:Hp):∀c:aT,Reps H (c.map D.str) (c.map V.str)
 | []=>rfl
 | _::l=>⟨_,_,rfl,rfl,BH H l⟩
theorem x8:∀c:aT,depDs (c.map D.str)=0
 | []=>rfl
 | _::l=>by rw[bf,depDs,x8 l];rfl
theorem pS {p fl i tl g:Addr}{H H':Hp}{m:cP}{c l lv f:List V}{sm:cE}{K0:PySem.W.Frag}{D:jD}{σ:St}{n y:Str}(d:U3 p fl i tl g H)(v:σ[7]?=some (some (.ref tl)))(u:σ[8]?=some (some (.str n)))(r:σ[9]?=some (some (.str y)))
  (h:HS p fl i tl g H m c l lv sm f H') (q:f.length<20) (o:∀t e,HS p fl i tl g H m c l lv (sm++[(n,y)]) (f++[.ref t]) e->D.nx σ e):tDrop (tBM K0 "list" rAppend (tVar 7) (tCons (tTup (tCons (tVar 8) (tCons (tVar 9) tNil))) tNil)) D σ H':=by
 refine⟨_,v,.inl ⟨rfl,_,eV.of h.t⟩,_,u,_,r,(by show 2<=sizeLine;decide),λt j=>⟨tl,f,.ref t,rfl,rfl,(h.new j).t,bg q (by decide),?_⟩⟩;exact o t _ ((h.new j).told d ((h.new j).s.snoc upd_same))
def FI (p l:Addr)(g:aT)(c:Nat)(h:Hp)(i:Nat)(e:List V)(σ:St)(f:Hp):Prop :=
 ∃(d:cP) (o:Option V),σ=[o,some (.ref p),some (.ref l),some (.int c)]/\bU p h f/\bE f p/\d.map (·.1)=g.take i/\(∀r∈d,0<=r.2/\r.2<=3)/\(c<i->∃r∈d,r.2=0)/\dE f d e
def FW:Sp:=λvs H Q _=>∃p:Addr,vs=[.ref p]/\bE H p/\∀(t a b:Addr) (fx:cP) (sm:cE) (fv sv:List V) (H':Hp),bU p H H'->bE H' p->H' t=some (.tup [.ref a,.ref b])->H' a=some (.lst fv)->H' b=some (.lst sv)->dE H' fx fv->dW H' sm sv->bD fx sm->a≠p->b≠p->Q (.ref t) H'
theorem LN (F:fP K "_law_signs" "_law_signs" eQ f fd)(T:Txt mg)(c:dG P w K mg base bJ 1 "_law_take" fY)(g:dG P w K mg base bJ 2 "_law_names" FZ):cA P w K mg base bJ 3 f fd pI FW:=by
 refine F.ok cB (λvs H Q E h=>?_) (λcdv A outer s H vs Q E S h=>?_)
 ·obtain⟨p,rfl,_⟩:=h;rfl
 ·obtain⟨p,rfl,hp,q⟩:=h;have hu:=S.units
  refine⟨_,(aD (aW (i:=1) cB.nd rfl (Or.inl rfl) (bK bQ aJ (aL c (S.mono (by decide)) pass0 rfl (aA (pv 0) (aA aJ aB)))))
   (aD (aW (i:=2) cB.nd rfl (Or.inl rfl) (aL c (S.mono (by decide)) pass0 rfl (aA (pv 0) (aA aJ aB))))
   (aD (aW (i:=3) cB.nd rfl (Or.inr rfl) (aL g (S.mono (by decide)) pass0 rfl (aA (pv 0) (aA (bK bQ (pv 1) (pv 2)) aB))))
   (aD (aW (i:=4) cB.nd rfl (Or.inr rfl) (aL c (S.mono (by decide)) pass0 rfl (aA (pv 0) (aA (pv 1) aB))))
   (aD (iQ (i:=5) cB.nd rfl rfl rfl rfl (bF.by (N:=iR) (names:=(aH eQ).names) (N':=["_law_k","_law_pot_here","_law_names_here","_law_sure"]) (src:=[none,some 0,some 3,some 4]) (by decide +kernel) rfl rfl) (fT rfl T.n_range (aA (pv 1) aB)) (λ_ _ _ _=>(bP (i:=0) (show List.Nodup (["_law_k","_law_pot_here","_law_names_here","_law_sure"]:aT)by decide +kernel) rfl (Or.inl rfl))) (λ_ _ _ _=>eF) (λ_ _ _ _=>(fA (aA (bM cY (pv 2) (pv 0) (λ_ _=>rfl)) (aA (bK (qF.or qE) (aL c (S.mono (by decide)) pass0 rfl (aA (pv 1) (aA aJ aB))) (cH qT rfl T.n_int rfl (aA (dR (dS hu) (pv 0) (pv 3) (nomark _)) aB))) aB)))))
   (aD (iQ (i:=6) cB.nd rfl rfl rfl rfl (bF.by (N:=iR) (names:=(aH eQ).names) (N':=["_law_name","_law_parts"]) (src:=[none,none]) (by decide +kernel) rfl rfl) (cV K rfl (pv 5)) (λ_ _ _ _=>(cL K rfl (i:=0) (j:=1) rfl (show List.Nodup (["_law_name","_law_parts"]:aT)by decide +kernel) rfl rfl rfl rfl)) (λ_ _ _ _=>(k8 (aU (dL hu) (pv 1) aJ (nomark _)))) (λ_ _ _ _=>(pv 0)))
   (aD (aW (i:=7) cB.nd rfl (Or.inl rfl) (cF aB))
   (aD (eE dh rfl (cV K rfl (fH kQ (pv 3) (eG (pv 1)) fK)) (bP (i:=8) cB.nd rfl (Or.inl rfl)) (aD (aW (i:=9) cB.nd rfl (Or.inl rfl) gW)
   (aD (bH (PW.pt (uD (aU (dS hu) (pv 6) (cF aB) (nomark _)) (oN (aU BS (aL c (S.mono (by decide)) pass0 rfl (aA (pv 0) (aA aJ aB))) aJ (nomark _))))) (aF (aW (i:=9) cB.nd rfl (Or.inl rfl) (kH de PySem.F.slot_list_pop PySem.F.type_list_pop L4 (pv 6) (aA (aL c (S.mono (by decide)) pass0 rfl (aA (pv 0) (aA (aK bG rfl T.n_len rfl (aA (pv 6) aB)) aB))) aB)))) aS)
   (aF (cU (kH de dg df fU (pv 7) (aA (fA (aA (pv 8) (aA (pv 9) aB))) aB)))))))
   (aF (aO (fA (aA (pv 5) (aA (pv 7) aB))))))))))))),?_⟩
  try dsimp only[cxOf,Cx.nox]
  simp only[iR];clear S F T c g hu;have hq:=q;clear q
  walk_at "rd"
  refine⟨p,12,rfl,hp,by decide,by decide,λd a b h0 h1=>?_⟩
  walk_at "rd"
  obtain⟨many,hm1,hm2,hmd⟩:∃many:Nat,1<=many/\many<=12/\1+d=(many:Int):=⟨(1+d).toNat,by lia,by lia,by lia⟩
  rw[hmd];clear hmd h0 h1 d;refine⟨p,4,rfl,⟨_,_,upd_same⟩,by decide,by decide,λd2 a b h2 h3=>?_⟩;obtain⟨sums,rfl⟩:∃k:Nat,d2=(k:Int):=⟨d2.toNat,by lia⟩
  have hs4:sums<4:=by lia
  clear h2 h3;rw[upd_upd];have em:(many:Int)+(sums:Int)=((many+sums:Nat):Int):=by lia
  dsimp only;refine⟨_,rfl,?_⟩;rw[em];refine⟨p,many+sums,rfl,⟨_,_,upd_same⟩,by lia,λl G H1 hl hl1 hb1 hp1 hlen nd ok=>?_⟩;have hlp:l≠p:=λz=>by rw[z,upd_same]at hl;cases hl
  dsimp only;refine⟨p,many,rfl,hp1,by lia,by lia,λd3 x3 y3 h4 h5=>?_⟩;obtain⟨sure,rfl⟩:∃k:Nat,d3=(k:Int):=⟨d3.toNat,by lia⟩
  have hsm:sure<many:=by lia
  have b2:bU p H (upd H1 p (.lst [.int x3,.int y3])):=((bU.upd p H _).trans hb1).trans (bU.upd p H1 _);have p2:bE (upd H1 p (.lst [.int x3,.int y3])) p:=⟨_,_,upd_same⟩
  have l2:upd H1 p (.lst [.int x3,.int y3]) l=some (.lst (G.map V.str)):=by rw[aC hlp];exact hl1
  generalize upd H1 p (.lst [.int x3,.int y3])=H2 at b2 p2 l2⊢;clear hl hl1 hb1 hp1 h4 h5 em hp;refine⟨by lia,by lia,?_⟩;rw[cq];refine C3 (FI p l G sure H2) ⟨[],none,rfl,bU.refl _ _,p2,rfl,by simp,λz=>absurd z (Nat.not_lt_zero _),rfl⟩ ?_ ?_
  ·rintro i u σ H3 hi ⟨v,o,rfl,b3,p3,O,hpt,hsu,L⟩;have l3:=b3 l _ hlp l2;obtain⟨wd,hwd⟩:∃wd,G[i]?=some wd:=⟨G[i],az (by lia)⟩
   have e1:atI (G.map V.str) (i:Int)=some (.str wd):=G3 (by rw[bI,hwd];rfl);refine⟨_,rfl,_,rfl,_,(by rw[ixV_l l3,Int.zero_add];exact e1),_,rfl,p,4,rfl,p3,by decide,by decide,λd x4 y4 d0 d1=>?_⟩;have ek:(if (!eqD (.int (0+(i:Int))) (.int (sure:Int)))=true then(1:Int)else 0)=if i=sure then 0 else 1:=by
    by_cases z:i=sure
    ·subst z;rw[Int.zero_add,gK,ai rfl];rfl
    ·have e:eqD (.int (0+(i:Int))) (.int (sure:Int))=false:=by show((0+(i:Int)) == (sure:Int))=false;rw[Int.zero_add];exact cy.mpr (by lia)
     rw[e,ab z];rfl
   refine⟨_,rfl,_,rfl,.int _,.int _,rfl,rfl,ax _,_,_,rfl,rfl,.inl ⟨d,rfl,_,rfl,.inr (by rw[ek];split <;> constructor <;> lia),?_⟩⟩;rw[ek];refine⟨(by show 2<=sizeLine;decide),λt ht=>⟨aj (m:=20) ?_ (by decide),?_⟩⟩
   ·rw[L.len];have:=congrArg List.length O;rw[ae,bv]at this
    lia
   have p4:bE (upd H3 p (.lst [.int x4,.int y4])) p:=⟨_,_,upd_same⟩
   have hv:0<=d * (if i=sure then 0 else 1)/\d * (if i=sure then 0 else 1)<=3:=by split <;> constructor <;> lia
   have C:dE (upd (upd H3 p (.lst [.int x4,.int y4])) t (.tup [.str wd,.int (d * (if i=sure then 0 else 1))])) v u:=(L.same (bC.pot p3)).same (bC.of (aG.upd ht));refine⟨v++[(wd,d * (if i=sure then 0 else 1))],_,rfl,(b3.trans (bU.upd p _ _)).trans (bU.new ht),p4.but (p4.ne ht),?_,λr S=>?_,λhlt=>?_,C.snoc upd_same⟩
   ·rw[ba,O,List.take_succ,hwd];rfl
   ·obtain h|h:=cw.mp S
    ·exact hpt r h
    ·rw[cs.mp h];exact hv
   ·by_cases z:i=sure
    ·exact⟨_,bz _ ay,by show d * (if i=sure then 0 else 1)=0;rw[ai z];lia⟩
    ·obtain⟨r,h1,h2⟩:=hsu (by lia);exact⟨r,ci _ h1,h2⟩
  ·rintro u σ H3 ⟨v,o,rfl,b3,p3,O,hpt,hsu,L⟩ fl W;have l3:=b3 l _ hlp l2;have f4:upd H3 fl (.lst u) fl=some (.lst u):=upd_same;have b4:bU p H (upd H3 fl (.lst u)):=(b2.trans b3).trans (bU.new W);have p4:=p3.but (o:=.lst u) (p3.ne W);have Z:upd H3 fl (.lst u) l=some (.lst (G.map V.str)):=by rw[aC (aE l3 W)];exact l3
   have C:dE (upd H3 fl (.lst u)) v u:=L.same (bC.of (aG.upd W));have nfp:fl≠p:=(p3.ne W).symm;generalize upd H3 fl (.lst u)=H4 at f4 b4 p4 Z C⊢;obtain⟨r0,hr0,hz0⟩:=hsu hsm;clear L W l3 p3 b3 b2 p2 l2 hsu;refine⟨fl,rfl,_,.inl f4,λJ hJ=>?_⟩;have hfn:(v.map (·.1)).Nodup:=by rw[O];exact nd.sublist (List.take_sublist _ _)
   have hzl:(zeros v).length<=12:=by
    have h1:=(gR v).length_le;rw[O,bv]at h1
    lia
   refine cR hJ (LI v H4) ⟨none,none,rfl,rfl,rfl⟩ (by rintro i acc' σ H' _ ⟨_,_,_,rfl,_⟩;rfl) ?_ ?_
   ·rintro i x acc' σ H' hx ⟨o1,o2,rfl,rfl,rfl⟩;obtain⟨r,t,S,rfl,ht⟩:=C.get hx;refine⟨t,_,rfl,iG.of ht,rfl,_,_,rfl,_,_,rfl,rfl,_,rfl,?_⟩;dsimp only[tC];rw[rEqD_ii];refine⟨_,rfl,?_⟩;by_cases z:r.2=0
    ·rw[ai (by simpa using z)];refine⟨_,rfl,?_,?_⟩
     ·rw[ae];have h1:=(gR (v.take i)).length_le;have h2:(v.take i).length<=12:=by have h3:=congrArg List.length O;rw[ae,bv]at h3;rw[bv];lia
      rw[ae]at h1;exact aj (m:=12) (by lia) (by decide)
     ·exact⟨_,_,rfl,rfl,by rw[take_snoc S,iV,ai z,ba];rfl⟩
    ·rw[ab (by simpa using z)];exact⟨_,_,rfl,rfl,by rw[take_snoc S,iV,ab z,bp]⟩
   ·rintro acc' σ H' ⟨o1,o2,rfl,rfl,rfl⟩ Y I;rw[List.take_of_length_le (by rw[C.len];exact ac _)];refine⟨ax _,λtl B=>⟨l,rfl,G.map V.str,.inl ?_,?_,λsl o U ho=>?_⟩⟩
    ·rw[aC,aC (aE Z I)]
     ·exact Z
     ·intro e;subst e;rw[aC (aE Z I),Z]at B;cases B
    ·rintro⟨ys,hy⟩;rw[aC,aC (aE Z I),Z]at hy
     ·cases hy
     ·intro e;subst e;rw[aC (aE Z I),Z]at B;cases B
    ·have l5:upd H' Y (HO.lst (List.map V.str (zeros v))) l=some (.lst (G.map V.str)):=by rw[aC (aE Z I)];exact Z
     have l6:upd (upd H' Y (HO.lst (List.map V.str (zeros v)))) tl (.lst []) l=some (.lst (G.map V.str)):=by rw[aC (aE l5 B)];exact l5
     have eo:o = .lst ((G.drop many).map V.str):=by
      rcases ho with⟨e,_⟩|⟨_,e⟩
      ·rw[e,vF,List.map_drop]
      ·rw[l6]at e;cases e
     subst eo;clear ho;have htf:tl≠Y:=λe=>by subst e;rw[upd_same]at B;cases B
     have htl':H' tl=none:=by rw[aC htf]at B;exact B
     have hst:sl≠tl:=λe=>by subst e;rw[upd_same]at U;cases U
     have hsf:sl≠Y:=λe=>by subst e;rw[aC hst,upd_same]at U;cases U
     have hsl':H' sl=none:=by rw[aC hst,aC hsf]at U;exact U
     have nn:∀a,H' a=none->H a=none:=λa ha=>by
      cases e:H a with
      | none=>rfl
      | some o=>have z:=b4 a o (p4.ne ha).symm e;rw[ha]at z;cases z
     have R:U3 p fl Y tl sl H:=⟨nfp,(p4.ne I).symm,(p4.ne htl').symm,(p4.ne hsl').symm,(aE f4 I).symm,hsf.symm,htf.symm,(aE f4 htl').symm,hst.symm,nn _ I,nn _ htl'⟩
     have h0:HS p fl Y tl sl H v u ((G.drop many).map V.str) ((zeros v).map V.str) [] [] (upd (upd (upd H' Y (.lst ((zeros v).map V.str))) tl (.lst [])) sl (.lst ((G.drop many).map V.str))):=by have s1:aG H' (upd (upd (upd H' Y (.lst ((zeros v).map V.str))) tl (.lst [])) sl (.lst ((G.drop many).map V.str))):=((aG.upd I).trans (aG.upd B)).trans (aG.upd U);obtain⟨px,py,pe⟩:=p4;exact⟨b4.trans s1.but,⟨px,py,s1 _ _ pe⟩,s1 _ _ f4,C.same (bC.of s1),by rw[aC hsf.symm,aC htf.symm,upd_same],by rw[aC hst.symm,upd_same],rfl,upd_same⟩
     have n0:NS v [] [] (zeros v):=⟨rfl,ac _,hfn.sublist (gR v),λ_ h=>h,by simp,by simp⟩
     generalize upd (upd (upd H' Y (.lst ((zeros v).map V.str))) tl (.lst [])) sl (.lst ((G.drop many).map V.str))=H7 at h0⊢;refine⟨_,.inl h0.z,λJ2 hJ2=>?_⟩;refine jQ hJ2 (SI p fl Y tl sl l many sums sure G v u ((G.drop many).map V.str) H) ⟨none,none,[],zeros v,[],rfl,h0,n0,rfl⟩ (by rintro i σ H'' _ ⟨_,_,_,_,_,_,hh,_⟩;rw[hh.z,h0.z]) ?_ ?_
     ·rintro i x σ H8 hx ⟨o8,o9,sm,lz,sv,rfl,hh,ns,hsv⟩;obtain⟨n,hn,rfl⟩:∃n,(G.drop many)[i]?=some n/\x = .str n:=by
       rw[bI]at hx;cases e:(G.drop many)[i]? with
       | none=>rw[e]at hx;cases hx
       | some n=>rw[e]at hx;exact⟨n,rfl,by cases hx;rfl⟩
      have hi:i<4:=by
       have:=(cr.mp hn).1;rw[bx]at this
       lia
      refine⟨_,rfl,ax _,λq hq2=>⟨.lst (lz.map D.str),.lst [],⟨Y,_,rfl,(hh.new hq2).l,BH _ _⟩,⟨q,[],rfl,upd_same,rfl⟩,by rw[depD,x8];decide,_,rfl,?_⟩⟩;have h9:=hh.new (o:=.lst []) hq2;generalize upd H8 q (.lst [])=H9 at h9⊢;cases lz with
      | nil =>
       dsimp only;rw[ab (by decide),ab (by decide)];refine pS R rfl rfl rfl h9 (by lia) λt H'' h''=>?_;exact⟨_,_,_,_,_,rfl,h'',by rw[take_snoc hn];exact ns.none n,by rw[av,hsv];rfl⟩
      | cons z lz =>
       dsimp only;rw[ai (by rfl)];refine⟨_,rfl,p,3,rfl,h9.pot,by decide,by decide,λd1 x1 y1 d0 d1'=>⟨_,_,rfl,rfl,_,rfl,?_⟩⟩;have X:=h9.take R x1 y1;generalize upd H9 p (.lst [.int x1,.int y1])=H10 at X⊢;dsimp only;by_cases hd:0<d1
       ·rw[ai (by simpa using hd)];have hlz:(z::lz).length<=12:=by
         have h1:=ns.lzl
         lia
        refine⟨_,rfl,.inl ⟨rfl,_,eV.of X.l⟩,_,rfl,_,rfl,_,_,rfl,(by dsimp only;rw[lenV_l X.l];rfl),p,_,rfl,X.pot,?_,?_,λd2 x2 y2 e0 e1=>?_⟩
        ·rw[ae,au];lia
        ·rw[ae];lia
        ·have h11:=X.take R x2 y2;generalize upd H10 p (.lst [.int x2,.int y2])=H11 at h11⊢;rw[ae]at e1;obtain⟨y,hy⟩:∃y,(z::lz)[d2.toNat]?=some y:=⟨_,az (by lia)⟩
         refine⟨Y,_,d2,d2.toNat,.str y,rfl,rfl,h11.l,by lia,by lia,PySem.StrLaws.seqIndex_nonneg e0 (by rw[ae];exact e1),by rw[bI,hy];rfl,?_⟩;have h12:=h11.left R (((z::lz).eraseIdx d2.toNat).map V.str);rw[map_erase];refine pS R rfl rfl rfl h12 (by lia) λt H'' h''=>?_;exact⟨_,_,_,_,_,rfl,h'',by rw[take_snoc hn];exact ns.pop n hy,by rw[av,hsv];rfl⟩
       ·rw[ab (by simpa using hd)];refine pS R rfl rfl rfl X (by lia) λt H'' h''=>?_;exact⟨_,_,_,_,_,rfl,h'',by rw[take_snoc hn];exact ns.none n,by rw[av,hsv];rfl⟩
     ·rintro σ H8 ⟨o8,o9,sm,lz,sv,rfl,hh,ns,hsv⟩;refine⟨_,rfl,_,rfl,(by show 2<=sizeLine;decide),λt ht=>?_⟩;have h9:=hh.new (o:=.tup [.ref fl,.ref tl]) ht;refine hq t fl tl v sm u sv _ h9.b h9.pot upd_same h9.f h9.t h9.r h9.s ?_ R.fp R.tp;have e1:=ns.names;rw[ae,bw]at e1;have e2:=congrArg List.length e1;have e3:=congrArg List.length O;rw[ae,bx]at e2;rw[ae,bv]at e3;have e4:v.map (·.1)++sm.map (·.1)=G:=by rw[O,e1,List.take_append_drop]
      exact⟨by lia,by lia,by lia,by rw[e4];exact ok,by rw[e4];exact nd,hpt,⟨r0,hr0,hz0⟩,λr S ne=>(ns.no r S ne).1,ns.once⟩
def isWd (c:Nat):Prop:=(97<=c/\c<=122)∨(48<=c/\c<=57)
def bO (x:Str):Prop:=∃l:List Nat,x=⟨(63::l).toArray⟩/\1<=l.length/\l.length<=8/\∀c∈l,isWd c
noncomputable def wds:Str:=PySem.Str.ofString "abcdefghijklmnopqrstuvwxyz0123456789"
theorem FP:wds.cps.toList.length=36:=by decide +kernel
theorem NV:wds.cps.toList.all (λc=>(decide (97<=c) && decide (c<=122)) || (decide (48<=c) && decide (c<=57)))=true:=by decide +kernel
theorem RP (h:c∈wds.cps.toList):isWd c:=by
 have:=List.all_eq_true.mp NV c h
 simpa [isWd] using this
theorem TH (f:0<=i)(e:i<36):∃c,isWd c/\ixV H (.str wds) (.int i)=some (.str ⟨#[c]⟩):=by
 have d:i.toNat<wds.cps.toList.length:=by rw[FP];lia
 refine⟨wds.cps.toList[i.toNat],RP (List.getElem_mem d),?_⟩;show(if wds.length<=sizeLine then(atI wds.cps.toList i).map λc=>V.str ⟨#[c]⟩else none)=_;rw[ai (by decide +kernel),jW f (by rw[FP];exact e),az d];rfl
def F2:Sp:=λvs H Q _=>∃p:Addr,vs=[.ref p]/\bE H p/\∀(o:Addr) (os:aT) (H':Hp),o≠p->bU p H H'->bE H' p->H' o=some (.lst (os.map V.str))->os.length=5->(∀x∈os,bO x)->Q (.ref o) H'
def DI (p l:Addr)(H:Hp)(i:Nat)(σ:St)(c:Hp):Prop:=∃(os:aT) (o2 o3 o4:Option V),σ=[some (.ref p),some (.ref l),o2,o3,o4]/\c l=some (.lst (os.map V.str))/\bU p H c/\bE c p/\os.length=i/\∀x∈os,bO x
def DJ (p l:Addr)(os:aT)(i:Int)(H:Hp)(j:Nat)(σ:St)(e:Hp):Prop:=∃(d:List Nat) (o4:Option V),σ=[some (.ref p),some (.ref l),some (.int i),some (.str ⟨(63::d).toArray⟩),o4]/\e l=some (.lst (os.map V.str))/\bU p H e/\bE e p/\d.length=j/\∀c∈d,isWd c
theorem LW (F:fP K "_law_wishes" "_law_wishes" g9 f fd)(T:Txt mg)(g:dG P w K mg base bJ 1 "_law_take" fY):cA P w K mg base bJ 2 f fd nE F2:=by
 refine F.ok dJ (λvs H Q E h=>?_) (λcdv A outer s H vs Q E G h=>?_)
 ·obtain⟨p,rfl,_⟩:=h;rfl
 ·obtain⟨p,rfl,hp,q⟩:=h;have hu:=G.units
  refine⟨_,(aD (aW (i:=1) dJ.nd rfl (Or.inl rfl) (cF aB))
   (aD (eE dh rfl (fT rfl T.n_range (aA aJ aB)) (bP (i:=2) dJ.nd rfl (Or.inl rfl)) (aD (aW (i:=3) dJ.nd rfl (Or.inl rfl) gW)
   (aD (eE dh rfl (fT rfl T.n_range (aA (bK bQ aJ (aL g (G.mono (by decide)) pass0 rfl (aA (pv 0) (aA (bM cY (cF (aA aJ (aA aJ (aA aJ aB)))) (aL g (G.mono (by decide)) pass0 rfl (aA (pv 0) (aA aJ aB))) (λ_ _=>rfl)) aB)))) aB)) (bP (i:=4) dJ.nd rfl (Or.inl rfl)) (aF (aW (i:=3) dJ.nd rfl (Or.inl rfl) (bK bQ (pv 3) (bM cY gW (aL g (G.mono (by decide)) pass0 rfl (aA (pv 0) (aA aJ aB))) (λ_ _=>rfl))))))
   (aF (cU (kH de dg df fU (pv 1) (aA (pv 3) aB)))))))
   (aF (aO (pv 1))))),?_⟩
  try dsimp only[cxOf,Cx.nox]
  simp only[nG];clear G F T g hu
  walk_at "rd"
  refine⟨by decide,λl O=>⟨by decide,by decide,?_⟩⟩;have C:p≠l:=hp.ne O;refine fR (DI p l H) ⟨[],none,none,none,rfl,upd_same,bU.new O,hp.but C,rfl,by simp⟩ ?_ ?_
  ·rintro i σ S hi ⟨os,o2,o3,o4,rfl,v,hb,t,o,ok⟩;clear q hp;have keep:=aI O (aI v (aI hb (aI t (aI o ok))));clear O v hb t o ok
   walk_at "rd"
   obtain⟨O,v,hb,t,o,ok⟩:=keep;refine⟨by decide,λr G=>⟨p,3,rfl,t.but (t.ne G),by decide,by decide,λd a b h0 h1=>?_⟩⟩;have npr:p≠r:=t.ne G;have nlr:l≠r:=aE v G;obtain⟨B,hB,hB0,hB1⟩:∃B:Int,atI [V.int 1,V.int 2,V.int 8] d=some (.int B)/\0<B/\B<=8:=by
    have:d=0∨d=1∨d=2:=by lia
    rcases this with rfl|rfl|rfl
    ·exact⟨1,by decide,by decide,by decide⟩
    ·exact⟨2,by decide,by decide,by decide⟩
    ·exact⟨8,by decide,by decide,by decide⟩
   dsimp only;refine⟨.int B,by rw[ixV_l (xs:=[.int 1,.int 2,.int 8]) (by rw[aC npr.symm,upd_same])];exact hB,p,B,rfl,⟨a,b,upd_same⟩,hB0,by lia,λn a2 b2 n0 n1=>⟨.int (1+n),rfl,1+n,rfl,by lia,by lia,?_⟩⟩;have Z:bU p H (upd (upd (upd S r (.lst [.int 1,.int 2,.int 8])) p (.lst [.int a,.int b])) p (.lst [.int a2,.int b2])):=((hb.trans (bU.new G)).trans (bU.upd _ _ _)).trans (bU.upd _ _ _);have W:bE (upd (upd (upd S r (.lst [.int 1,.int 2,.int 8])) p (.lst [.int a,.int b])) p (.lst [.int a2,.int b2])) p:=⟨_,_,upd_same⟩
   have X:upd (upd (upd S r (.lst [.int 1,.int 2,.int 8])) p (.lst [.int a,.int b])) p (.lst [.int a2,.int b2]) l=some (.lst (os.map V.str)):=by rw[aC C.symm,aC C.symm,aC nlr];exact v
   generalize upd (upd (upd S r (.lst [.int 1,.int 2,.int 8])) p (.lst [.int a,.int b])) p (.lst [.int a2,.int b2])=H2 at Z W X⊢;refine fR (DJ p l os i H) ⟨[],o4,rfl,X,Z,W,rfl,by simp⟩ ?_ ?_
   ·rintro j σ H3 hj ⟨R,o4',rfl,I,N,J,Y,L⟩;refine⟨_,rfl,_,rfl,p,36,rfl,J,by decide,by decide,λd3 a3 b3 e0 e1=>?_⟩;obtain⟨c,hc,U⟩:=TH (H:=upd H3 p (.lst [.int a3,.int b3])) e0 e1;refine⟨_,U,?_⟩;refine .inl ⟨.str ⟨(63::(R++[c])).toArray⟩,?_,?_⟩
    ·show(if (63::R).toArray.size+1<=sizeLine then some (V.str _)else none)=_;rw[ai (aq (m:=100) (by simp;lia) (by decide))];exact congrArg some (congrArg V.str (congrArg Str.mk (by simp)))
    ·exact⟨R++[c],_,rfl,by rw[aC C.symm];exact I,N.trans (bU.upd _ _ _),⟨_,_,upd_same⟩,by rw[av,Y];rfl,λx U=>(cw.mp U).elim (L x) λh=>by rw[cs.mp h];exact hc⟩
   ·rintro σ H3 ⟨R,o4',rfl,I,N,J,Y,L⟩;refine⟨_,rfl,tyL I,_,rfl,l,_,_,rfl,rfl,I,aj (m:=10) (by rw[ae];lia) (by decide),?_⟩;refine⟨os++[⟨(63::R).toArray⟩],_,_,_,rfl,by rw[upd_same,ba];rfl,?_,J.but C,by rw[av,o];rfl,λx U=>(cw.mp U).elim (ok x) λh=>by rw[cs.mp h];exact⟨R,rfl,by lia,by lia,L⟩⟩;intro c u hc e;rw[aC (λz=>?_)]
    ·exact N c u hc e
    ·subst z;rw[O]at e;cases e
  ·rintro σ S ⟨os,o2,o3,o4,rfl,v,hb,t,o,ok⟩;exact⟨_,rfl,q l os S C.symm hb t v o ok⟩
def JZ (p t:Addr)(c:cP)(sm:cE)(H:Hp):Prop:=∃(a b:Addr) (fv sv:List V),H t=some (.tup [.ref a,.ref b])/\H a=some (.lst fv)/\H b=some (.lst sv)/\dE H c fv/\dW H sm sv/\a≠p/\b≠p
theorem bC.ofBut (h:bU p H H')(c:bE H p):bC H H':=λb xs e=>h b _ (λz=>by obtain⟨x,y,q⟩:=c;rw[z,q]at e;cases e) e
theorem JZ.but (h:JZ p t fx sm H)(hb:bU p H H')(c:bE H p):JZ p t fx sm H':=by obtain⟨a,b,o,f,m,l,j,i,g,e,d⟩:=h;exact⟨a,b,o,f,bC.ofBut hb c _ _ m,hb _ _ e l,hb _ _ d j,i.same (bC.ofBut hb c),g.same (bC.ofBut hb c),e,d⟩
def ND (p o:Addr)(os:aT)(H:Hp):Prop:=H o=some (.lst (os.map V.str))/\o≠p
theorem ND.but {p o:Addr}{os:aT}{H H':Hp}(h:ND p o os H)(hb:bU p H H'):ND p o os H':=⟨hb _ _ h.2 h.1,h.2⟩
def tX:Sp:=λvs H Q _=>∃(p t o:Addr) (fx:cP) (sm:cE) (os:aT),vs=[.ref p,.ref t,.ref o]/\bE H p/\JZ p t fx sm H/\ND p o os H/\1<=os.length/\os.length<=12/\fx.length<=12/\(∃r∈fx,r.2=0) /\
 ∀(x:Str) (H':Hp),bU p H H'->bE H' p->(x∈os∨x∈zeros fx)->Q (.str x) H'
theorem DL {K0:PySem.W.Frag}{J:It}{a:Addr}{g:cP}{l:List V}{e:Hp}{Qk:VK}(q:QZ K0 a l J e)(c:dE e g l)(s:g.length<=12)(hd:∀f,e f=none->Qk (.ref f) (upd e f (.lst ((zeros g).map V.str)))) :
  nH J (gTup K0 2 (gCons (gName 0) (gCons (gName 1) gNil))) (tTest (tOp rEqD (tVar 1) (tC (.int 0)))) (tVar 0) Qk [none,none] e:=by
 refine cR q (LI g e) ⟨none,none,rfl,rfl,rfl⟩ (by rintro i d σ H' _ ⟨_,_,_,rfl,_⟩;rfl) ?_ ?_
 ·rintro i x d σ H' o ⟨o1,o2,rfl,rfl,rfl⟩;obtain⟨r,t,j,rfl,p⟩:=c.get o;refine⟨t,_,rfl,iG.of p,rfl,_,_,rfl,_,_,rfl,rfl,_,rfl,?_⟩;dsimp only[tC];rw[rEqD_ii];refine⟨_,rfl,?_⟩;by_cases z:r.2=0
  ·rw[ai (by simpa using z)];refine⟨_,rfl,?_,?_⟩
   ·rw[ae];have u:=(gR (g.take i)).length_le;rw[ae,bv]at u;exact aj (m:=12) (by lia) (by decide)
   ·exact⟨_,_,rfl,rfl,by rw[take_snoc j,iV,ai z,ba];rfl⟩
  ·rw[ab (by simpa using z)];exact⟨_,_,rfl,rfl,by rw[take_snoc j,iV,ab z,bp]⟩
 ·rintro d σ H' ⟨o1,o2,rfl,rfl,rfl⟩ f h;rw[List.take_of_length_le (by rw[c.len];exact ac _)];exact hd f h
theorem PC (F:fP K "_law_leaf" "_law_leaf" iB f fd)(T:Txt mg)(c:dG P w K mg base bJ 1 "_law_take" fY):cA P w K mg base bJ 2 f fd rT tX:=by
 refine F.ok kT (λvs H Q E h=>?_) (λcdv A outer s H vs Q E u h=>?_)
 ·obtain⟨p,t,o,m,sm,os,rfl,_⟩:=h;rfl
 ·obtain⟨p,t,o,m,sm,os,rfl,C,ht,ho,L,Y,I,hz,q⟩:=h;have hu:=u.units
  refine⟨_,(aD (iQ (i:=3) kT.nd rfl rfl rfl rfl (bF.by (N:=jR) (names:=(aH iB).names) (N':=["_law_name","_law_parts"]) (src:=[none,none]) (by decide +kernel) rfl rfl) (cV K rfl (bM cY (pv 1) aJ (λ_ _=>rfl))) (λ_ _ _ _=>(cL K rfl (i:=0) (j:=1) rfl (show List.Nodup (["_law_name","_law_parts"]:aT)by decide +kernel) rfl rfl rfl rfl)) (λ_ _ _ _=>(k8 (aU (dL hu) (pv 1) aJ (nomark _)))) (λ_ _ _ _=>(pv 0)))
   (aD (aW (i:=4) kT.nd rfl (Or.inl rfl) (bM cY (cF (aA (pv 2) (aA (pv 3) aB))) (aL c (u.mono (by decide)) pass0 rfl (aA (pv 0) (aA aJ aB))) (λ_ _=>rfl)))
   (aF (aO (bM cY (pv 4) (aL c (u.mono (by decide)) pass0 rfl (aA (pv 0) (aA (aK bG rfl T.n_len rfl (aA (pv 4) aB)) aB))) (λ_ _=>rfl)))))),?_⟩
  try dsimp only[cxOf,Cx.nox]
  simp only[jR];clear u F T c hu;obtain⟨a,b,fv,sv,t1,t2,t3,t4,t5,t6,t7⟩:=ht;have keep:=aI q (aI C (aI ho (aI L (aI Y (aI I hz)))));clear q C ho L Y I hz
  walk_at "rd"
  obtain⟨q,C,ho,L,Y,I,hz⟩:=keep;refine⟨.ref a,by rw[ixV_t t1];rfl,a,rfl,fv,.inl t2,λJ hJ=>DL hJ t4 I λg B=>⟨by decide,λr u=>?_⟩⟩;have W:1<=(zeros m).length:=by obtain⟨y,hy,e⟩:=hz;exact List.length_pos_of_mem (cx.mpr ⟨y,da.mpr ⟨hy,by simpa using e⟩,rfl⟩)
  have X:(zeros m).length<=12:=by have:=(gR m).length_le;rw[ae]at this;lia
  have R:=C.but (o:=.lst ((zeros m).map V.str)) (C.ne B);have p2:=R.but (o:=.lst [.ref o,.ref g]) (R.ne u);have b2:bU p H (upd (upd H g (.lst ((zeros m).map V.str))) r (.lst [.ref o,.ref g])):=(bU.new B).trans (bU.new u);have f2:upd (upd H g (.lst ((zeros m).map V.str))) r (.lst [.ref o,.ref g]) g=some (.lst ((zeros m).map V.str)):=by rw[aC (aE upd_same u)];exact upd_same
  have o2:=(ho.but b2)
  have r2:upd (upd H g (.lst ((zeros m).map V.str))) r (.lst [.ref o,.ref g]) r=some (.lst [.ref o,.ref g]):=upd_same;have nr:=(R.ne u).symm;have nl:=(C.ne B).symm;generalize upd (upd H g (.lst ((zeros m).map V.str))) r (.lst [.ref o,.ref g])=v at p2 b2 f2 o2 r2⊢;refine⟨p,2,rfl,p2,by decide,by decide,λd x y d0 d1=>?_⟩;have p3:bE (upd v p (.lst [.int x,.int y])) p:=⟨_,_,upd_same⟩
  have b3:=b2.trans (bU.upd p v (.lst [.int x,.int y]));have f3:upd v p (.lst [.int x,.int y]) g=some (.lst ((zeros m).map V.str)):=by rw[aC nl];exact f2
  have S:=o2.but (bU.upd p v (.lst [.int x,.int y]));have O:upd v p (.lst [.int x,.int y]) r=some (.lst [.ref o,.ref g]):=by rw[aC nr];exact r2
  generalize upd v p (.lst [.int x,.int y])=H3 at p3 b3 f3 S O⊢;have fin:∀(l:Addr) (ls:aT),H3 l=some (.lst (ls.map V.str))->1<=ls.length->ls.length<=12->l≠p->(∀z∈ls,z∈os∨z∈zeros m) ->
    ∃x,Option.map (λn=>V.int n) ((lenV H3 (.ref l)).bind λa=>some (a:Int))=some x/\fY [V.ref p,x] H3 (λy v=>∃G,ixV v (.ref l) y=some G/\Q G v) E0:=by
   intro l ls hl g1 g2 U Z;refine⟨.int ls.length,by rw[lenV_l hl];simp,p,ls.length,rfl,p3,by lia,by lia,λe x4 y4 e0 e1=>?_⟩;have he:e.toNat<ls.length:=by lia
   refine⟨.str ls[e.toNat],?_,q _ _ (b3.trans (bU.upd _ _ _)) ⟨_,_,upd_same⟩ (Z _ (List.getElem_mem he))⟩;rw[ixV_l (xs:=ls.map V.str) (by rw[aC U];exact hl),jW e0 (by rw[ae];exact e1),bI,az he];rfl
  dsimp only;have:d=0∨d=1:=by lia
  rcases this with rfl|rfl
  ·exact⟨.ref o,by rw[ixV_l O];rfl,fin o os S.1 L (by lia) S.2 λz hz=>.inl hz⟩
  ·exact⟨.ref g,by rw[ixV_l O];rfl,fin g _ f3 W X nl λz hz=>.inr hz⟩
def T8 (d:cP)(sm:cE)(c:Int)(r:Str×Int):Prop:=(0<r.2/\r.2<=c/\r∈d)∨(r.2=0/\1<c/\r.1∈sm.map (·.1))
def sO:Sp:=λvs H Q _=>∃(p t:Addr) (room:Int) (fx:cP) (sm:cE),vs=[.ref t,.int room]/\JZ p t fx sm H/\fx.length<=12/\sm.length<=3 /\
 ∀(l:Addr) (hs:cP) (hv:List V) (H':Hp),aG H H'->H l=none->H' l=some (.lst hv)->dE H' hs hv->hs.length<=18->(∀r∈hs,T8 fx sm room r)->Q (.ref l) H'
def HI (f:cP)(c:Int)(H:Hp)(i:Nat)(d:List V)(σ:St)(e:Hp):Prop:=∃(o1 o2:Option V) (hs:cP),σ=[o1,o2,some (.int c)]/\aG H e/\dE e hs d/\hs.length<=i/\∀r∈hs,0<r.2/\r.2<=c/\r∈f
def HJ (sm:cE)(H:Hp)(i:Nat)(c:List V)(σ:St)(d:Hp):Prop:=∃(o1 o2:Option V) (hs:cP),σ=[o1,o2]/\aG H d/\dE d hs c/\hs.length=i/\∀r∈hs,r.2=0/\r.1∈sm.map (·.1)
theorem dW.get:∀{l:cE} {vs:List V} {i:Nat} {v:V},dW H l vs->vs[i]?=some v->∃r t,l[i]?=some r/\v = .ref t/\H t=some (.tup [.str r.1,.str r.2])
 | [],_,_,_,h,e=>by cases h;simp at e
 | r::_,_,0,_,⟨t,us,e,h,q⟩,k=>by subst e;simp at k;exact⟨r,t,rfl,k.symm,h⟩
 | _::_,_,i+1,_,⟨t,us,e,h,q⟩,k=>by subst e;simp at k;obtain⟨r,t,f,d,c⟩:=dW.get q k;exact⟨r,t,by simpa using f,d,c⟩
theorem dW.len:∀{l:cE} {vs:List V},dW H l vs->vs.length=l.length
 | [],_,h=>by cases h;rfl
 | _::_,_,⟨t,us,e,h,q⟩=>by subst e;simp[dW.len q]
theorem dE.app:∀{l m:cP} {vs us:List V},dE H l vs->dE H m us->dE H (l++m) (vs++us)
 | [],_,_,_,h,k=>by cases h;exact k
 | _::_,_,_,_,⟨t,us,e,h,q⟩,k=>by subst e;exact⟨t,_,rfl,h,dE.app q k⟩
theorem LU (F:fP K "_law_heads" "_law_heads" eT f fd)(T:Txt mg):cA P w K mg base bJ 1 f fd pK sO:=by
 refine F.ok jT (λvs H Q E h=>?_) (λcdv A outer s H vs Q E W h=>?_)
 ·obtain⟨p,t,I,fx,sm,rfl,_⟩:=h;rfl
 ·obtain⟨p,t,I,fx,sm,rfl,ht,h1,h2,q⟩:=h;have S:=W.units
  refine⟨_,(aD (iQ (i:=2) jT.nd rfl rfl rfl rfl (bF.by (N:=gM) (names:=(aH eT).names) (N':=["_law_name","_law_parts","_law_room"]) (src:=[none,none,some 1]) (by decide +kernel) rfl rfl) (cV K rfl (bM cY (pv 0) aJ (λ_ _=>rfl))) (λ_ _ _ _=>(cL K rfl (i:=0) (j:=1) rfl (show List.Nodup (["_law_name","_law_parts","_law_room"]:aT)by decide +kernel) rfl rfl rfl rfl)) (λ_ _ _ _=>(k8 (lW (jU S) oT aJ (pv 1) (pv 2)))) (λ_ _ _ _=>(fA (aA (pv 0) (aA (pv 1) aB)))))
   (aD (bH (aU BS (pv 1) aJ (nomark _)) (aF (aW (i:=2) jT.nd rfl (Or.inl rfl) (bK bQ (pv 2) (bK (qF.or qE) (hV rfl (bF.by (N:=gM) (names:=(aH eT).names) (N':=["_law_name","_law_nought"]) (src:=[none,none]) (by decide +kernel) rfl rfl) (cV K rfl (bM cY (pv 0) aJ (λ_ _=>rfl))) (λ_ _ _ _=>(cL K rfl (i:=0) (j:=1) rfl (show List.Nodup (["_law_name","_law_nought"]:aT)by decide +kernel) rfl rfl rfl rfl)) (λ_ _ _ _=>eF) (λ_ _ _ _=>(fA (aA (pv 0) (aA aJ aB))))) aJ)))) aS)
   (aF (aO (pv 2))))),?_⟩
  try dsimp only[cxOf,Cx.nox]
  simp only[gM];clear W F T S;obtain⟨a,b,fv,sv,t1,t2,t3,t4,t5,t6,t7⟩:=ht;have keep:=aI q (aI h1 h2);clear q h1 h2
  walk_at "rd"
  obtain⟨q,h1,h2⟩:=keep;refine⟨.ref a,by rw[ixV_t t1];rfl,a,rfl,fv,.inl t2,λJ hJ=>cR hJ (HI fx I H) ⟨none,none,[],rfl,λ_ _ h=>h,rfl,ac _,by simp⟩ ?_ ?_ ?_⟩
  ·rintro i d σ H' _ ⟨_,_,_,_,U,_⟩;rw[U _ _ t2,t2]
  ·rintro i x d σ H1 hx ⟨o1,o2,hs,rfl,U,O,hl,R⟩;obtain⟨r,t',W,rfl,ht⟩:=(t4.same (bC.of U)).get hx;have hi:i<12:=by
    have:=(cr.mp W).1
    lia
   refine⟨t',_,rfl,iG.of ht,rfl,_,_,rfl,_,_,rfl,rfl,_,rfl,.inl (.inl ⟨0,rfl,r.2,rfl,_,rfl,?_⟩)⟩;by_cases z:0<r.2
   ·rw[ai (by simpa using z)];refine⟨_,rfl,_,_,rfl,rfl,_,rfl,?_⟩;dsimp only;by_cases z2:r.2<=I
    ·rw[ai (by simpa using z2)];refine⟨_,rfl,_,rfl,(by show 2<=sizeLine;decide),λu S=>⟨aj (m:=12) (by rw[O.len];lia) (by decide),?_⟩⟩;have g:=(O.same (bC.of (aG.upd (o:=.tup [.str r.1,.int r.2]) S))).snoc (n:=r.1) (k:=r.2) upd_same;exact⟨_,_,hs++[(r.1,r.2)],rfl,U.trans (aG.upd S),g,by rw[av];simp;lia,λy X=>(cw.mp X).elim (R y) λh=>by rw[cs.mp h];exact⟨z,z2,bj W⟩⟩
    ·rw[ab (by simpa using z2)];exact⟨_,_,hs,rfl,U,O,by lia,R⟩
   ·rw[ab (by simpa using z)];refine⟨false,rfl,?_⟩;dsimp only;rw[ab (by decide)];exact⟨_,_,hs,rfl,U,O,by lia,R⟩
  ·rintro d σ H1 ⟨o1,o2,hs,rfl,U,O,hl,R⟩ l Z;rw[t4.len]at hl;have s2:aG H (upd H1 l (.lst d)):=U.trans (aG.upd Z);have nl:H l=none:=by
    cases e:H l with
    | none=>rfl
    | some o=>have z:=U l o e;rw[Z]at z;cases z
   have g:=O.same (bC.of (aG.upd (o:=.lst d) Z));have l2:upd H1 l (.lst d) l=some (.lst d):=upd_same;generalize upd H1 l (.lst d)=H2 at s2 g l2⊢;by_cases W:1<I
   ·rw[ai W];refine⟨.ref b,by rw[ixV_t (s2 _ _ t1)];rfl,b,rfl,sv,.inl (s2 _ _ t3),λJ2 hJ2=>cR hJ2 (HJ sm H2) ⟨none,none,[],rfl,λ_ _ h=>h,rfl,rfl,by simp⟩ ?_ ?_ ?_⟩
    ·rintro i d σ H' _ ⟨_,_,_,_,s3,_⟩;rw[s3 _ _ (s2 _ _ t3),s2 _ _ t3]
    ·rintro i x c σ H3 hx ⟨o1,o2,hs2,rfl,s3,G,Y,L⟩;obtain⟨r,t',hr',rfl,ht⟩:=(t5.same (bC.of (s2.trans s3))).get hx;have hi:=(cr.mp hr').1;refine⟨t',_,rfl,iG.of ht,rfl,_,_,rfl,_,_,rfl,rfl,?_⟩;dsimp only[tYes];rw[ai rfl];refine⟨_,rfl,(by show 2<=sizeLine;decide),λu S=>⟨aj (m:=12) (by rw[G.len];lia) (by decide),?_⟩⟩;have B:=(G.same (bC.of (aG.upd (o:=.tup [.str r.1,.int 0]) S))).snoc (n:=r.1) (k:=0) upd_same;exact⟨_,_,hs2++[(r.1,0)],rfl,s3.trans (aG.upd S),B,by rw[av,Y];rfl,λy X=>(cw.mp X).elim (L y) λh=>by rw[cs.mp h];exact⟨rfl,cx.mpr ⟨r,bj hr',rfl⟩⟩⟩
    ·rintro c σ H3 ⟨o1,o2,hs2,rfl,s3,G,Y,L⟩ m hm;rw[t5.len]at Y;have s4:=s3.trans (aG.upd (o:=.lst c) hm);have B:=G.same (bC.of (aG.upd (o:=.lst c) hm));have m4:upd H3 m (.lst c) m=some (.lst c):=upd_same;generalize upd H3 m (.lst c)=H4 at s4 B m4⊢;refine .inr ⟨m,rfl,c,m4,by decide,by decide,aq (m:=100) (by rw[B.len];show _ * 2<=_;lia) (by decide),λu S=>?_⟩;have e2:(List.replicate (Int.toNat 2) c).flatten=c++c:=by show c++(c++[])=_;rw[bp]
     rw[e2];have l5:upd H4 u (.lst (c++c)) l=some (.lst d):=by rw[aC (aE (s4 _ _ l2) S)];exact s4 _ _ l2
     have s5:=s4.trans (aG.upd (o:=.lst (c++c)) S);have C:=B.same (bC.of (aG.upd (o:=.lst (c++c)) S));have u5:upd H4 u (.lst (c++c)) u=some (.lst (c++c)):=upd_same;generalize upd H4 u (.lst (c++c))=H5 at l5 s5 C u5⊢;refine⟨.lst (d++(c++c)),?_,λv hv=>?_⟩
     ·simp only[catO,l5,u5];exact ai (aq (m:=100) (by rw[av,C.len,(g.same (bC.of s5)).len];lia) (by decide))
     ·have s6:=(s2.trans s5).trans (aG.upd (o:=.lst (d++(c++c))) hv);have row6:=((g.same (bC.of s5)).app (C.app C)).same (bC.of (aG.upd (o:=.lst (d++(c++c))) hv));refine q v _ _ _ s6 ?_ upd_same row6 (by simp only[av];lia) λy X=>?_
      ·cases e:H v with
       | none=>rfl
       | some o=>have z:=(s2.trans s5) v o e;rw[hv]at z;cases z
      ·obtain h|h:=cw.mp X
       ·exact .inl (R y h)
       ·have:=(cw.mp h).elim (L y) (L y);exact .inr ⟨this.1,W,this.2⟩
   ·rw[ab W];exact q l hs d H2 s2 nl l2 g (by lia) λy X=>.inl (R y X)
def AT (c:cP)(sm:cE)(n:Str)(k:Nat):Prop:=(0<k/\(n,(k:Int))∈c)∨(2<=k/\n∈sm.map (·.1))
mutual
def aZ (c:cP)(sm:cE)(os:aT):D->Prop
 | .str x=>x∈os∨x∈zeros c
 | .tup (.str n::ds)=>AT c sm n ds.length/\IsTms c sm os ds
 | .lst (.str n::ds)=>AT c sm n ds.length/\IsTms c sm os ds
 | _=>False
def IsTms (c:cP)(sm:cE)(os:aT):List D->Prop
 | []=>True
 | d::ds=>aZ c sm os d/\IsTms c sm os ds
end
mutual
noncomputable def lvs:D->Nat
 | .tup (_::ds)=>lvss ds
 | .lst (_::ds)=>lvss ds
 | _=>1
noncomputable def lvss:List D->Nat
 | []=>0
 | d::ds=>lvs d+lvss ds
end
theorem IsTms.snoc {c:cP}{sm:cE}{os:aT}{d:D}(h:aZ c sm os d):∀{ds:List D},IsTms c sm os ds->IsTms c sm os (ds++[d])
 | [],_=>⟨h,trivial⟩
 | _::_,⟨a,b⟩=>⟨a,IsTms.snoc h b⟩
theorem xM (d:D):∀ds:List D,lvss (ds++[d])=lvss ds+lvs d
 | []=>by simp[lvss]
 | e::ds=>by rw[List.cons_append,lvss,xM d ds,lvss];lia
theorem vE (d:D):∀ds:List D,depDs (ds++[d])=max (depDs ds) (depD d)
 | []=>Nat.max_comm _ _
 | e::ds=>by rw[List.cons_append,depDs,vE d ds,depDs,Nat.max_assoc]
theorem Reps.snoc (h:aY H d v):∀{ds:List D} {vs:List V},Reps H ds vs->Reps H (ds++[d]) (vs++[v])
 | [],_,e=>by cases e;exact⟨v,[],rfl,h,rfl⟩
 | _::_,_,⟨x,r,e,a,b⟩=>by subst e;exact⟨x,r++[v],rfl,a,Reps.snoc h b⟩
theorem Reps.len:∀{ds:List D} {vs:List V},Reps H ds vs->vs.length=ds.length
 | [],_,e=>by cases e;rfl
 | _::_,_,⟨x,r,e,a,b⟩=>by subst e;simp[Reps.len b]
noncomputable def nw (H H':Hp):Hp:=λa=>if H a=none then H' a else none
noncomputable def nwB (r:Addr)(H H':Hp):Hp:=λa=>if H a=none/\a≠r then H' a else none
theorem fB:nw H H' a=some o ↔ H a=none/\H' a=some o:=by
 unfold nw;by_cases h:H a=none
 ·rw[ai h];exact⟨λe=>⟨h,e⟩,λe=>e.2⟩
 ·rw[ab h];exact⟨λe=>(by cases e),λe=>absurd e.1 h⟩
theorem fL:nwB r H H' a=some o ↔ (H a=none/\a≠r)/\H' a=some o:=by
 unfold nwB;by_cases h:H a=none/\a≠r
 ·rw[ai h];exact⟨λe=>⟨h,e⟩,λe=>e.2⟩
 ·rw[ab h];exact⟨λe=>(by cases e),λe=>absurd e.1 h⟩
def l7 (p t o:Addr)(c:cP)(sm:cE)(os:aT)(H:Hp):Prop:=bE H p/\JZ p t c sm H/\ND p o os H/\bD c sm/\1<=os.length/\os.length<=12
theorem l7.but {p t o:Addr}{c:cP}{sm:cE}{os:aT}{H H':Hp}(h:l7 p t o c sm os H)(hb:bU p H H')(d:bE H' p):l7 p t o c sm os H' :=
 ⟨d,h.2.1.but hb h.1,h.2.2.1.but hb,h.2.2.2⟩
def nJ (n:Nat):Sp:=λvs H Q _=>∃(p t o:Addr) (fx:cP) (sm:cE) (os:aT) (room deep:Nat),vs=[.ref p,.ref t,.ref o,.int room,.int deep]/\l7 p t o fx sm os H/\1<=room/\room<=64/\deep<=n /\
 ∀(d:D) (v:V) (H':Hp),bU p H H'->bE H' p->aY (nw H H') d v->aZ fx sm os d->lvs d<=room->depD d<=deep->Q v H'
theorem xD:∀{c:cP} {hv:List V},dE H c hv->Reps H (c.map λr=>D.tup [.str r.1,.int r.2]) hv
 | [],_,e=>e
 | r::_,_,⟨t,us,e,h,q⟩=>⟨.ref t,us,e,⟨t,_,rfl,h,_,_,rfl,rfl,_,_,rfl,rfl,rfl⟩,xD q⟩
theorem C0:∀c:cP,depDs (c.map λr=>D.tup [.str r.1,.int r.2])<=1
 | []=>ax _
 | r::c=>by
  have:=C0 c;rw[bf,depDs];show max 1 _<=1
  lia
def TI (p t o l rw:Addr)(c d parts:Nat)(nm:Str)(f:cP)(sm:cE)(os:aT)(H:Hp)(i:Nat)(σ:St)(e:Hp):Prop :=
 ∃(left:Nat) (ds:List D) (vs:List V) (o10 o11:Option V),σ=[some (.ref p),some (.ref t),some (.ref o),some (.int c),some (.int d),some (.ref l),some (.str nm),some (.int parts),some (.int left),some (.ref rw),o10,o11] /\
  bU p H e/\bE e p/\e rw=some (.lst (.str nm::vs))/\Reps (nwB rw H e) ds vs/\ds.length=i/\IsTms f sm os ds/\lvss ds+left+(parts - i)<=c/\depDs ds+1<=d
theorem wU {K0:PySem.W.Frag}{Q:VK}{H X:Hp}{p t o l rw:Addr}{R:cP}{sm:cE}{os:aT}{c f parts n:Nat}{nm:Str}(B:l7 p t o R sm os H)(dn:f<=n)(d1:1<=f)(r2:c<=64)(hpr:parts<=c)(hh:AT R sm nm parts)
  (b5:bU p H X) (p5:bE X p) (nr:H rw=none) (r5:X rw=some (.lst [.str nm]))
  (q:∀(d:D) (v:V) (H':Hp),bU p H H'->bE H' p->aY (nw H H') d v->aZ R sm os d->lvs d<=c->depD d<=f->Q v H') :
  sI (NN 0 parts) (gName 10) (tSeq (tAsg (tCall fY [] E0 (tCons (tVar 0) (tCons (tOp rAddF (tVar 8) (tC (V.int 1))) tNil))) (gName 11)) (tSeq (tAsg (tOp (rI0 λi j=>V.int (i - j)) (tVar 8) (tVar 11)) (gName 8))
   (tDrop (tBM K0 "list" rAppend (tVar 9) (tCons (tCall (λvs H Q E=>∃m,m<n/\nJ m vs H Q E) [] E0 (tCons (tVar 0) (tCons (tVar 1) (tCons (tVar 2) (tCons (tOp rAddF (tC (V.int 1)) (tVar 11)) (tCons (tOp (rI0 λi j=>V.int (i - j)) (tVar 4) (tC (V.int 1))) tNil)))))) tNil)))))
   {nx:=tRet (tOp (λx y H Q=>∃v,ixV H x y=some v/\Q v H) (tLst (tCons (tVar 9) (tCons (tCB rTupU (tCons (tVar 9) tNil)) tNil))) (tCall fY [] E0 (tCons (tVar 0) (tCons (tC (V.int 2)) tNil)))) {nx:=λx H'=>Q V.non H',rt:=Q},rt:=Q}
   [some (.ref p),some (.ref t),some (.ref o),some (.int c),some (.int f),some (.ref l),some (.str nm),some (.int parts),some (.int ((c:Int) - (parts:Int))),some (.ref rw),none,none] X:=by
 have r:rw≠p:=λz=>by obtain⟨x,y,e⟩:=B.1;rw[←z,nr]at e;cases e
 have N:H p≠none:=λz=>by obtain⟨x,y,e⟩:=B.1;rw[z]at e;cases e
 refine fR (TI p t o l rw c f parts nm R sm os H) ⟨c - parts,[],[],none,none,by rw[Int.ofNat_sub hpr],b5,p5,r5,rfl,rfl,trivial,by show 0+(c - parts)+(parts - 0)<=c;lia,d1⟩ ?_ ?_
 ·rintro i σ g hi ⟨left,ds,vs,o10,o11,rfl,b1,h,r1,S,U,tm,lv,dp⟩;refine⟨_,rfl,_,rfl,.inl ⟨.int (left+1),rfl,p,left+1,rfl,h,by lia,by lia,λmore x y m0 m1=>?_⟩⟩;obtain⟨k,rfl⟩:∃k:Nat,more=(k:Int):=⟨more.toNat,by lia⟩
  have b2:=b1.trans (bU.upd p g (.lst [.int x,.int y]));have p2:bE (upd g p (.lst [.int x,.int y])) p:=⟨_,_,upd_same⟩
  have r2':upd g p (.lst [.int x,.int y]) rw=some (.lst (.str nm::vs)):=by rw[aC r];exact r1
  have s2:∀a,a≠p->upd g p (.lst [.int x,.int y]) a=g a:=λa O=>aC O;generalize upd g p (.lst [.int x,.int y])=A at b2 p2 r2' s2⊢;refine⟨_,rfl,_,rfl,_,_,rfl,rfl,?_⟩;have e1:(1:Int)+(k:Int)=((1+k:Nat):Int):=by lia
  have e2:(f:Int) - 1=((f - 1:Nat):Int):=by lia
  refine⟨_,rfl,.inl ⟨rfl,_,eV.of r2'⟩,_,rfl,_,rfl,_,rfl,_,rfl,.inl ⟨_,rfl,_,rfl,_,_,rfl,rfl,f - 1,by lia,p,t,o,R,sm,os,1+k,f - 1,(by rw[←e1,←e2];rfl),B.but b2 p2,by lia,by lia,ac _,λd v H3 F p3 I Y lv3 dp3=>?_⟩⟩;have Z:=F rw _ r r2';have old:∀a,A a=none->H a=none:=λa O=>by
   cases e:H a with
   | none=>rfl
   | some u =>
    by_cases z:a=p
    ·obtain⟨x,y,e'⟩:=p2;rw[z,e']at O;cases O
    ·have:=b2 a u z e;rw[O]at this;cases this
  refine⟨rw,_,v,rfl,rfl,Z,aj (m:=100) (by simp only[au];rw[Reps.len S];lia) (by decide),?_⟩;refine⟨left - k,ds++[d],vs++[v],some (.int (0+i)),some (.int k),?_,AM (b2.trans F) nr,p3.but r.symm,by rw[upd_same];rfl,?_,by rw[av,U];rfl,tm.snoc Y,?_,?_⟩
  ·rw[Int.ofNat_sub (by lia)];rfl
  ·refine Reps.snoc (aY.same ?_ I) (Reps.same ?_ S)
   ·intro a u e;obtain⟨s,P⟩:=fB.mp e;have K:a≠rw:=λz=>by rw[z,r2']at s;cases s
    exact fL.mpr ⟨⟨old a s,K⟩,by rw[aC K];exact P⟩
   ·intro a u e;obtain⟨⟨s,P⟩,g3⟩:=fL.mp e;have L:a≠p:=λz=>N (by rw[←z];exact s);exact fL.mpr ⟨⟨s,P⟩,by rw[aC P];exact F a u L (by rw[s2 a L];exact g3)⟩
  ·rw[xM];lia
  ·rw[vE];lia
 ·rintro σ g ⟨left,ds,vs,o10,o11,rfl,b1,h,r1,S,U,tm,lv,dp⟩;refine⟨_,rfl,_,rfl,rw,_,rfl,.inl r1,λtp A hc=>?_⟩;rcases hc with⟨z,_⟩|⟨_,C,rfl⟩
  ·rw[r1]at z;cases z
  refine⟨(by show 2<=sizeLine;decide),λu T=>⟨_,rfl,p,2,rfl,(h.but (h.ne C)).but ((h.but (h.ne C)).ne T),by decide,by decide,λd x y d0 d2=>?_⟩⟩;have s2:aG g (upd (upd g tp (.tup (.str nm::vs))) u (.lst [.ref rw,.ref tp])):=(aG.upd C).trans (aG.upd T);have t2:upd (upd g tp (.tup (.str nm::vs))) u (.lst [.ref rw,.ref tp]) tp=some (.tup (.str nm::vs)):=by rw[aC (aE upd_same T)];exact upd_same
  have u2:upd (upd g tp (.tup (.str nm::vs))) u (.lst [.ref rw,.ref tp]) u=some (.lst [.ref rw,.ref tp]):=upd_same;have nup:u≠p:=((h.but (o:=.tup (.str nm::vs)) (h.ne C)).ne T).symm;have J:tp≠p:=(h.ne C).symm;generalize upd (upd g tp (.tup (.str nm::vs))) u (.lst [.ref rw,.ref tp])=A at s2 t2 u2⊢;have F:bU p H (upd A p (.lst [.int x,.int y])):=(b1.trans s2.but).trans (bU.upd _ _ _);have Z:upd A p (.lst [.int x,.int y]) rw=some (.lst (.str nm::vs)):=by rw[aC r];exact s2 _ _ r1
  have t3:upd A p (.lst [.int x,.int y]) tp=some (.tup (.str nm::vs)):=by rw[aC J];exact t2
  have u3:upd A p (.lst [.int x,.int y]) u=some (.lst [.ref rw,.ref tp]):=by rw[aC nup];exact u2
  have nt:H tp=none:=by
   cases e:H tp with
   | none=>rfl
   | some w=>have:=b1 tp w J e;rw[C]at this;cases this
  have G:Reps (nw H (upd A p (.lst [.int x,.int y]))) (.str nm::ds) (.str nm::vs):=by refine⟨_,_,rfl,rfl,Reps.same (λa w e=>?_) S⟩;obtain⟨⟨s,P⟩,g3⟩:=fL.mp e;exact fB.mpr ⟨s,by rw[aC (λz=>N (by rw[←z];exact s))];exact s2 _ _ g3⟩
  have dd:depDs (.str nm::ds)+1<=f:=by rw[depDs,show depD (.str nm)=0 from rfl];lia
  have ll:lvss ds<=c:=by lia
  dsimp only;have:d=0∨d=1:=by lia
  rcases this with rfl|rfl
  ·refine⟨.ref rw,by rw[ixV_l u3];rfl,q (.lst (.str nm::ds)) _ _ F ⟨_,_,upd_same⟩ ⟨rw,_,rfl,fB.mpr ⟨nr,Z⟩,G⟩ ?_ (by rw[lvs];exact ll) (by rw[depD];exact dd)⟩;unfold aZ;exact⟨by rw[U];exact hh,tm⟩
  ·refine⟨.ref tp,by rw[ixV_l u3];rfl,q (.tup (.str nm::ds)) _ _ F ⟨_,_,upd_same⟩ ⟨tp,_,rfl,fB.mpr ⟨nt,t3⟩,G⟩ ?_ (by rw[lvs];exact ll) (by rw[depD];exact dd)⟩;unfold aZ;exact⟨by rw[U];exact hh,tm⟩
theorem O4 (n:Nat)(F:fP K "_law_term" "_law_term" fS f fd)(T:Txt mg)(v:dG P w K mg base bJ 1 "_law_take" fY)(G:dG P w K mg base bJ 2 "_law_leaf" tX)(B:dG P w K mg base bJ 1 "_law_heads" sO)
  (C:dG P w K mg base bJ (n+3) "_law_term" (λvs H Q E=>∃m,m<n/\nJ m vs H Q E)):cA P w K mg base bJ (n+4) f fd iI (nJ n):=by
 refine F.ok cT (λvs H Q E h=>?_) (λcdv A outer s H vs Q E N h=>?_)
 ·obtain⟨p,t,o,fx,sm,os,J,Z,rfl,_⟩:=h;rfl
 ·obtain⟨p,t,o,fx,sm,os,J,Z,rfl,I,r1,r2,dn,q⟩:=h;have X:=N.units
  refine⟨_,(aD (aW (i:=5) cT.nd rfl (Or.inl rfl) (aL B (N.mono (by lia)) pass0 rfl (aA (pv 1) (aA (pv 3) aB))))
   (aD (bH (PW.pt (kG (aU (dL X) (pv 4) aJ (nomark _)) (kG (aU (dL X) (pv 5) (cF aB) (nomark _)) (iK (aU (dL X) (aL v (N.mono (by lia)) pass0 rfl (aA (pv 0) (aA aJ aB))) aJ (nomark _)))))) (aF (aO (aL G (N.mono (by lia)) pass0 rfl (aA (pv 0) (aA (pv 1) (aA (pv 2) aB)))))) aS)
   (aD (uE (bM cY (pv 5) (aL v (N.mono (by lia)) pass0 rfl (aA (pv 0) (aA (aK bG rfl T.n_len rfl (aA (pv 5) aB)) aB))) (λ_ _=>rfl)) (cL K rfl (i:=6) (j:=7) rfl cT.nd rfl rfl rfl rfl))
   (aD (bH (aU (dL X) (pv 7) aJ (nomark _)) (aF (aW (i:=7) cT.nd rfl (Or.inl rfl) (bK bQ aJ (aL v (N.mono (by lia)) pass0 rfl (aA (pv 0) (aA (aK (yF rfl) rfl T.n_min rfl (aA aJ (aA (bK qD (pv 3) aJ) aB))) aB)))))) aS)
   (aD (aW (i:=8) cT.nd rfl (Or.inl rfl) (bK qD (pv 3) (pv 7)))
   (aD (aW (i:=9) cT.nd rfl (Or.inl rfl) (cF (aA (pv 6) aB)))
   (aD (eE dh rfl (fT rfl T.n_range (aA (pv 7) aB)) (bP (i:=10) cT.nd rfl (Or.inl rfl)) (aD (aW (i:=11) cT.nd rfl (Or.inl rfl) (aL v (N.mono (by lia)) pass0 rfl (aA (pv 0) (aA (bK bQ (pv 8) aJ) aB))))
   (aD (aW (i:=8) cT.nd rfl (Or.inl rfl) (bK qD (pv 8) (pv 11)))
   (aF (cU (kH de dg df fU (pv 9) (aA (aL C (N.mono (by lia)) pass0 rfl (aA (pv 0) (aA (pv 1) (aA (pv 2) (aA (bK bQ aJ (pv 11)) (aA (bK qD (pv 4) aJ) aB)))))) aB)))))))
   (aF (aO (bM cY (cF (aA (pv 9) (aA (cH eM rfl T.n_tuple rfl (aA (pv 9) aB)) aB))) (aL v (N.mono (by lia)) pass0 rfl (aA (pv 0) (aA aJ aB))) (λ_ _=>rfl))))))))))),?_⟩
  try dsimp only[cxOf,Cx.nox]
  simp only[mF];clear N F T X v G B C;have keep:=aI q (aI I (aI r1 (aI r2 dn)));clear q I r1 r2 dn
  walk_at "rd"
  obtain⟨q,I,r1,r2,dn⟩:=keep;have U:∀W,bU p H W->bE W p->tX [.ref p,.ref t,.ref o] W Q E0:=λW b1 p1=>by have i1:=I.but b1 p1;exact⟨p,t,o,fx,sm,os,rfl,p1,i1.2.1,i1.2.2.1,i1.2.2.2.2.1,i1.2.2.2.2.2,I.2.2.2.1.f2,I.2.2.2.1.bare,λx H' b2 p2 hx=>q (.str x) (.str x) H' (b1.trans b2) p2 rfl (by unfold aZ;exact hx) r1 (ax _)⟩
  refine⟨p,t,J,fx,sm,rfl,I.2.1,I.2.2.2.1.f2,I.2.2.2.1.s2,λl Y hv W s1 nl l1 row hl hok=>?_⟩;have b1:bU p H W:=s1.but;have p1:bE W p:=by obtain⟨x,y,e⟩:=I.1;exact⟨x,y,s1 _ _ e⟩
  have nlp:l≠p:=λz=>by obtain⟨x,y,e⟩:=I.1;rw[←z,nl]at e;cases e
  dsimp only;by_cases hd0:(Z:Int)=0
  ·rw[ai hd0];exact U W b1 p1
  rw[ab hd0];refine⟨ax _,λu X=>?_⟩;have b2:=b1.trans (bU.new (p:=p) (o:=.lst []) X);have p2:=p1.but (o:=.lst []) (p1.ne X);have l2:upd W u (.lst []) l=some (.lst hv):=by rw[aC (aE l1 X)];exact l1
  have S:=row.same (bC.of (aG.upd (o:=.lst []) X));have u2:upd W u (.lst []) u=some (.lst []):=upd_same;generalize upd W u (.lst [])=H2 at b2 p2 l2 S u2⊢;refine⟨.lst (Y.map λr=>D.tup [.str r.1,.int r.2]),.lst [],⟨l,hv,rfl,l2,xD S⟩,⟨u,[],rfl,u2,rfl⟩,?_,_,rfl,?_⟩
  ·have:=C0 Y;rw[depD];lia
  by_cases he:Y=[]
  ·subst he;rw[ai (by rfl)];exact U H2 b2 p2
  rw[ab (by cases Y with|nil=>exact absurd rfl he|cons a b=>exact Bool.false_ne_true)];refine⟨p,7,rfl,p2,by decide,by decide,λd x y d0 d1=>?_⟩;have b3:=b2.trans (bU.upd p H2 (.lst [.int x,.int y]));have p3:bE (upd H2 p (.lst [.int x,.int y])) p:=⟨_,_,upd_same⟩
  have l3:upd H2 p (.lst [.int x,.int y]) l=some (.lst hv):=by rw[aC nlp];exact l2
  have R:=S.same (bC.pot (o:=.lst [.int x,.int y]) p2);generalize upd H2 p (.lst [.int x,.int y])=H3 at b3 p3 l3 R⊢;dsimp only;rw[rEqD_ii];refine⟨_,rfl,?_⟩;by_cases hd:d=0
  ·rw[ai (by simpa using hd)];exact U H3 b3 p3
  rw[ab (by simpa using hd)];have hn:1<=Y.length:=by cases Y with|nil=>exact absurd rfl he|cons a b=>simp
  refine⟨.int Y.length,by rw[lenV_l l3,R.len];rfl,p,Y.length,rfl,p3,by lia,by lia,λe x4 y4 e0 e1=>?_⟩;have b4:=b3.trans (bU.upd p H3 (.lst [.int x4,.int y4]));have p4:bE (upd H3 p (.lst [.int x4,.int y4])) p:=⟨_,_,upd_same⟩
  have l4:upd H3 p (.lst [.int x4,.int y4]) l=some (.lst hv):=by rw[aC nlp];exact l3
  have O:=R.same (bC.pot (o:=.lst [.int x4,.int y4]) p3);generalize upd H3 p (.lst [.int x4,.int y4])=H4 at b4 p4 l4 O⊢;have hle:e.toNat<hv.length:=by rw[O.len];lia
  obtain⟨r,tt,N,hv',ht⟩:=O.get (az hle);have hok':=hok r (bj N);refine⟨.ref tt,by rw[ixV_l l4,jW e0 (by lia),az hle,hv'],tt,rfl,_,iG.of ht,rfl,_,_,rfl,_,_,rfl,rfl,?_⟩;rw[rEqD_ii];refine⟨_,rfl,?_⟩;by_cases hz:r.2=0
  ·rw[ai (by simpa using hz)];have h0:1<(J:Int)/\r.1∈sm.map (·.1):=by
    rcases hok' with⟨a,_,_⟩|⟨_,b,c⟩
    ·lia
    ·exact⟨b,c⟩
   refine⟨4,(J:Int) - 1,⟨rfl,rfl⟩,p,_,rfl,p4,by split <;> lia,by split <;> lia,λg x5 y5 g0 g1=>⟨.int (2+g),rfl,2+g,rfl,by decide,λu5 L=>⟨2+g,rfl,by split at g1 <;> lia,by split at g1 <;> lia,?_⟩⟩⟩;obtain⟨k,hk⟩:∃k:Nat,2+g=(k:Int):=⟨(2+g).toNat,by lia⟩
   have hk2:2<=k/\k<=J:=by split at g1 <;> lia
   rw[hk,cq];have b5:=(b4.trans (bU.upd p H4 (.lst [.int x5,.int y5]))).trans (bU.new (o:=.lst [.str r.1]) L);have p5:bE (upd H4 p (.lst [.int x5,.int y5])) p:=⟨_,_,upd_same⟩
   refine wU I dn (by lia) r2 hk2.2 (.inr ⟨hk2.1,h0.2⟩) b5 (p5.but (p5.ne L)) ?_ upd_same q;cases e:H u5 with
   | none=>rfl
   | some w=>have:=(b4.trans (bU.upd p H4 (.lst [.int x5,.int y5]))) u5 w (p5.ne L).symm e;rw[L]at this;cases this
  ·rw[ab (by simpa using hz)];have h0:0<r.2/\r.2<=(J:Int)/\r∈fx:=by
    rcases hok' with h|⟨h,_⟩
    ·exact h
    ·exact absurd h hz
   refine⟨r.2,rfl,by decide,λu5 L=>⟨r.2,rfl,by lia,by lia,?_⟩⟩;obtain⟨k,hk⟩:∃k:Nat,r.2=(k:Int):=⟨r.2.toNat,by lia⟩
   have hm:(r.1,(k:Int))∈fx:=by rw[←hk];exact h0.2.2
   rw[hk,cq];have b5:=b4.trans (bU.new (p:=p) (o:=.lst [.str r.1]) L);refine wU I dn (by lia) r2 (by lia) (.inl ⟨by lia,hm⟩) b5 (p4.but (p4.ne L)) ?_ upd_same q;cases e:H u5 with
   | none=>rfl
   | some w=>have:=b4 u5 w (p4.ne L).symm e;rw[L]at this;cases this
theorem P8 (F:fP K "_law_term" "_law_term" fS f fd)(T:Txt mg)(d:dG P w K mg base bJ 1 "_law_take" fY)(e:dG P w K mg base bJ 2 "_law_leaf" tX)(c:dG P w K mg base bJ 1 "_law_heads" sO)
  (o:mg "_law_term" = some (.ref f)) (p:PySem.W.keepIn K (.ref f)=true) (hb:eI K fd iI []):∀n,cA P w K mg base bJ (n+4) f fd iI (nJ n):=by
 intro n
 induction n using Nat.strongRecOn with
 | ind n i =>
  exact O4 n F T d e c ⟨f,fd,_,⟨λvs H Q E ⟨m,g,h⟩=>(i m g).len vs H Q E h,λA outer s H args us vs Q E l q hb j ⟨m,g,h⟩=>((i m g).mono (by lia)).run A outer s H args us vs Q E l q hb j h⟩,o,p,hb⟩
theorem LD (F:fP K "_law_term" "_law_term" fS f fd)(T:Txt mg)(d:dG P w K mg base bJ 1 "_law_take" fY)(e:dG P w K mg base bJ 2 "_law_leaf" tX)(c:dG P w K mg base bJ 1 "_law_heads" sO)
  (g:mg "_law_term" = some (.ref f)) (h:PySem.W.keepIn K (.ref f)=true) (hb:eI K fd iI []) (n:Nat):dG P w K mg base bJ (n+4) "_law_term" (nJ n):=⟨f,fd,_,P8 F T d e c g h hb n,g,h,hb⟩
end
abbrev M:=Nat×Str×Nat
noncomputable def sL (x y:Str):Bool:=decide (x.cps.toList<y.cps.toList)
theorem NX {x y:Str}(h:x.cps.toList=y.cps.toList):x=y:=by cases x;cases y;simp only[Str.mk.injEq];exact Array.toList_inj.mp h
theorem R6 (x:Str):sL x x=false:=bo (List.lt_irrefl _)
theorem N3 (h:sL x y=true):sL y x=false:=bo λk=>absurd (List.lt_trans (bu h) k) (List.lt_irrefl _)
theorem KW (n:x≠y):sL x y=true∨sL y x=true:=by
 by_cases h:x.cps.toList<y.cps.toList
 ·exact .inl (bi h)
 ·by_cases k:y.cps.toList<x.cps.toList
  ·exact .inr (bi k)
  ·exact absurd (NX (List.le_antisymm (List.not_lt.mp k) (List.not_lt.mp h))) n
noncomputable def ltM (a b:M):Bool:=if a.1=b.1 then(if a.2.1=b.2.1 then decide (a.2.2<b.2.2)else sL a.2.1 b.2.1)else decide (a.1<b.1)
theorem uP (h:ltM a b=true):ltM b a=false:=by
 obtain⟨a1,a2,f⟩:=a;obtain⟨b1,b2,e⟩:=b;unfold ltM at h⊢;dsimp only at h⊢;by_cases d:a1=b1
 ·subst d;rw[ai rfl]at h⊢;by_cases c:a2=b2
  ·subst c;rw[ai rfl]at h⊢;exact bo (by have:=bu h;lia)
  ·rw[ab c]at h;rw[ab (Ne.symm c)];exact N3 h
 ·rw[ab d]at h;rw[ab (Ne.symm d)];exact bo (by have:=bu h;lia)
theorem qH (n:a≠b):ltM a b=true∨ltM b a=true:=by
 obtain⟨a1,a2,f⟩:=a;obtain⟨b1,b2,e⟩:=b;unfold ltM;dsimp only;by_cases d:a1=b1
 ·subst d;rw[ai rfl,ai rfl];by_cases c:a2=b2
  ·subst c;rw[ai rfl,ai rfl];have:f≠e:=λz=>n (by rw[z]);rcases Nat.lt_or_gt_of_ne this with h|h
   ·exact .inl (bi h)
   ·exact .inr (bi h)
  ·rw[ab c,ab (Ne.symm c)];exact KW c
 ·rw[ab d,ab (Ne.symm d)];rcases Nat.lt_or_gt_of_ne d with h|h
  ·exact .inl (bi h)
  ·exact .inr (bi h)
noncomputable def lexK:List M->List M->Bool
 | [],[]=>false
 | [],_::_=>true
 | _::_,[]=>false
 | a::s,b::t=>if a=b then lexK s t else ltM a b
theorem oX:∀s:List M,lexK s s=false
 | []=>rfl
 | a::s=>by rw[lexK,ai rfl,oX s]
theorem qI:∀{s t:List M},lexK s t=true->lexK t s=false
 | [],[],h=>by cases h
 | [],_::_,_=>rfl
 | _::_,[],h=>by cases h
 | a::s,b::t,h=>by
  rw[lexK]at h⊢;by_cases e:a=b
  ·rw[ai e]at h;rw[ai e.symm];exact qI h
  ·rw[ab e]at h;rw[ab (Ne.symm e)];exact uP h
theorem nQ:∀{s t:List M},s≠t->lexK s t=true∨lexK t s=true
 | [],[],n=>absurd rfl n
 | [],_::_,_=>.inl rfl
 | _::_,[],_=>.inr rfl
 | a::s,b::t,n=>by
  rw[lexK,lexK];by_cases e:a=b
  ·rw[ai e,ai e.symm];exact nQ λz=>n (by rw[e,z])
  ·rw[ab e,ab (Ne.symm e)];exact qH e
noncomputable def sortS (x:Str):Nat:=if x.cps.toList[0]?=some 63 then 0 else 1
mutual
noncomputable def key:D->List M
 | .str x=>[(sortS x,x,0)]
 | .tup (.str n::ds)=>(2,n,ds.length+1)::keys ds
 | _=>[]
noncomputable def keys:List D->List M
 | []=>[]
 | d::ds=>key d++keys ds
end
mutual
/-- texts and tuples whose first is a text -/
def Fl:D->Prop
 | .str x=>1<=x.cps.toList.length/\x.cps.toList.length<=20
 | .tup (.str _::ds)=>Fls ds
 | _=>False
def Fls:List D->Prop
 | []=>True
 | d::ds=>Fl d/\Fls ds
end
noncomputable def sortD:D->Nat
 | .str x=>sortS x
 | _=>2
mutual
/-- part by part -/
noncomputable def ah:D->D->Bool
 | .str x,.str y=>if sortS x=sortS y then sL x y else decide (sortS x<sortS y)
 | .tup (.str n::ds),.tup (.str m::c)=>if n=m then(if ds.length=c.length then ahs ds c else decide (ds.length<c.length))else sL n m
 | d,e=>decide (sortD d<sortD e)
noncomputable def ahs:List D->List D->Bool
 | d::ds,e::c=>if eqD d e=true then ahs ds c else ah d e
 | _,_=>false
end
theorem oF (x:Str):sortS x<2:=by unfold sortS;split <;> lia
mutual
theorem zY:∀(d e:D) (s t:List M),Fl d->Fl e->lexK (key d++s) (key e++t)=if eqD d e=true then lexK s t else ah d e
 | .str x,.str y,s,t,_,_=>by
  have f:eqD (.str x) (.str y)=(x == y):=rfl;show(if ((sortS x,x,0):M)=(sortS y,y,0)then lexK s t else ltM (sortS x,x,0) (sortS y,y,0))=_;rw[f];by_cases e:x=y
  ·subst e;rw[ai rfl,ai (by simp)]
  ·rw[ab (λz=>e (by simp at z;exact z.2)),ab (by simpa using e),ah];unfold ltM;dsimp only;by_cases h:sortS x=sortS y
   ·rw[ai h,ab e,ai h]
   ·rw[ab h,ab h]
 | .str x,.tup (.str m::c),s,t,_,_=>by
  have f:eqD (.str x) (.tup (.str m::c))=false:=rfl;have:=oF x;show(if ((sortS x,x,0):M)=(2,m,c.length+1)then _ else ltM (sortS x,x,0) (2,m,c.length+1))=_;rw[f,ab (λz=>by simp at z),ab (by decide),ah]
  ·unfold ltM;rw[ab (by dsimp only;lia)];rfl
  all_goals (intros;simp_all)
 | .tup (.str n::ds),.str y,s,t,_,_=>by
  have f:eqD (.tup (.str n::ds)) (.str y)=false:=rfl;have:=oF y;show(if ((2,n,ds.length+1):M)=(sortS y,y,0)then _ else ltM (2,n,ds.length+1) (sortS y,y,0))=_;rw[f,ab (λz=>by simp at z),ab (by decide),ah]
  ·unfold ltM;rw[ab (by dsimp only;lia)];rfl
  all_goals (intros;simp_all)
 | .tup (.str n::ds),.tup (.str m::c),s,t,l,j=>by
  have f:eqD (.tup (.str n::ds)) (.tup (.str m::c))=((n == m) && eqDs ds c):=rfl;show(if ((2,n,ds.length+1):M)=(2,m,c.length+1)then lexK (keys ds++s) (keys c++t)else ltM (2,n,ds.length+1) (2,m,c.length+1))=_;rw[f,ah];by_cases i:n=m
  ·subst i;by_cases g:ds.length=c.length
   ·rw[ai (by rw[g]),ai rfl,ai g,CG ds c s t g l j];simp
   ·rw[ab (λz=>g (by simp at z;lia)),ai rfl,ab g];have:eqDs ds c=false:=by
     cases h:eqDs ds c with
     | false=>rfl
     | true=>rw[iE]at h;simp at h;exact absurd h.2 g
    rw[this,ab (by simp)];unfold ltM;dsimp only;rw[ai rfl,ai rfl];simp
  ·rw[ab (λz=>i (by simp at z;exact z.1)),ab (by simp[i]),ab i];unfold ltM;dsimp only;rw[ai rfl,ab i]
theorem CG:∀(ds c:List D) (s t:List M),ds.length=c.length->Fls ds->Fls c->lexK (keys ds++s) (keys c++t)=if eqDs ds c=true then lexK s t else ahs ds c
 | [],[],s,t,_,_,_=>by rw[eqDs,ai rfl];rfl
 | d::ds,e::c,s,t,f,⟨f1,f2⟩,⟨i,g⟩=>by
  rw[keys,keys,cp,cp,zY d e _ _ f1 i,CG ds c s t (by simpa using f) f2 g,eqDs,ahs];by_cases h:eqD d e=true
  ·rw[ai h,ai h,h,Bool.true_and]
  ·have h':eqD d e=false:=by simpa using h
   rw[ab h,ab h,h',Bool.false_and,ab (by decide)]
 | [],_::_,_,_,h,_,_=>by simp at h
 | _::_,[],_,_,h,_,_=>by simp at h
end
theorem uS (f:Fl d)(c:Fl e):lexK (key d) (key e)=(!eqD d e && ah d e):=by have:=zY d e [] [] f c;rw[bp,bp]at this;rw[this];cases h:eqD d e <;> simp[lexK]
theorem PZ (f:Fl d)(c:Fl e)(h:key d=key e):eqD d e=true:=by
 have a:=uS f c;have b:=zY d e [] [(0,default,0)] f c;rw[bp,h]at b;cases q:eqD d e with
 | true=>rfl
 | false =>
  rw[q,ab (by decide)]at b;rw[q,h,oX,←b]at a;have:∀(s:List M) (m:M),lexK s (s++[m])=true:=by
   intro s m
   induction s with
   | nil=>rfl
   | cons a s g=>rw[List.cons_append,lexK,ai rfl,g]
  rw[this]at a;cases a
section
variable {P:Program}{w:World}{K:PySem.W.Frag}{mg:jB}{base:Heap}
theorem AA (h:H a=some (.tup xs)):isV H (.ref a) (.ty "tuple")=some true:=by unfold isV tyN;simp only[h];rfl
def yZ:Sp:=λvs H Q _=>∃(d:D) (v:V),vs=[v]/\aY H d v/\Fl d/\Q (.int (sortD d)) H
theorem O6 (F:fP K "_law_sort" "_law_sort" jI f fd)(T:Txt mg):cA P w K mg base bJ 1 f fd rR yZ:=by
 refine F.ok zA (λvs H Q E h=>?_) (λo A outer s H vs Q E i h=>?_)
 ·obtain⟨d,v,rfl,_⟩:=h;rfl
 ·obtain⟨d,v,rfl,rep,fl,q⟩:=h;have g:=i.units
  refine⟨_,(aD (bH (aV K rfl (aK aM rfl T.n_isinstance rfl (aA (pv 0) (aA (bZ (v:=V.ty "tuple") rfl T.n_tuple rfl rfl) aB))) (λ_=>rfl)) (aF (aO aJ)) aS)
   (aF (aO (cH qT rfl T.n_int rfl (aA (dR (dS g) (bM cY (pv 0) aJ (λ_ _=>rfl)) gW (nomark _)) aB))))),?_⟩
  try dsimp only[cxOf,Cx.nox]
  simp only[rY];clear i F T g;have keep:=aI q (aI rep fl);clear q rep fl
  walk_at "rd"
  obtain⟨q,rep,fl⟩:=keep;cases d with
  | str x =>
   cases (show v = .str x from rep);obtain⟨f1,f2⟩:=(show 1<=x.cps.toList.length/\x.cps.toList.length<=20 from by unfold Fl at fl;exact fl)
   obtain⟨c,hc⟩:∃c,x.cps.toList[0]?=some c:=⟨_,az (by lia)⟩
   refine⟨false,rfl,?_⟩;rw[ab (by decide)];refine⟨.str ⟨#[c]⟩,?_,?_⟩
   ·show(if x.length<=sizeLine then(atI x.cps.toList 0).map λc=>V.str ⟨#[c]⟩else none)=_;rw[ai (aq (m:=20) (by simpa [Str.length] using f2) (by decide)),jW (by decide) (by lia),show(0:Int).toNat=0 from rfl,hc];rfl
   ·rw[rNeD_ss];refine⟨_,rfl,?_⟩;have e:(if (!decide ((⟨#[c]⟩:Str)=Str.ofString "?"))=true then(1:Int)else 0)=((sortD (.str x):Nat):Int):=by
     show _=((sortS x:Nat):Int);unfold sortS;rw[hc];have j:Str.ofString "?" = ⟨#[63]⟩:=by decide +kernel
     by_cases z:c=63
     ·subst z;rw[j];simp
     ·have:¬((⟨#[c]⟩:Str)=Str.ofString "?"):=λw=>by rw[j]at w;simp at w;exact z w
      simp[this,z]
    rw[e];exact q
  | tup ds =>
   obtain⟨a,vs,rfl,l,_⟩:=rep;refine⟨true,?_,?_⟩
   ·exact AA l
   ·rw[ai rfl];exact q
  | _=>unfold Fl at fl;exact absurd fl id
def kP (n:Nat):Sp:=λvs H Q _=>∃(d e:D) (v u:V),vs=[v,u]/\aY H d v/\aY H e u/\Fl d/\Fl e/\depD d<=n/\depD d<=50/\∀H',aG H H'->Q (.bl (ah d e)) H'
theorem JF {g:TG}{h:TS}{D:jD}{σ:St}{H:Hp}{a b:Addr}(xs ys:List V)(Pv:Nat->St->Hp->Prop)(w:Pv 0 σ H)(u:∀i σ H,i<=min xs.length ys.length->Pv i σ H->eW H a xs/\eW H b ys)
  (t:∀i x y T σ H,xs[i]?=some x->ys[i]?=some y->Pv i σ H->H T=none->g (.ref T) σ (upd H T (.tup [x,y])) λj A=>h {D with nx:=Pv (i+1),ct:=Pv (i+1),bk:=D.nx} j A)
  (hd:∀σ H,Pv (min xs.length ys.length) σ H->D.nx σ H):sI (T7 a b) g h D σ H:=by
 refine⟨λi m σ H=>m=min xs.length ys.length - i/\i<=min xs.length ys.length/\Pv i σ H,⟨min xs.length ys.length,by simp,ax _,w⟩,?_⟩;rintro i m σ H ⟨rfl,hi,p⟩;obtain⟨f,d⟩:=u i σ H hi p;by_cases c:i<min xs.length ys.length
 ·have s:i<xs.length:=bg c (Nat.min_le_left _ _);have r:i<ys.length:=bg c (Nat.min_le_right _ _);refine .inr ⟨⟨xs,ys,xs[i],ys[i],f,d,by simp[s],by simp[r]⟩,Pv (i+1),λB H' q=>⟨min xs.length ys.length - (i+1),by lia,rfl,c,q⟩,λz H' y=>?_⟩;obtain⟨T,x,y,rfl,v,rfl,q⟩:=y;obtain⟨o,l⟩:=q xs ys f d;exact t i x y T σ H o l p v
 ·have e:i=min xs.length ys.length:=by lia
  subst e;exact .inl ⟨⟨xs,ys,f,d,by lia⟩,hd σ H p⟩
theorem Reps.get:∀{ds:List D} {vs:List V} {i:Nat} {v:V},Reps H ds vs->vs[i]?=some v->∃d,ds[i]?=some d/\aY H d v
 | [],_,_,_,e,h=>by cases e;simp at h
 | d::_,_,0,_,⟨x,r,e,a,b⟩,h=>by subst e;simp at h;subst h;exact⟨d,rfl,a⟩
 | _::_,_,i+1,_,⟨x,r,e,a,b⟩,h=>by subst e;simp at h;obtain⟨d,f,c⟩:=Reps.get b h;exact⟨d,by simpa using f,c⟩
theorem Fls.get:∀{ds:List D} {i:Nat} {d:D},Fls ds->ds[i]?=some d->Fl d
 | [],_,_,_,z=>by simp at z
 | _::_,0,_,⟨a,_⟩,h=>by simp at h;subst h;exact a
 | _::_,i+1,_,⟨_,b⟩,h=>Fls.get b (by simpa using h)
theorem iF:∀{ds:List D} {i:Nat} {d:D},ds[i]?=some d->depD d<=depDs ds
 | [],_,_,h=>by simp at h
 | e::ds,0,_,h=>by simp at h;subst h;rw[depDs];lia
 | e::ds,i+1,_,h=>by have:=iF (ds:=ds) (i:=i) (by simpa using h);rw[depDs];lia
theorem CV {α:Type}{l:List α}{i:Nat}{x:α}(h:l[i]?=some x):l.drop i=x::l.drop (i+1):=by have⟨hi,e⟩:=cr.mp h;rw[List.drop_eq_getElem_cons hi,e]
def ZI (d e:Addr)(ds c:List D)(H:Hp)(i:Nat)(σ:St)(g:Hp):Prop:=∃o2 f:Option V,σ=[some (.ref d),some (.ref e),o2,f]/\aG H g/\ahs ds c=ahs (ds.drop i) (c.drop i)
theorem iL (h:Fl d):(∃x,d = .str x/\1<=x.cps.toList.length/\x.cps.toList.length<=20)∨∃n ds,d = .tup (.str n::ds)/\Fls ds:=by
 unfold Fl at h;split at h
 ·exact .inl ⟨_,rfl,h⟩
 ·exact .inr ⟨_,_,rfl,h⟩
 ·exact absurd h id
theorem QO (hd:Fl d)(c:Fl e)(n:sortD d≠sortD e):ah d e=decide (sortD d<sortD e):=by
 rcases iL hd with⟨x,rfl,_⟩|⟨a,ds,rfl,_⟩ <;> rcases iL c with⟨y,rfl,_⟩|⟨b,f,rfl,_⟩
 ·rw[ah];exact ab n
 ·rw[ah]
  all_goals (intros;simp_all)
 ·rw[ah]
  all_goals (intros;simp_all)
 ·exact absurd rfl n
theorem LZ (n:Nat)(F:fP K "_law_ahead" "_law_ahead" eU f fd)(T:Txt mg)(g:dG P w K mg base bJ 1 "_law_sort" yZ)
  (p:dG P w K mg base bJ (n+1) "_law_ahead" (λvs H Q E=>∃m,m<n/\kP m vs H Q E)):cA P w K mg base bJ (n+2) f fd gL (kP n):=by
 refine F.ok mX (λvs H Q E h=>?_) (λcdv A outer s H vs Q E N h=>?_)
 ·obtain⟨d,e,v,u,rfl,_⟩:=h;rfl
 ·obtain⟨d,e,v,u,rfl,r1,L,f1,f2,dn,G,q⟩:=h;have C:=N.units
  refine⟨_,(aD (bH (aU (dS C) (aL g (N.mono (by lia)) pass0 rfl (aA (pv 0) aB)) (aL g (N.mono (by lia)) pass0 rfl (aA (pv 1) aB)) (nomark _)) (aF (aO (dR (jU C) (aL g (N.mono (by lia)) pass0 rfl (aA (pv 0) aB)) (aL g (N.mono (by lia)) pass0 rfl (aA (pv 1) aB)) (nomark _)))) aS)
   (aD (bH (dA (aV K rfl (aK aM rfl T.n_isinstance rfl (aA (pv 0) (aA (bZ (v:=V.ty "tuple") rfl T.n_tuple rfl rfl) aB))) (λ_=>rfl))) (aF (aO (dR (jU C) (pv 0) (pv 1) (nomark _)))) aS)
   (aD (bH (aU (dS C) (bM cY (pv 0) aJ (λ_ _=>rfl)) (bM cY (pv 1) aJ (λ_ _=>rfl)) (nomark _)) (aF (aO (dR (jU C) (bM cY (pv 0) aJ (λ_ _=>rfl)) (bM cY (pv 1) aJ (λ_ _=>rfl)) (nomark _)))) aS)
   (aD (bH (aU (dS C) (aK bG rfl T.n_len rfl (aA (pv 0) aB)) (aK bG rfl T.n_len rfl (aA (pv 1) aB)) (nomark _)) (aF (aO (dR (jU C) (aK bG rfl T.n_len rfl (aA (pv 0) aB)) (aK bG rfl T.n_len rfl (aA (pv 1) aB)) (nomark _)))) aS)
   (aD (eE dh rfl (OH rfl T.n_zip (aA (fH kQ (pv 0) (eG aJ) fK) (aA (fH kQ (pv 1) (eG aJ) fK) aB))) (cL K rfl (i:=2) (j:=3) rfl mX.nd rfl rfl rfl rfl) (aF (bH (aU (dS C) (pv 2) (pv 3) (nomark _)) (aF (aO (aL p (N.mono (by lia)) pass0 rfl (aA (pv 2) (aA (pv 3) aB))))) aS)))
   (aF (aO mY))))))),?_⟩
  try dsimp only[cxOf,Cx.nox]
  simp only[lF];clear N F T C g p;have keep:=aI q (aI r1 (aI L (aI f1 (aI f2 (aI dn G)))));clear q r1 L f1 f2 dn G
  walk_at "rd"
  obtain⟨q,r1,L,f1,f2,dn,G⟩:=keep;refine⟨d,v,rfl,r1,f1,e,u,rfl,L,f2,?_⟩;dsimp only;rw[rNeD_ii];refine⟨_,rfl,?_⟩;by_cases hs:sortD d=sortD e
  ·rw[hs,ab (by simp)];rcases iL f1 with⟨x,rfl,_⟩|⟨a,ds,rfl,fds⟩
   ·obtain⟨y,rfl,_⟩:∃y,e = .str y/\True:=by
     rcases iL f2 with⟨y,rfl,_⟩|⟨b,B,rfl,_⟩
     ·exact⟨y,rfl,trivial⟩
     ·have:=oF x;have:sortS x=2:=hs;lia
    cases (show v = .str x from r1);cases (show u = .str y from L);refine⟨false,rfl,?_⟩;rw[ai rfl];refine .inl (.inr ⟨x,rfl,y,rfl,?_⟩);have U:ah (.str x) (.str y)=sL x y:=by rw[ah];exact ai hs
    have:=q H (λ_ _ h=>h);rw[U]at this;exact this
   ·obtain⟨b,B,rfl,fes⟩:∃b B,e = .tup (.str b::B)/\Fls B:=by
     rcases iL f2 with⟨y,rfl,_⟩|h
     ·have:=oF y;have:2=sortS y:=hs;lia
     ·exact h
    obtain⟨va,vs,rfl,S,_,t,rfl,h1,Y⟩:=r1;obtain⟨ua,us,rfl,hb,_,r,rfl,h2,res⟩:=L;cases h1;cases h2;refine⟨true,AA S,?_⟩;rw[ab (by decide)];refine⟨.str a,by rw[ixV_t S,atI_zero],.str b,by rw[ixV_t hb,atI_zero],?_⟩;rw[rNeD_ss];refine⟨_,rfl,?_⟩;by_cases hn:a=b
    ·subst hn;rw[ab (by simp)];refine⟨_,by rw[lenV_t S];rfl,_,by rw[lenV_t hb];rfl,?_⟩;rw[rNeD_ii];refine⟨_,rfl,?_⟩;have la:=Reps.len Y;have lb:=Reps.len res;by_cases hl:ds.length=B.length
     ·rw[ab (by simp only[au,la,lb,hl];simp)];have I:∀(x:V) (l:List V),cutV (x::l) (some 1) none=l:=λx l=>vF (x::l) 1;have nf:∀(x:V) (l:List V),¬(HT.sIx (x::l).length 0 (some 1)=0/\HT.sIx (x::l).length (x::l).length none=(x::l).length):=λx l h=>by
       have e:=h.1;rw[show((1:Int))=((1:Nat):Int)from rfl,HT.sIx_nat]at e;simp only[au]at e
       lia
      refine⟨va,rfl,_,.inr S,λ_=>nf _ _,λc o hc ho=>⟨ua,rfl,_,.inr (by rw[aC (aE hb hc)];exact hb),λ_=>nf _ _,λW o2 hc2 ho2=>⟨c,W,⟨rfl,rfl⟩,?_⟩⟩⟩;have hb':upd H c o ua=some (.tup (.str a::r)):=by rw[aC (aE hb hc)];exact hb
      have eo:o = .tup t:=by
       rcases ho with⟨_,z⟩|⟨z,_⟩
       ·rw[S]at z;cases z
       ·rw[z,I]
      have eo2:o2 = .tup r:=by
       rcases ho2 with⟨_,z⟩|⟨z,_⟩
       ·rw[hb']at z;cases z
       ·rw[z,I]
      subst eo eo2;have s2:aG H (upd (upd H c (.tup t)) W (.tup r)):=(aG.upd hc).trans (aG.upd hc2);have g1:upd (upd H c (.tup t)) W (.tup r) c=some (.tup t):=by rw[aC (aE upd_same hc2)];exact upd_same
      have g2:upd (upd H c (.tup t)) W (.tup r) W=some (.tup r):=upd_same;generalize upd (upd H c (.tup t)) W (.tup r)=H2 at s2 g1 g2⊢;have U:ah (.tup (.str a::ds)) (.tup (.str a::B))=ahs ds B:=by rw[ah,ai rfl,ai hl]
      rw[U]at q;have dd:depDs ds+1<=n/\depDs ds+1<=50:=by
       rw[depD,depDs,show depD (.str a)=0 from rfl]at dn G
       lia
      refine⟨⟨_,.inr g1⟩,⟨_,.inr g2⟩,JF t r (ZI va ua ds B H2) ⟨none,none,rfl,λ_ _ h=>h,by simp⟩ (λi σ H3 _ ⟨_,_,_,J,_⟩=>⟨.inr (J _ _ g1),.inr (J _ _ g2)⟩) ?_ ?_⟩
      ·rintro i x y T σ H3 hx hy ⟨o2,o3,rfl,J,O⟩ hT;have s4:=(s2.trans J).trans (aG.upd (o:=.tup [x,y]) hT);obtain⟨di,R,Z⟩:=Reps.get (Reps.same s4 Y) hx;obtain⟨ei,hei,X⟩:=Reps.get (Reps.same s4 res) hy;have ddi:=iF R;refine⟨T,_,rfl,iG.of upd_same,rfl,_,_,rfl,_,_,rfl,rfl,_,rfl,_,rfl,di,ei,Z,X,by lia,_,rfl,?_⟩;rw[CV R,CV hei,ahs]at O;by_cases z:eqD di ei=true
       ·rw[z,ab (by decide)];rw[ai z]at O;exact⟨_,_,rfl,J.trans (aG.upd hT),O⟩
       ·have z':eqD di ei=false:=by simpa using z
        rw[z',ai (by decide)];rw[ab z]at O;refine⟨_,rfl,_,rfl,n - 1,by lia,di,ei,x,y,rfl,Z,X,fds.get R,fes.get hei,by lia,by lia,λH5 s5=>?_⟩;have:=q H5 (s4.trans s5);rw[O]at this;exact this
      ·rintro σ H3 ⟨o2,o3,rfl,J,O⟩;have:ahs ds B=false:=by rw[O,List.drop_eq_nil_of_le (by rw[la,lb,hl];simp)];rfl
       rw[this]at q;exact q H3 (s2.trans J)
     ·rw[ai (by simp only[au,la,lb];simp;lia)];refine⟨_,by rw[lenV_t S];rfl,_,by rw[lenV_t hb];rfl,.inl (.inl ⟨_,rfl,_,rfl,?_⟩)⟩;have U:ah (.tup (.str a::ds)) (.tup (.str a::B))=decide (ds.length<B.length):=by rw[ah,ai rfl,ab hl]
      have:=q H (λ_ _ h=>h);rw[U]at this;simp only[au,la,lb];have e2:(decide (((ds.length+1:Nat):Int)<((B.length+1:Nat):Int)))=decide (ds.length<B.length):=by
       by_cases z:ds.length<B.length
       ·rw[bi z,bi (by lia)]
       ·rw[bo z,bo (by lia)]
      rw[e2];exact this
    ·rw[ai (by simpa using hn)];refine⟨.str a,by rw[ixV_t S,atI_zero],.str b,by rw[ixV_t hb,atI_zero],.inl (.inr ⟨a,rfl,b,rfl,?_⟩)⟩;have U:ah (.tup (.str a::ds)) (.tup (.str b::B))=sL a b:=by rw[ah,ab hn]
     have:=q H (λ_ _ h=>h);rw[U]at this;exact this
  ·rw[ai (by simp;lia)];refine⟨d,v,rfl,r1,f1,e,u,rfl,L,f2,.inl (.inl ⟨_,rfl,_,rfl,?_⟩)⟩;have:=q H (λ_ _ h=>h);rw[QO f1 f2 hs]at this;have e2:(decide (((sortD d:Nat):Int)<((sortD e:Nat):Int)))=decide (sortD d<sortD e):=by
    by_cases z:sortD d<sortD e
    ·rw[bi z,bi (by lia)]
    ·rw[bo z,bo (by lia)]
   rw[e2];exact this
theorem MR (F:fP K "_law_ahead" "_law_ahead" eU f fd)(T:Txt mg)(c:dG P w K mg base bJ 1 "_law_sort" yZ)
  (j:mg "_law_ahead" = some (.ref f)) (l:PySem.W.keepIn K (.ref f)=true) (hb:eI K fd gL []):∀n,cA P w K mg base bJ (n+2) f fd gL (kP n):=by
 intro n
 induction n using Nat.strongRecOn with
 | ind n e =>
  exact LZ n F T c ⟨f,fd,_,⟨λvs H Q E ⟨m,d,h⟩=>(e m d).len vs H Q E h,λA outer s H args us vs Q E i o hb g ⟨m,d,h⟩=>((e m d).mono (by lia)).run A outer s H args us vs Q E i o hb g h⟩,j,l,hb⟩
theorem HZ (F:fP K "_law_ahead" "_law_ahead" eU f fd)(T:Txt mg)(c:dG P w K mg base bJ 1 "_law_sort" yZ)
  (d:mg "_law_ahead" = some (.ref f)) (e:PySem.W.keepIn K (.ref f)=true) (hb:eI K fd gL []) (n:Nat):dG P w K mg base bJ (n+2) "_law_ahead" (kP n):=⟨f,fd,_,MR F T c d e hb n,d,e,hb⟩
noncomputable def opn1 (n z:Str)(d:D):List D:=match d with
 | .tup (.str m::c)=>if m=n then c else [d]
 | d=>if eqD d (.str z)=true then []else [d]
noncomputable def opn (n z:Str)(ds:List D):List D:=ds.flatMap (opn1 n z)
theorem iC (n z:Str)(ds:List D)(d:D):opn n z (ds++[d])=opn n z ds++opn1 n z d:=by simp[opn]
theorem Reps.app:∀{ds c:List D} {vs us:List V},Reps H ds vs->Reps H c us->Reps H (ds++c) (vs++us)
 | [],_,_,_,h,k=>by cases h;exact k
 | _::_,_,_,_,⟨x,r,e,a,b⟩,k=>by subst e;exact⟨x,_,rfl,a,Reps.app b k⟩
def oC:Sp:=λvs H Q _=>∃(n z:Str) (a:Addr) (ds:List D) (ws:List V),vs=[.str n,.str z,.ref a]/\H a=some (.lst ws)/\Reps H ds ws/\Fls ds/\(∀i,(opn n z (ds.take i)).length<=500)/\depDs ds<=50 /\
 ∀(l:Addr) (us:List V) (H':Hp),aG H H'->H l=none->H' l=some (.lst us)->Reps H (opn n z ds) us->Q (.ref l) H'
def OI (n z:Str)(a:Addr)(ds:List D)(H:Hp)(i:Nat)(σ:St)(c:Hp):Prop:=∃(d:Option V) (l:Addr) (us:List V),σ=[some (.str n),some (.str z),some (.ref a),some (.ref l),d]/\aG H c/\H l=none/\c l=some (.lst us)/\Reps H (opn n z (ds.take i)) us
theorem IE (F:fP K "_law_opened" "_law_opened" hU f N)(T:Txt mg):cA P w K mg base bJ 1 f N nF oC:=by
 refine F.ok gB (λvs H Q E h=>?_) (λcdv A outer s H vs Q E hr h=>?_)
 ·obtain⟨n,z,a,ds,ws,rfl,_⟩:=h;rfl
 ·obtain⟨n,z,a,ds,ws,rfl,U,t,fl,j,L,q⟩:=h;have hu:=hr.units
  refine⟨_,(aD (aW (i:=3) gB.nd rfl (Or.inl rfl) (cF aB))
   (aD (eE dh rfl (cV K rfl (pv 2)) (bP (i:=4) gB.nd rfl (Or.inl rfl)) (aF (bH (PW.pt (uD (aV K rfl (aK aM rfl T.n_isinstance rfl (aA (pv 4) (aA (bZ (v:=V.ty "tuple") rfl T.n_tuple rfl rfl) aB))) (λ_=>rfl)) (oN (aU (dL hu) (bM cY (pv 4) aJ (λ_ _=>rfl)) (pv 0) (nomark _))))) (aF (aW (i:=3) gB.nd rfl (Or.inl rfl) (bK bQ (pv 3) (cH vJ rfl T.n_list rfl (aA (fH kQ (pv 4) (eG aJ) fK) aB))))) (aF (bH (aU (dS hu) (pv 4) (pv 1) (nomark _)) (aF (cU (kH de dg df fU (pv 3) (aA (pv 4) aB)))) aS)))))
   (aF (aO (pv 3))))),?_⟩
  try dsimp only[cxOf,Cx.nox]
  simp only[j7];clear hr F T hu;have keep:=aI q (aI t (aI fl (aI j L)));clear q t fl j L
  walk_at "rd"
  obtain⟨q,t,fl,j,L⟩:=keep;refine⟨ax _,λl hl=>⟨ws,.inl (by rw[aC (aE U hl)];exact U),λJ hJ=>?_⟩⟩;have la:=Reps.len t;refine jQ hJ (OI n z a ds H) ⟨none,l,[],rfl,aG.upd hl,hl,upd_same,rfl⟩ (by rintro i σ H' _ ⟨_,_,_,_,B,_⟩;rw[B _ _ U,aC (aE U hl),U]) ?_ ?_
  ·rintro i x σ G Z ⟨o4,l,us,rfl,B,nl,r,p⟩;obtain⟨d,hd,I⟩:=Reps.get t Z;have N:=fl.get hd;have key:=j (i+1);rw[take_snoc hd,iC,av]at key;have lu:=Reps.len p;have app:∀Y,aG G Y->Y l=some (.lst us)->(opn1 n z d=[d])->OI n z a ds H (i+1) [some (.str n),some (.str z),some (.ref a),some (.ref l),some x] (upd Y l (.lst (us++[x]))):=λY s2 hl2 C=>by refine⟨_,l,us++[x],rfl,λb o e=>?_,nl,upd_same,by rw[take_snoc hd,iC,C];exact Reps.app p ⟨x,[],rfl,I,rfl⟩⟩;rw[aC (λw=>by rw[w,nl]at e;cases e)];exact s2 _ _ (B _ _ e)
   have keep:=aI B (aI nl (aI p (aI I (aI N (aI key (aI app (aI lu (aI t (aI fl (aI j (aI q (aI hd Z))))))))))));clear B nl p I N key app lu t fl j q hd Z la hJ
   walk_at "rd"
   obtain⟨B,nl,p,I,N,key,app,lu,t,fl,j,q,hd,Z⟩:=keep;have rd1:=aY.same B I;have ddi:=iF hd;rcases iL N with⟨y,rfl,_⟩|⟨m,W,rfl,fes⟩
   ·cases (show x = .str y from I);refine⟨false,rfl,?_⟩;rw[ab (by decide),rNeD_ss];refine⟨_,rfl,?_⟩;by_cases e:y=z
    ·rw[ab (by simpa using e)];have C:opn1 n z (.str y)=[]:=show(if eqD (.str y) (.str z)=true then []else [D.str y])=[]from ai (by show(y == z)=true;simpa using e);exact⟨_,l,us,rfl,B,nl,r,by rw[take_snoc hd,iC,C,bp];exact p⟩
    ·rw[ai (by simpa using e)];have C:opn1 n z (.str y)=[.str y]:=show(if eqD (.str y) (.str z)=true then []else [D.str y])=[.str y]from ab (by show ¬(y == z)=true;simpa using e);exact⟨tyL r,us,r,aj (m:=500) (by lia) (by decide),app G (λ_ _ h=>h) r C⟩
   ·obtain⟨va,vs,rfl,u,_,g,rfl,h1,res⟩:=rd1;cases h1;refine⟨true,AA u,?_⟩;rw[ai rfl];refine⟨.str m,by rw[ixV_t u,atI_zero],?_⟩;rw[rEqD_ss];refine⟨_,rfl,?_⟩;by_cases e:m=n
    ·rw[ai (by simpa using e)];have C:opn1 n z (.tup (.str m::W))=W:=by unfold opn1;exact ai e
     rw[C]at key;have X:∀(x:V) (l:List V),cutV (x::l) (some 1) none=l:=λx l=>vF (x::l) 1;have nf:¬(HT.sIx (V.str m::g).length 0 (some 1)=0/\HT.sIx (V.str m::g).length (V.str m::g).length none=(V.str m::g).length):=λh=>by
      have e:=h.1;rw[show((1:Int))=((1:Nat):Int)from rfl,HT.sIx_nat]at e;simp only[au]at e
      lia
     refine⟨va,rfl,_,.inr u,λ_=>nf,λc o hc ho=>?_⟩;have eo:o = .tup g:=by
      rcases ho with⟨_,w⟩|⟨w,_⟩
      ·rw[u]at w;cases w
      ·rw[w,X]
     subst eo;refine⟨g,by rw[seqV_t upd_same],λc2 hc2=>?_⟩;have s2:aG G (upd (upd G c (.tup g)) c2 (.lst g)):=(aG.upd hc).trans (aG.upd hc2);have g2:upd (upd G c (.tup g)) c2 (.lst g) c2=some (.lst g):=upd_same;generalize upd (upd G c (.tup g)) c2 (.lst g)=Y at s2 g2⊢;have lv:=Reps.len res;refine⟨.lst (us++g),?_,λc3 S=>⟨_,c3,us++g,rfl,(B.trans s2).trans (aG.upd S),?_,upd_same,?_⟩⟩
     ·simp only[catO,s2 _ _ r,g2];exact ai (aq (m:=500) (by lia) (by decide))
     ·cases e:H c3 with
      | none=>rfl
      | some w=>have:=(B.trans s2) _ _ e;rw[S]at this;cases this
     ·rw[take_snoc hd,iC,C];obtain⟨va',vs2,e2,R,v0,vs3,e3,e4,O⟩:=I;cases e2;rw[B _ _ R]at u;cases u;cases e3;exact Reps.app p O
    ·rw[ab (by simpa using e)];have C:opn1 n z (.tup (.str m::W))=[.tup (.str m::W)]:=by unfold opn1;exact ab e
     refine⟨.tup (.str m::W),.str z,⟨va,_,rfl,u,_,_,rfl,rfl,res⟩,rfl,by lia,_,rfl,?_⟩;rw[ai (by rfl)];exact⟨tyL r,us,r,aj (m:=500) (by lia) (by decide),app G (λ_ _ h=>h) r C⟩
  ·rintro σ G ⟨o4,l,us,rfl,B,nl,r,p⟩;rw[la,bw]at p;exact⟨_,rfl,q l us G B nl r p⟩
theorem IsTms.get {c:cP}{sm:cE}{os:aT}:∀{ds:List D} {i:Nat} {d:D},IsTms c sm os ds->ds[i]?=some d->aZ c sm os d
 | [],_,_,_,z=>by simp at z
 | _::_,0,_,⟨a,_⟩,h=>by simp at h;subst h;exact a
 | _::_,i+1,_,⟨_,b⟩,h=>IsTms.get b (by simpa using h)
theorem DT {c:cP}{sm:cE}{os:aT}{d:D}(h:aZ c sm os d):(∃x,d = .str x/\(x∈os∨x∈zeros c))∨∃n ds,(d = .tup (.str n::ds)∨d = .lst (.str n::ds))/\AT c sm n ds.length/\IsTms c sm os ds:=by
 unfold aZ at h;split at h
 ·exact .inl ⟨_,rfl,h⟩
 ·exact .inr ⟨_,_,.inl rfl,h⟩
 ·exact .inr ⟨_,_,.inr rfl,h⟩
 ·exact absurd h id
theorem nS (h:AT fx sm n k):1<=k:=by rcases h with⟨h,_⟩|⟨h,_⟩ <;> lia
theorem lZ (h:H a=some (.tup xs)):isV H (.ref a) (.ty "str")=some false:=by unfold isV tyN;simp only[h];rfl
theorem qM (h:H a=some (.lst xs)):isV H (.ref a) (.ty "str")=some false:=by unfold isV tyN;simp only[h];rfl
theorem zS:∀{ds:List D} {i:Nat} {d:D},ds[i]?=some d->lvs d<=lvss ds
 | [],_,_,h=>by simp at h
 | e::ds,0,_,h=>by simp at h;subst h;rw[lvss];lia
 | e::ds,i+1,_,h=>by have:=zS (ds:=ds) (i:=i) (by simpa using h);rw[lvss];lia
mutual
theorem DS {c:cP}{sm:cE}{os:aT}:∀{d:D},aZ c sm os d->1<=lvs d
 | .str x,_=>by rw[lvs] <;> simp
 | .tup (.str n::ds),h=>by
  unfold aZ at h;have:=mI h.2;have:=nS h.1;rw[lvs];lia
 | .lst (.str n::ds),h=>by
  unfold aZ at h;have:=mI h.2;have:=nS h.1;rw[lvs];lia
 | .non,h=>by unfold aZ at h;exact absurd h id
 | .bl _,h=>by unfold aZ at h;exact absurd h id
 | .int _,h=>by unfold aZ at h;exact absurd h id
 | .tup [],h=>by unfold aZ at h;exact absurd h id
 | .lst [],h=>by unfold aZ at h;exact absurd h id
 | .tup (.non::_),h=>by unfold aZ at h;exact absurd h id
 | .tup (.bl _::_),h=>by unfold aZ at h;exact absurd h id
 | .tup (.int _::_),h=>by unfold aZ at h;exact absurd h id
 | .tup (.tup _::_),h=>by unfold aZ at h;exact absurd h id
 | .tup (.lst _::_),h=>by unfold aZ at h;exact absurd h id
 | .lst (.non::_),h=>by unfold aZ at h;exact absurd h id
 | .lst (.bl _::_),h=>by unfold aZ at h;exact absurd h id
 | .lst (.int _::_),h=>by unfold aZ at h;exact absurd h id
 | .lst (.tup _::_),h=>by unfold aZ at h;exact absurd h id
 | .lst (.lst _::_),h=>by unfold aZ at h;exact absurd h id
theorem mI {c:cP}{sm:cE}{os:aT}:∀{ds:List D},IsTms c sm os ds->ds.length<=lvss ds
 | [],_=>ax _
 | d::ds,⟨a,b⟩=>by have f:=DS a;have e:=mI b;rw[lvss,au];lia
end
end
mutual
theorem MW:∀{d e:D},Fl d->Fl e->eqD d e=true->d=e
 | .str x,.str y,_,_,h=>by
  have h:(x == y)=true:=h;rw[eq_of_beq h]
 | .tup (.str n::ds),.tup (.str m::g),f,c,h=>by
  have h:((n == m) && eqDs ds g)=true:=h;rw[Bool.and_eq_true]at h;unfold Fl at f c;rw[eq_of_beq h.1,MT f c h.2]
 | .str _,.tup (.str _::_),_,_,h=>by cases (show false=true from h)
 | .tup (.str _::_),.str _,_,_,h=>by cases (show false=true from h)
theorem MT:∀{ds c:List D},Fls ds->Fls c->eqDs ds c=true->ds=c
 | [],[],_,_,_=>rfl
 | d::ds,e::c,⟨a,b⟩,⟨g,f⟩,h=>by
  rw[eqDs,Bool.and_eq_true]at h;rw[MW a g h.1,MT b f h.2]
 | [],_::_,_,_,h=>by cases (show false=true from h)
 | _::_,[],_,_,h=>by cases (show false=true from h)
end
theorem TF (f:Fl d)(c:Fl e)(h:key d=key e):d=e:=MW f c (PZ f c h)
def leK (d e:D):Prop:=lexK (key e) (key d)=false
theorem MC (i:Fl d)(g:Fl e)(f:leK d e)(c:leK e d):d=e:=by
 by_cases k:key d=key e
 ·exact TF i g k
 ·rcases nQ k with h|h
  ·rw[c]at h;cases h
  ·rw[f]at h;cases h
theorem uR:∀{a b c:List M},lexK a b=false->lexK b c=false->lexK a c=false:=by
 have d:∀{a b c:M},ltM a b=true->ltM b c=true->ltM a c=true:=by
  rintro⟨a1,a2,u⟩ ⟨b1,b2,s⟩ ⟨o,i,r⟩ h k;unfold ltM at h k⊢;dsimp only at h k⊢;by_cases f:a1=b1
  ·subst f;rw[ai rfl]at h;by_cases e:a1=o
   ·subst e;rw[ai rfl]at k⊢;by_cases f1:a2=b2
    ·subst f1;rw[ai rfl]at h;by_cases f2:a2=i
     ·subst f2;rw[ai rfl]at k⊢;have:=bu h;have:=bu k;exact bi (p:=_) (by lia)
     ·rw[ab f2]at k⊢;exact k
    ·rw[ab f1]at h;by_cases f2:b2=i
     ·subst f2;rw[ab f1];exact h
     ·rw[ab f2]at k;have t:sL a2 i=true:=bi (List.lt_trans (bu h) (bu k));by_cases f3:a2=i
      ·subst f3;rw[R6]at t;cases t
      ·rw[ab f3];exact t
   ·rw[ab e]at k⊢;exact k
  ·rw[ab f]at h;have h:=bu h;by_cases e:b1=o
   ·subst e;rw[ab f];exact bi h
   ·rw[ab e]at k;have k:=bu k;rw[ab (by lia)];exact bi (p:=_) (by lia)
 intro a
 induction a with
 | nil =>
  intro b c h k;cases b with
  | nil=>exact k
  | cons y b=>cases h
 | cons x a q =>
  intro b c h k;cases c with
  | nil=>rfl
  | cons z c =>
   cases b with
   | nil=>cases k
   | cons y b =>
    rw[lexK]at h k⊢;by_cases f:x=y
    ·subst f;rw[ai rfl]at h;by_cases e:x=z
     ·rw[ai e]at k⊢;exact q h k
     ·rw[ab e]at k⊢;exact k
    ·rw[ab f]at h;have l:ltM y x=true:=(qH f).resolve_left (by rw[h];decide);by_cases e:y=z
     ·subst e;rw[ab f];exact h
     ·rw[ab e]at k;have j:ltM z y=true:=(qH e).resolve_left (by rw[k];decide);have g:=d j l;by_cases m:x=z
      ·subst m;have:=uP g;rw[g]at this;cases this
      ·rw[ab m];exact uP g
theorem IW (h:leK a b)(k:leK b c):leK a c:=uR k h
theorem iX:∀{l m:List D},(∀d∈l,Fl d)->l.Perm m->l.Pairwise leK->m.Pairwise leK->l=m
 | [],m,_,p,_,_=>(List.nil_perm.mp p).symm
 | a::l,[],_,p,_,_=>absurd (List.perm_nil.mp p) (by simp)
 | a::l,b::m,f,p,s,t=>by
  have j:∀d∈b::m,Fl d:=λd hd=>f d (p.mem_iff.mpr hd);obtain⟨g,s2⟩:=List.pairwise_cons.mp s;obtain⟨t1,c⟩:=List.pairwise_cons.mp t;have e:a=b:=by
   have i:a∈b::m:=p.mem_iff.mp ay;have hb:b∈a::l:=p.mem_iff.mpr ay;obtain h|h:=cu.mp i
   ·exact h
   ·obtain k|k:=cu.mp hb
    ·exact k.symm
    ·exact MC (f a ay) (j b ay) (g b k) (t1 a h)
  subst e;rw[iX (λd hd=>f d (bc _ hd)) (List.perm_cons a |>.mp p) s2 c]
noncomputable def insA (d:D):List D->List D
 | []=>[d]
 | e::l=>if ah d e=true then d::e::l else e::insA d l
theorem mN (d:D):∀l:List D,(insA d l).Perm (d::l)
 | []=>.refl _
 | e::l=>by
  unfold insA;by_cases h:ah d e=true
  ·rw[ai h]
  ·rw[ab h];exact((mN d l).cons e).trans (.swap d e l)
theorem TY (f:Fl d)(c:Fl e):ah d e=true->lexK (key d) (key e)=true∨d=e:=λh=>by
 rw[uS f c,h];cases q:eqD d e with
 | false=>exact .inl rfl
 | true=>exact .inr (MW f c q)
theorem rG (g:Fl d):∀{l:List D},(∀e∈l,Fl e)->l.Pairwise leK->(insA d l).Pairwise leK
 | [],_,_=>List.pairwise_singleton _ _
 | e::l,f,s=>by
  obtain⟨i,s2⟩:=List.pairwise_cons.mp s;have j:=f e ay;unfold insA;by_cases h:ah d e=true
  ·rw[ai h];have m:leK d e:=by
    rcases TY g j h with q|q
    ·exact qI q
    ·subst q;exact oX _
   refine List.pairwise_cons.mpr ⟨λx c=>?_,s⟩;obtain k|k:=cu.mp c
   ·subst k;exact m
   ·exact IW m (i x k)
  ·rw[ab h];have p:leK e d:=by
    have:lexK (key d) (key e)=false:=by rw[uS g j];simp[h]
    exact this
   refine List.pairwise_cons.mpr ⟨λx c=>?_,rG g (λy o=>f y (bc _ o)) s2⟩;rcases cu.mp ((mN d l).mem_iff.mp c)with k|k
   ·subst k;exact p
   ·exact i x k
noncomputable def cC (ds:List D):List D:=ds.foldl (λl d=>insA d l) []
noncomputable def zr (sm:cE)(n:Str):Option Str:=(sm.find? λr=>decide (r.1=n)).map (·.2)
noncomputable def one (n z:Str)(l:List D):D:=match l with
 | []=>.str z
 | [d]=>d
 | l=>.tup (.str n::l)
noncomputable def knot (sm:cE)(n:Str)(ps:List D):D:=match zr sm n with
 | none=>.tup (.str n::ps)
 | some z=>one n z (cC (opn n z ps))
mutual
noncomputable def flt (sm:cE):D->D
 | .tup (.str n::ds)=>knot sm n (flts sm ds)
 | .lst (.str n::ds)=>knot sm n (flts sm ds)
 | d=>d
noncomputable def flts (sm:cE):List D->List D
 | []=>[]
 | d::ds=>flt sm d::flts sm ds
end
theorem gJ (sm:cE):∀ds:List D,flts sm ds=ds.map (flt sm)
 | []=>rfl
 | d::ds=>by rw[flts,gJ sm ds];rfl
theorem rF (ds:List D)(d:D):cC (ds++[d])=insA d (cC ds):=by simp[cC]
theorem xW:∀(ds l:List D),(ds.foldl (λl d=>insA d l) l).Perm (ds++l)
 | [],l=>.refl _
 | d::ds,l=>(xW ds (insA d l)).trans (((mN d l).append_left ds).trans (List.perm_middle))
theorem aX (ds:List D):(cC ds).Perm ds:=by have:=xW ds [];simpa [cC] using this
mutual
noncomputable def sz:D->Nat
 | .tup (_::ds)=>max 1 (szs ds)
 | .lst (_::ds)=>max 1 (szs ds)
 | _=>1
noncomputable def szs:List D->Nat
 | []=>0
 | d::ds=>sz d+szs ds
end
theorem R0:∀d:D,1<=sz d:=by intro d;unfold sz;split <;> lia
theorem kO:∀ds:List D,ds.length<=szs ds
 | []=>ac _
 | d::ds=>by rw[szs,au];have:=R0 d;have:=kO ds;lia
theorem yX:∀ds c:List D,szs (ds++c)=szs ds+szs c
 | [],c=>by simp[szs]
 | d::ds,c=>by rw[List.cons_append,szs,yX ds c,szs];lia
theorem KI (p:l.Perm m):szs l=szs m:=by
 induction p with
 | nil=>rfl
 | cons x _ c=>rw[szs,szs,c]
 | swap x y l=>rw[szs,szs,szs,szs];lia
 | trans _ _ a b=>exact a.trans b
theorem yA:∀ds c:List D,depDs (ds++c)=max (depDs ds) (depDs c)
 | [],c=>by simp[depDs]
 | d::ds,c=>by rw[List.cons_append,depDs,yA ds c,depDs,Nat.max_assoc]
theorem FF (p:l.Perm m):depDs l=depDs m:=by
 induction p with
 | nil=>rfl
 | cons x _ c=>rw[depDs,depDs,c]
 | swap x y l=>rw[depDs,depDs,depDs,depDs,Nat.max_left_comm]
 | trans _ _ a b=>exact a.trans b
theorem OS (n z:Str)(d:D):szs (opn1 n z d)<=sz d:=by
 unfold opn1;split
 ·split
  ·rw[sz];lia
  ·rw[szs,szs];lia
 ·split
  ·rw[szs];lia
  ·rw[szs,szs];lia
theorem dB (n z:Str)(d:D)(ds:List D):opn n z (d::ds)=opn1 n z d++opn n z ds:=by simp[opn]
theorem uJ (n z:Str):∀ds:List D,szs (opn n z ds)<=szs ds
 | []=>ac _
 | d::ds=>by rw[dB,yX,szs];have:=OS n z d;have:=uJ n z ds;lia
theorem LL (n z:Str)(d:D):depDs (opn1 n z d)<=depD d:=by
 unfold opn1;split
 ·split
  ·rw[depD,depDs];lia
  ·rw[depDs,depDs];lia
 ·split
  ·rw[depDs];lia
  ·rw[depDs,depDs];lia
theorem zL (n z:Str):∀ds:List D,depDs (opn n z ds)<=depDs ds
 | []=>ac _
 | d::ds=>by rw[dB,yA,depDs];have:=LL n z d;have:=zL n z ds;lia
theorem SM (n z:Str)(l:List D):sz (one n z l)<=max 1 (szs l):=by
 unfold one;split
 ·show sz (.str z)<=_;unfold sz;lia
 ·rw[szs,szs];lia
 ·rw[sz];lia
theorem zV (sm:cE)(n:Str)(ps:List D):sz (knot sm n ps)<=max 1 (szs ps):=by
 unfold knot;split
 ·rw[sz];lia
 ·rename_i z _;have c:=SM n z (cC (opn n z ps));rw[KI (aX _)]at c;have d:=uJ n z ps
  lia
theorem O1 (n z:Str)(l:List D):depD (one n z l)<=depDs l+1:=by
 unfold one;split
 ·show(0:Nat)<=_;lia
 ·rw[depDs,depDs];lia
 ·rw[depD,depDs,show depD (.str n)=0 from rfl];lia
theorem uT (sm:cE)(n:Str)(ps:List D):depD (knot sm n ps)<=depDs ps+1:=by
 unfold knot;split
 ·rw[depD,depDs,show depD (.str n)=0 from rfl];lia
 ·rename_i z _;have c:=O1 n z (cC (opn n z ps));rw[FF (aX _)]at c;have d:=zL n z ps
  lia
mutual
theorem FA (sm:cE):∀d:D,sz (flt sm d)<=sz d
 | .tup (.str n::ds)=>by rw[flt,sz];have:=zV sm n (flts sm ds);have:=tE sm ds;lia
 | .lst (.str n::ds)=>by rw[flt,sz];have:=zV sm n (flts sm ds);have:=tE sm ds;lia
 | .non | .bl _ | .int _ | .str _ | .tup [] | .lst [] | .tup (.non::_) | .tup (.bl _::_) | .tup (.int _::_) | .tup (.tup _::_) | .tup (.lst _::_) | .lst (.non::_) | .lst (.bl _::_) | .lst (.int _::_) | .lst (.tup _::_) | .lst (.lst _::_)=>by unfold flt;exact ac _
theorem tE (sm:cE):∀ds:List D,szs (flts sm ds)<=szs ds
 | []=>ac _
 | d::ds=>by rw[flts,szs,szs];have:=FA sm d;have:=tE sm ds;lia
end
mutual
theorem mO (sm:cE):∀d:D,depD (flt sm d)<=depD d
 | .tup (.str n::ds)=>by rw[flt,depD,depDs,show depD (.str n)=0 from rfl];have:=uT sm n (flts sm ds);have:=pB sm ds;lia
 | .lst (.str n::ds)=>by rw[flt,depD,depDs,show depD (.str n)=0 from rfl];have:=uT sm n (flts sm ds);have:=pB sm ds;lia
 | .non | .bl _ | .int _ | .str _ | .tup [] | .lst [] | .tup (.non::_) | .tup (.bl _::_) | .tup (.int _::_) | .tup (.tup _::_) | .tup (.lst _::_) | .lst (.non::_) | .lst (.bl _::_) | .lst (.int _::_) | .lst (.tup _::_) | .lst (.lst _::_)=>by unfold flt;exact ac _
theorem pB (sm:cE):∀ds:List D,depDs (flts sm ds)<=depDs ds
 | []=>ac _
 | d::ds=>by rw[flts,depDs,depDs];have:=mO sm d;have:=pB sm ds;lia
end
theorem dU:∀{ds:List D},Fls ds->∀d∈ds,Fl d
 | _::_,⟨a,b⟩,d,h=>by
  obtain rfl|h:=cu.mp h
  ·exact a
  ·exact dU b d h
theorem iZ:∀{ds:List D},(∀d∈ds,Fl d)->Fls ds
 | [],_=>trivial
 | d::ds,h=>⟨h d ay,iZ λe k=>h e (bc _ k)⟩
theorem OW (h:Fl d):Fls (opn1 n z d):=by
 unfold opn1;split
 ·rename_i m c;have k:Fls c:=by unfold Fl at h;exact h
  split
  ·exact k
  ·exact⟨h,trivial⟩
 ·split
  ·exact trivial
  ·exact⟨h,trivial⟩
theorem qC (h:Fls ds):Fls (opn n z ds):=iZ λd k=>by obtain⟨e,f,c⟩:=List.mem_flatMap.mp k;exact dU (OW (dU h e f)) d c
mutual
def Nb:D->Prop
 | .tup (_::ds)=>ds≠[]/\Nbs ds
 | _=>True
def Nbs:List D->Prop
 | []=>True
 | d::ds=>Nb d/\Nbs ds
end
theorem sV:∀{ds:List D},Nbs ds->∀d∈ds,Nb d
 | _::_,⟨a,b⟩,d,h=>by
  obtain rfl|h:=cu.mp h
  ·exact a
  ·exact sV b d h
theorem zQ:∀{ds:List D},(∀d∈ds,Nb d)->Nbs ds
 | [],_=>trivial
 | d::ds,h=>⟨h d ay,zQ λe k=>h e (bc _ k)⟩
theorem OV (h:Nb d):Nbs (opn1 n z d):=by
 unfold opn1;split
 ·rename_i m c;have k:Nbs c:=by unfold Nb at h;exact h.2
  split
  ·exact k
  ·exact⟨h,trivial⟩
 ·split
  ·exact trivial
  ·exact⟨h,trivial⟩
theorem SE (h:Nbs ds):Nbs (opn n z ds):=zQ λd k=>by obtain⟨e,f,c⟩:=List.mem_flatMap.mp k;exact sV (OV (sV h e f)) d c
theorem SN (h:∀d∈l,Nb d):Nb (one n z l):=by
 unfold one;split
 ·unfold Nb;exact trivial
 ·exact h _ ay
 ·rename_i l c e;unfold Nb;exact⟨c,zQ h⟩
theorem sY (h:Nbs ps)(ne:ps≠[]):Nb (knot sm n ps):=by
 unfold knot;split
 ·unfold Nb;exact⟨ne,h⟩
 ·exact SN λd k=>sV (SE h) d ((aX _).mem_iff.mp k)
theorem OU (f:Fl d)(b:Nb d):opn1 n ("" : Str) d≠[]:=by
 unfold opn1;split
 ·split
  ·unfold Nb at b;exact b.1
  ·exact λz=>nomatch z
 ·split
  ·rename_i e;exfalso;cases d with
   | str x =>
    have e:(x == ("" : Str))=true:=e;have e:=eq_of_beq e;subst e;unfold Fl at f;exact absurd f.1 (by decide)
   | tup xs=>cases e
   | _=>unfold Fl at f;exact f
  ·exact λz=>nomatch z
theorem LJ:∀{ps:List D},Fls ps->Nbs ps->ps≠[]->opn n ("" : Str) ps≠[]
 | [],_,_,h=>absurd rfl h
 | d::ps,⟨f,_⟩,⟨b,_⟩,_=>by rw[dB];exact λz=>OU f b (List.append_eq_nil_iff.mp z).1
theorem sZ (hz:∀r∈sm,r.2=("" : Str)∨Fl (.str r.2))(h:Fls ps)(b:Nbs ps)(ne:ps≠[]):Fl (knot sm n ps):=by
 unfold knot;split
 ·unfold Fl;exact h
 ·rename_i z e;have c:z=("" : Str)∨Fl (.str z):=by unfold zr at e;obtain⟨r,f,rfl⟩:=Option.map_eq_some_iff.mp e;exact hz r (List.mem_of_find?_eq_some f)
  have f1:∀d∈cC (opn n z ps),Fl d:=λd k=>dU (qC h) d ((aX _).mem_iff.mp k);unfold one;split
  ·rename_i g;rcases c with rfl|c
   ·exfalso;have:=(aX (opn n ("" : Str) ps)).length_eq;rw[g]at this;exact LJ h b ne (List.length_eq_zero_iff.mp this.symm)
   ·exact c
  ·rename_i e;exact f1 _ (by rw[e];exact ay)
  ·unfold Fl;exact iZ f1
section
variable {P:Program}{w:World}{K:PySem.W.Frag}{mg:jB}{base:Heap}
mutual
/-- a term: leaves that can be told,names with parts -/
def Tm:D->Prop
 | .str x=>1<=x.cps.toList.length/\x.cps.toList.length<=20
 | .tup (.str _::ds)=>ds≠[]/\Tms ds
 | .lst (.str _::ds)=>ds≠[]/\Tms ds
 | _=>False
def Tms:List D->Prop
 | []=>True
 | d::ds=>Tm d/\Tms ds
end
theorem yV (h:Tm d):(∃x,d = .str x/\1<=x.cps.toList.length/\x.cps.toList.length<=20)∨∃n ds,(d = .tup (.str n::ds)∨d = .lst (.str n::ds))/\ds≠[]/\Tms ds:=by
 unfold Tm at h;split at h
 ·exact .inl ⟨_,rfl,h⟩
 ·exact .inr ⟨_,_,.inl rfl,h⟩
 ·exact .inr ⟨_,_,.inr rfl,h⟩
 ·exact absurd h id
theorem tF (h:ds≠[]):flts sm ds≠[]:=by rw[gJ];exact λz=>h (List.map_eq_nil_iff.mp z)
mutual
theorem qN (hz:∀r∈sm,r.2=("" : Str)∨Fl (.str r.2)):∀{d:D},Tm d->Fl (flt sm d)/\Nb (flt sm d)
 | .tup (.str n::ds),h=>by
  unfold Tm at h;obtain⟨a,b⟩:=hZ hz h.2;rw[flt];exact⟨sZ hz a b (tF h.1),sY b (tF h.1)⟩
 | .lst (.str n::ds),h=>by
  unfold Tm at h;obtain⟨a,b⟩:=hZ hz h.2;rw[flt];exact⟨sZ hz a b (tF h.1),sY b (tF h.1)⟩
 | .str x,h=>by unfold flt;unfold Tm at h;unfold Fl Nb;exact⟨h,trivial⟩
 | .non,h | .bl _,h | .int _,h | .tup [],h | .lst [],h | .tup (.non::_),h | .tup (.bl _::_),h | .tup (.int _::_),h | .tup (.tup _::_),h | .tup (.lst _::_),h | .lst (.non::_),h | .lst (.bl _::_),h | .lst (.int _::_),h | .lst (.tup _::_),h | .lst (.lst _::_),h=>by unfold Tm at h;exact absurd h id
theorem hZ (hz:∀r∈sm,r.2=("" : Str)∨Fl (.str r.2)):∀{ds:List D},Tms ds->Fls (flts sm ds)/\Nbs (flts sm ds)
 | [],_=>by rw[flts];exact⟨trivial,trivial⟩
 | d::ds,⟨a,b⟩=>by rw[flts];exact⟨⟨(qN hz a).1,(hZ hz b).1⟩,⟨(qN hz a).2,(hZ hz b).2⟩⟩
end
theorem QA (hz:∀r∈sm,r.2=("" : Str)∨Fl (.str r.2))(h:Tms ds):Fls (flts sm ds):=(hZ hz h).1
theorem wO (so:bD fx sm)(h:x∈zeros fx):1<=x.cps.toList.length/\x.cps.toList.length<=20:=by unfold zeros at h;obtain⟨r,c,rfl⟩:=cx.mp h;have:=so.nm r.1 (ci _ (List.mem_map_of_mem ((da.mp c).1)));exact⟨this.1,aq this.2.1 (by decide)⟩
theorem bT (so:bD fx sm):∀r∈sm,r.2=("" : Str)∨Fl (.str r.2):=λr c=>by
 by_cases e:r.2=("" : Str)
 ·exact .inl e
 ·refine .inr ?_;unfold Fl;exact wO so (so.nought r c e)
mutual
theorem iW {f:cP}{sm:cE}{os:aT}(so:bD f sm)(ho:∀x∈os,bO x):∀{d:D},aZ f sm os d->Tm d/\sz d=lvs d
 | .str x,h=>by
  unfold aZ at h;refine⟨?_,by unfold sz lvs;rfl⟩;unfold Tm;rcases h with h|h
  ·obtain⟨l,rfl,c,e,_⟩:=ho x h;exact⟨by simp,by simp;lia⟩
  ·exact wO so h
 | .tup (.str n::ds),h=>by
  unfold aZ at h;obtain⟨a,b⟩:=pT so ho h.2;have c:=nS h.1;have e:=mI h.2;refine⟨?_,by rw[sz,lvs,b];lia⟩;unfold Tm;exact⟨λz=>by rw[z]at c;simp at c,a⟩
 | .lst (.str n::ds),h=>by
  unfold aZ at h;obtain⟨a,b⟩:=pT so ho h.2;have c:=nS h.1;have e:=mI h.2;refine⟨?_,by rw[sz,lvs,b];lia⟩;unfold Tm;exact⟨λz=>by rw[z]at c;simp at c,a⟩
 | .non,h | .bl _,h | .int _,h | .tup [],h | .lst [],h | .tup (.non::_),h | .tup (.bl _::_),h | .tup (.int _::_),h | .tup (.tup _::_),h | .tup (.lst _::_),h | .lst (.non::_),h | .lst (.bl _::_),h | .lst (.int _::_),h | .lst (.tup _::_),h | .lst (.lst _::_),h=>by unfold aZ at h;exact absurd h id
theorem pT {c:cP}{sm:cE}{os:aT}(so:bD c sm)(ho:∀x∈os,bO x):∀{ds:List D},IsTms c sm os ds->Tms ds/\szs ds=lvss ds
 | [],_=>⟨trivial,rfl⟩
 | d::ds,⟨a,b⟩=>by obtain⟨h,g⟩:=iW so ho a;obtain⟨f,e⟩:=pT so ho b;exact⟨⟨h,f⟩,by rw[szs,lvss,g,e]⟩
end
theorem Tms.get:∀{ds:List D} {i:Nat} {d:D},Tms ds->ds[i]?=some d->Tm d
 | [],_,_,_,z=>by simp at z
 | _::_,0,_,⟨a,_⟩,h=>by simp at h;subst h;exact a
 | _::_,i+1,_,⟨_,b⟩,h=>Tms.get b (by simpa using h)
theorem FR:∀{ds:List D} {i:Nat} {d:D},ds[i]?=some d->sz d<=szs ds
 | [],_,_,h=>by simp at h
 | e::ds,0,_,h=>by simp at h;subst h;rw[szs];lia
 | e::ds,i+1,_,h=>by have:=FR (ds:=ds) (i:=i) (by simpa using h);rw[szs];lia
theorem JH (sm:cE)(ds:List D)(d:D):flts sm (ds++[d])=flts sm ds++[flt sm d]:=by rw[gJ,gJ,ba];rfl
theorem tH (x:V)(xs:List V):cutV (x::xs) (some 1) none=xs:=by unfold cutV HT.sIx;simp
theorem dW.prs:∀{sm:cE} {sv:List V},dW H sm sv->sv.map (prV H)=(sm.map λr=>((.inr r.1,V.str r.2):cM×V)).map (λkv=>some (kV kv.1,kv.2))
 | [],_,e=>by cases e;rfl
 | r::l,_,⟨t,us,e,h,q⟩=>by subst e;rw[bf,dW.prs q];unfold prV;simp only[h];rfl
theorem nM:∀(more c:List (cM×V)),((c++more).map (·.1)).Nodup->jV c more=c++more
 | [],c,_=>by simp[jV]
 | p::r,c,h=>by
  have e:putK c p.1 p.2=c++[p]:=by unfold putK;rw[ab];intro z;obtain⟨y,f,d⟩:=List.any_eq_true.mp z;rw[ba,bf]at h;exact(List.nodup_append.mp h).2.2 y.1 (List.mem_map_of_mem f) p.1 ay (by simpa using d)
  show jV (putK c p.1 p.2) r=_;rw[e,nM r (c++[p]) (by simpa using h)];simp
theorem B5 {sm:cE}(nd:(sm.map (·.1)).Nodup):jV [] (sm.map λr=>((.inr r.1,V.str r.2):cM×V))=sm.map λr=>(.inr r.1,V.str r.2):=by
 rw[nM]
 ·rfl
 ·rw[List.nil_append,cm];exact List.pairwise_map.mpr ((List.pairwise_map.mp nd).imp λh e=>h (Sum.inr.inj e))
theorem tM (n:Str):∀sm:cE,valV (sm.map λr=>((.inr r.1,V.str r.2):cM×V)) (.inr n)=(zr sm n).map V.str
 | []=>rfl
 | r::l=>by
  by_cases e:r.1=n
  ·rw[bf,j9 (by rw[e])];simp[zr,e]
  ·rw[bf,kA (λz=>e (by cases z;rfl)),tM n l];simp[zr,e]
def CI (t:Addr)(sm:cE)(ds:List D)(H:Hp)(i:Nat)(c:List V)(σ:St)(d:Hp):Prop:=∃e:Option V,σ=[e,some (.ref t)]/\aG H d/\Reps d (flts sm (ds.take i)) c
theorem RN {c:TT}{f:TS}{D:jD}{σ:St}{H:Hp}(Pv:St->Hp->Prop)(μ:St->Hp->Nat)(i:Pv σ H)
  (g:∀σ H,Pv σ H->∀R:Bool->Hp->Prop,(∀H',f {D with nx:=λe d=>Pv e d/\μ e d<μ σ H,ct:=λe d=>Pv e d/\μ e d<μ σ H,bk:=D.nx} σ H'->R true H')->(∀H',D.nx σ H'->R false H')->c σ H R):tR c f D σ H:=by
 refine⟨λm σ H=>m=μ σ H/\Pv σ H,⟨_,rfl,i⟩,?_⟩;rintro m σ H ⟨rfl,p⟩;refine g σ H p _ (λH' h=>?_) (λH' h=>?_)
 ·rw[ai rfl];exact⟨_,λe d ⟨a,b⟩=>⟨_,b,rfl,a⟩,h⟩
 ·rw[ab (by decide)];exact h
mutual
theorem aY.tups (s:bC H H'):∀{d:D} {v:V},Fl d->aY H d v->aY H' d v
 | .str x,v,_,h=>h
 | .tup (.str n::ds),v,f,⟨a,vs,e,i,x,r,j,c,g⟩=>⟨a,vs,e,s _ _ i,x,r,j,c,Reps.tups s (by unfold Fl at f;exact f) g⟩
 | .non,_,f,_ | .bl _,_,f,_ | .int _,_,f,_ | .lst _,_,f,_ | .tup [],_,f,_ | .tup (.non::_),_,f,_ | .tup (.bl _::_),_,f,_ | .tup (.int _::_),_,f,_ | .tup (.tup _::_),_,f,_ | .tup (.lst _::_),_,f,_=>by unfold Fl at f;exact absurd f id
theorem Reps.tups (s:bC H H'):∀{ds:List D} {vs:List V},Fls ds->Reps H ds vs->Reps H' ds vs
 | [],_,_,h=>h
 | _::_,_,⟨a,b⟩,⟨x,r,e,d,c⟩=>⟨x,r,e,aY.tups s a d,Reps.tups s b c⟩
end
theorem AC:∀{l:List D} {k:Nat},k<=l.length->(∀j e,j<k->l[j]?=some e->ah d e=false)->(∀e,l[k]?=some e->ah d e=true)->insA d l=l.take k++d::l.drop k
 | [],k,h,_,_=>by
  have:k=0:=by simpa using h
  subst this;rfl
 | e::l,0,_,_,h=>by
  have:=h e rfl;rw[insA,ai this];rfl
 | e::l,k+1,h,g,i=>by have:=g 0 e (by lia) rfl;rw[insA,ab (by rw[this];decide),AC (l:=l) (k:=k) (by simpa using h) (λj f m c=>g (j+1) f (by lia) (by simpa using c)) (λf c=>i f (by simpa using c))];rfl
theorem A8 (i:Nat)(l:List D):szs (l.take i)<=szs l:=by
 have:=yX (l.take i) (l.drop i);rw[List.take_append_drop]at this
 lia
theorem Reps.cut (h:aY H d v):∀{ds:List D} {vs:List V} (k:Nat),Reps H ds vs->Reps H (ds.take k++d::ds.drop k) (vs.take k++v::vs.drop k)
 | [],_,k,e=>by cases e;simp;exact⟨v,[],rfl,h,rfl⟩
 | _::_,_,0,r=>⟨v,_,rfl,h,r⟩
 | _::_,_,k+1,⟨x,r,e,f,c⟩=>by subst e;exact⟨x,_,rfl,f,Reps.cut h k c⟩
theorem BT:∀{l:List D},1<l.length->one n z l = .tup (.str n::l)
 | [],h=>by simp at h
 | [_],h=>by simp at h
 | _::_::_,_=>rfl
def GI (t e l h d ol:Addr)(os:List D)(us:List V)(m j:Hp)(i:Nat)(σ:St)(c:Hp):Prop:=∃(g f:Option V) (fs:List V),σ=[some (.ref t),some (.ref e),some (.ref l),some (.ref h),some (.ref d),g,f]/\aG m c/\c ol=some (.lst us)/\bC j c/\c d=some (.lst fs)/\Reps c (cC (os.take i)) fs
def WI (t d l h f:Addr)(x:V)(e:D)(c:List D)(m:Hp)(σ:St)(i:Hp):Prop:=∃k:Nat,σ=[some (.ref t),some (.ref d),some (.ref l),some (.ref h),some (.ref f),some x,some (.int k)]/\aG m i/\k<=c.length/\∀j g,j<k->c[j]?=some g->ah e g=false
noncomputable def wMu (n:Nat)(σ:St)(_:Hp):Nat:=match σ[6]? with|some (some (V.int x))=>((n:Int) - x).toNat|_=>0
def pW (n:Nat):Sp:=λvs H Q _=>∃(t a b:Addr) (sm:cE) (sv:List V) (d:D) (v:V),vs=[.ref t,v]/\H t=some (.tup [.ref a,.ref b])/\H b=some (.lst sv)/\dW H sm sv/\(sm.map (·.1)).Nodup/\(∀r∈sm,r.2=("" : Str)∨Fl (.str r.2))/\sm.length<=3/\aY H d v/\Tm d/\depD d<=n/\depD d<=50/\sz d<=400 /\
 ∀(c:V) (H':Hp),aG H H'->aY H' (flt sm d) c->Q c H'
theorem PJ (n:Nat)(F:fP K "_law_flat" "_law_flat" eK f fd)(T:Txt mg)(L:dG P w K mg base bJ (n+2) "_law_ahead" (kP n))(G:dG P w K mg base bJ 1 "_law_opened" oC)
  (Y:dG P w K mg base bJ (n+2) "_law_flat" (λvs H Q E=>∃m,m<n/\pW m vs H Q E)):cA P w K mg base bJ (n+3) f fd iJ (pW n):=by
 refine F.ok dN (λvs H Q E h=>?_) (λcdv A outer s H vs Q E hr h=>?_)
 ·obtain⟨t,a,b,sm,sv,d,v,rfl,_⟩:=h;rfl
 ·obtain⟨t,a,b,sm,sv,d,v,rfl,ht,hb,rs,nd,fz,s3,rep,tm,dn,d50,s64,q⟩:=h;have hu:=hr.units
  refine⟨_,(aD (bH (aV K rfl (aK aM rfl T.n_isinstance rfl (aA (pv 1) (aA (bZ (v:=V.ty "str") rfl T.n_str rfl rfl) aB))) (λ_=>rfl)) (aF (aO (pv 1))) aS)
   (aD (iQ (i:=2) dN.nd rfl rfl rfl rfl (bF.by (N:=jS) (names:=(aH eK).names) (N':=["_law_part","_law_told"]) (src:=[none,some 0]) (by decide +kernel) rfl rfl) (cV K rfl (fH kQ (pv 1) (eG aJ) fK)) (λ_ _ _ _=>(bP (i:=0) (show List.Nodup (["_law_part","_law_told"]:aT)by decide +kernel) rfl (Or.inl rfl))) (λ_ _ _ _=>eF) (λ_ _ _ _=>(aL Y (hr.mono (by lia)) pass0 rfl (aA (pv 1) (aA (pv 0) aB)))))
   (aD (aW (i:=3) dN.nd rfl (Or.inl rfl) (cH (nU rfl) rfl T.n_dict rfl (aA (bM cY (pv 0) aJ (λ_ _=>rfl)) aB)))
   (aD (bH (aU (EC hu) (bM cY (pv 1) aJ (λ_ _=>rfl)) (pv 3) (by with_unfolding_all rfl)) (aF (aO (bK bQ (fA (aA (bM cY (pv 1) aJ (λ_ _=>rfl)) aB)) (cH eM rfl T.n_tuple rfl (aA (pv 2) aB))))) aS)
   (aD (aW (i:=4) dN.nd rfl (Or.inl rfl) (cF aB))
   (aD (eE dh rfl (cV K rfl (aL G (hr.mono (by lia)) pass0 rfl (aA (bM cY (pv 1) aJ (λ_ _=>rfl)) (aA (GA (aj (bS (by decide) _) hu) (pv 3) (bM cY (pv 1) aJ (λ_ _=>rfl)) (λ_ _=>rfl)) (aA (pv 2) aB))))) (bP (i:=5) dN.nd rfl (Or.inl rfl)) (aD (aW (i:=6) dN.nd rfl (Or.inl rfl) aJ)
   (aD (oO dh (PW.pt (uD (aU (jU hu) (pv 6) (aK bG rfl T.n_len rfl (aA (pv 4) aB)) (nomark _)) (oN (dA (aV K rfl (aL L (hr.mono (by lia)) pass0 rfl (aA (pv 5) (aA (bM cY (pv 4) (pv 6) (λ_ _=>rfl)) aB))) (λ_=>rfl)))))) (aF (aW (i:=6) dN.nd rfl (Or.inl rfl) (bK bQ (pv 6) aJ))))
   (aF (cU (kH de PySem.F.slot_list_insert PySem.F.type_list_insert IM (pv 4) (aA (pv 6) (aA (pv 5) aB))))))))
   (aD (bH (aU BS (aK bG rfl T.n_len rfl (aA (pv 4) aB)) aJ (nomark _)) (aF (aO (bK bQ (fA (aA (bM cY (pv 1) aJ (λ_ _=>rfl)) aB)) (cH eM rfl T.n_tuple rfl (aA (pv 4) aB))))) aS)
   (aF (aO (bM cY (bK bQ (pv 4) (cF (aA (GA (aj (bS (by decide) _) hu) (pv 3) (bM cY (pv 1) aJ (λ_ _=>rfl)) (λ_ _=>rfl)) aB))) aJ (λ_ _=>rfl))))))))))),?_⟩
  try dsimp only[cxOf,Cx.nox]
  simp only[jS];clear hr F T hu L G Y;have keep:=aI q (aI ht (aI hb (aI rs (aI nd (aI fz (aI s3 (aI rep (aI tm (aI dn (aI d50 s64))))))))));clear q ht hb rs nd fz s3 rep tm dn d50 s64
  walk_at "rd"
  obtain⟨q,ht,hb,rs,nd,fz,s3,rep,tm,dn,d50,s64⟩:=keep;rcases yV tm with⟨x,rfl,hx⟩|⟨nm,ds,hd,dne,tms⟩
  ·cases (show v = .str x from rep);refine⟨true,rfl,?_⟩;rw[ai rfl];exact q _ _ (λ_ _ h=>h) (by unfold flt;rfl)
  ·obtain⟨va,vs',rfl,hbb,X,res⟩:∃va vs',v = .ref va/\isV H (.ref va) (.ty "str")=some false/\eW H va (.str nm::vs')/\Reps H ds vs':=by
    rcases hd with rfl|rfl
    ·obtain⟨a,vs,rfl,ha,_,vs',rfl,e1,r⟩:=rep;cases e1;exact⟨a,vs',rfl,lZ ha,.inr ha,r⟩
    ·obtain⟨a,vs,rfl,ha,_,vs',rfl,e1,r⟩:=rep;cases e1;exact⟨a,vs',rfl,qM ha,.inl ha,r⟩
   have C:∀H',aG H H'->ixV H' (.ref va) (.int 0)=some (.str nm):=λH' s'=>by
    rcases X.same s' with e|e
    ·rw[ixV_l e,atI_zero]
    ·rw[ixV_t e,atI_zero]
   have Z:flt sm d=knot sm nm (flts sm ds):=by rcases hd with rfl|rfl <;> rw[flt]
   have hsz:sz d=max 1 (szs ds):=by rcases hd with rfl|rfl <;> rw[sz]
   have hdp:depD d=depDs ds+1:=by
    rcases hd with rfl|rfl
    ·rw[depD,depDs,show depD (.str nm)=0 from rfl];lia
    ·rw[depD,depDs,show depD (.str nm)=0 from rfl];lia
   refine⟨false,hbb,?_⟩;rw[ab (by decide)];refine⟨va,rfl,_,X,λ_ h=>?_,λp o hp ho=>?_⟩
   ·have:=h.1;simp[HT.sIx]at this
   ·rw[tH]at ho;have s0:aG H (upd H p o):=aG.upd hp;refine⟨vs',by rcases ho with⟨rfl,_⟩|⟨rfl,_⟩;exact .inl upd_same;exact .inr upd_same,λJ hJ=>?_⟩;refine cR hJ (CI t sm ds (upd H p o)) ⟨none,rfl,λ_ _ h=>h,rfl⟩ ?_ ?_ ?_
    ·rintro i B σ H' _ ⟨_,_,s1,_⟩;rw[upd_same,s1 _ _ upd_same]
    ·rintro i x B σ H1 hx ⟨o0,rfl,s1,W⟩;obtain⟨e,he,re⟩:=Reps.get res hx;have s2:=s0.trans s1;have h1:=iF he;have h2:=FR he;have h3:=Reps.len W;refine⟨_,rfl,_,rfl,depD e,by lia,t,a,b,sm,sv,e,x,rfl,s2 _ _ ht,s2 _ _ hb,rs.same (bC.of s2),nd,fz,s3,aY.same s2 re,tms.get he,ac _,by lia,by lia,λv' H2 s' r'=>⟨?_,_,rfl,s1.trans s',?_⟩⟩
     ·refine aj (m:=400) ?_ (by decide);rw[gJ,ae,bv]at h3;have:=kO ds
      lia
     ·rw[take_snoc he,JH];exact Reps.snoc r' (Reps.same s' W)
    ·rintro B σ H1 ⟨o0,rfl,s1,W⟩ l hl;have W:Reps H1 (flts sm ds) B:=by have e:=Reps.len res;rw[e,bw]at W;exact W
     have sl:aG H (upd H1 l (.lst B)):=(s0.trans s1).trans (aG.upd hl);refine⟨.ref b,by rw[ixV_t (sl _ _ ht)];rfl,b,sv,_,rfl,sl _ _ hb,(rs.same (bC.of sl)).prs,λdd hdd=>?_⟩;rw[B5 nd];have s2:aG (upd H1 l (.lst B)) (upd (upd H1 l (.lst B)) dd (.dK (sm.map λr=>(.inr r.1,V.str r.2)))):=aG.upd hdd;have S:=sl.trans s2;have l2:upd (upd H1 l (.lst B)) dd (.dK (sm.map λr=>(.inr r.1,V.str r.2))) l=some (.lst B):=s2 _ _ upd_same;have d2:upd (upd H1 l (.lst B)) dd (.dK (sm.map λr=>(.inr r.1,V.str r.2))) dd=some (.dK (sm.map λr=>(.inr r.1,V.str r.2))):=upd_same;have r2:Reps (upd (upd H1 l (.lst B)) dd (.dK (sm.map λr=>(.inr r.1,V.str r.2)))) (flts sm ds) B:=Reps.same ((aG.upd hl).trans s2) W;generalize upd (upd H1 l (.lst B)) dd (.dK (sm.map λr=>(.inr r.1,V.str r.2)))=H2 at s2 S l2 d2 r2⊢;have g2:jE H2 dd (.str nm) ((zr sm nm).map V.str):=by have:=jE.k (k:=.inr nm) d2;rw[tM]at this;exact this
     refine⟨.str nm,C _ S,dd,_,rfl,g2,_,rfl,?_⟩;cases hz:zr sm nm with
     | none =>
      rw[ai (by rfl)];refine⟨.str nm,C _ S,by decide,λp1 hp1=>⟨l,rfl,B,.inl (by rw[aC (aE l2 hp1)];exact l2),λl3 H3 hc=>?_⟩⟩;rcases hc with⟨hc,_⟩|⟨_,hc,rfl⟩
      ·rw[aC (aE l2 hp1),l2]at hc;cases hc
      ·have s4:aG H2 (upd (upd H2 p1 (.tup [.str nm])) l3 (.tup B)):=(aG.upd hp1).trans (aG.upd hc);refine⟨.tup (.str nm::B),?_,λp4 hp4=>?_⟩
       ·have e1:upd (upd H2 p1 (.tup [.str nm])) l3 (.tup B) p1=some (.tup [.str nm]):=by rw[aC (aE upd_same hc)];exact upd_same
        have e2:upd (upd H2 p1 (.tup [.str nm])) l3 (.tup B) l3=some (.tup B):=upd_same;have la:=Reps.len r2;rw[gJ,ae]at la;have:=kO ds;unfold catO;simp only[e1,e2];refine ai ⟨aq (m:=500) (by simp;lia) (by decide),by simp,λz=>dne (List.length_eq_zero_iff.mp (by rw[←la,z];rfl))⟩
       ·refine q _ _ (S.trans (s4.trans (aG.upd hp4))) ?_;rw[Z];unfold knot;rw[hz];exact⟨p4,_,rfl,upd_same,.str nm,B,rfl,rfl,Reps.same (s4.trans (aG.upd hp4)) r2⟩
     | some z =>
      rw[ab (by simp)];refine⟨ax _,λfo hfo=>⟨.str nm,C _ (S.trans (aG.upd hfo)),?_⟩⟩;have sfo:aG H2 (upd H2 fo (.lst [])):=aG.upd hfo;have g3:jE (upd H2 fo (.lst [])) dd (.str nm) (some (.str z)):=by have:=jE.k (k:=.inr nm) (sfo _ _ d2);rw[tM,hz]at this;exact this
      refine⟨_,rfl,_,rfl,.str nm,C _ (S.trans sfo),dd,.str z,rfl,g3,?_⟩;have fls:=QA fz tms;have hsf:=tE sm ds;have hdf:=pB sm ds;refine⟨nm,z,l,flts sm ds,B,rfl,sfo _ _ l2,Reps.same sfo r2,fls,λi=>?_,by lia,λol us H4 s5 ol0 ol4 rus=>?_⟩
      ·have h1:=kO (opn nm z ((flts sm ds).take i));have h2:=uJ nm z ((flts sm ds).take i);have h3:=A8 i (flts sm ds)
       lia
      ·refine⟨ol,rfl,us,.inl ol4,λJ hJ=>?_⟩;have fop:Fls (opn nm z (flts sm ds)):=qC fls;have hlo:(opn nm z (flts sm ds)).length<=400:=by
        have h1:=kO (opn nm z (flts sm ds));have h2:=uJ nm z (flts sm ds)
        lia
       have hdo:=zL nm z (flts sm ds);have nfo:ol≠fo:=λe=>by rw[e,upd_same]at ol0;cases ol0
       have fo4:H4 fo=some (.lst []):=s5 _ _ upd_same;have s6:aG H2 H4:=sfo.trans s5;have U:Reps H4 (opn nm z (flts sm ds)) us:=Reps.same s5 rus;generalize hos:opn nm z (flts sm ds)=os at fop hlo hdo rus U;have lus:=Reps.len rus;have keep:=aI q (aI ht (aI hb (aI rs (aI nd (aI fz (aI tm (aI dn (aI d50 (aI s64 (aI hd (aI dne (aI tms (aI X (aI C (aI Z (aI hsz (aI hdp (aI S (aI l2 (aI d2 (aI hz (aI s5 (aI ol0 (aI ol4 (aI fop (aI hlo (aI hdo (aI nfo (aI fo4 (aI s6 (aI U (aI lus hos))))))))))))))))))))))))))))))));refine jQ hJ (GI t va l dd fo ol os us H2 H4) ⟨none,none,[],rfl,s6,ol4,bC.refl _,fo4,rfl⟩ (by rintro i σ H' _ ⟨_,_,_,_,_,h,_⟩;rw[h,ol4]) ?_ ?_
       ·rintro i x σ H5 hx ⟨o5,o6,fs,rfl,g1,O,I,g4,g5⟩;clear q ht hb rs nd fz tm dn d50 s64 hd dne tms X C Z hsz hdp S l2 d2 hz s5 ol0 ol4 fop hlo hdo nfo fo4 s6 U lus hos;have keep2:=aI hx (aI g1 (aI O (aI I (aI g4 g5))));clear hx g1 O I g4 g5
        walk_at "rd"
        obtain⟨q,ht,hb,rs,nd,fz,tm,dn,d50,s64,hd,dne,tms,X,C,Z,hsz,hdp,S,l2,d2,hz,s5,ol0,ol4,fop,hlo,hdo,nfo,fo4,s6,U,lus,hos⟩:=keep;obtain⟨hx,g1,O,I,g4,g5⟩:=keep2;obtain⟨e,he,re⟩:=Reps.get U hx;have fe:=fop.get he;have re5:=aY.tups I fe re;have dpe:=iF he;have fgs:∀g∈cC (os.take i),Fl g:=λg hg=>dU fop g (List.mem_of_mem_take ((aX _).mem_iff.mp hg));have lf:=Reps.len g5;have li:(cC (os.take i)).length<=400:=by rw[(aX _).length_eq,bv];lia
        refine RN (WI t va l dd fo x e (cC (os.take i)) H5) (wMu fs.length) ⟨0,rfl,λ_ _ h=>h,ax _,λj g hj=>absurd hj (Nat.not_lt_zero _)⟩ ?_;rintro σ H6 ⟨k,rfl,w1,w2,w3⟩ R hT hF;have h6:=w1 _ _ g4;by_cases hk:k<fs.length
        ·obtain⟨y,hy⟩:∃y,fs[k]?=some y:=⟨_,az hk⟩
         obtain⟨g,hg,rg⟩:=Reps.get g5 hy;have rg6:=aY.same w1 rg;have re6:=aY.same w1 re5;have ix6:ixV H6 (.ref fo) (.int k)=some y:=by rw[ixV_l h6,G3];exact hy
         have keep3:=aI q (aI C (aI hx (aI hT (aI hF (aI g1 (aI O (aI I (aI g4 (aI g5 (aI re6 (aI rg6 (aI w3 (aI hos (aI fgs (aI w1 Z)))))))))))))));clear q C hx hT hF g1 O I g4 g5 re6 rg6 w3 hos fgs re re5 rg rus U w1 fop Z hz ht hb rs nd fz tm hd tms X d2 s5 ol0 ol4 fo4 s6 hJ res rep W r2 g2 g3 S sfo sl s2 s0 s1
         walk_at "rd"
         obtain⟨q,C,hx,hT,hF,g1,O,I,g4,g5,re6,rg6,w3,hos,fgs,w1,Z⟩:=keep3;rw[ai (by lia)];refine⟨e,g,x,y,rfl,re6,rg6,fe,fgs g (bj hg),by lia,by lia,λH7 s7=>⟨ah e g,rfl,?_⟩⟩;cases hab:ah e g with
         | false =>
          refine hT H7 ?_;refine⟨_,rfl,.inl ⟨_,rfl,⟨k+1,rfl,w1.trans s7,by lia,λj g' hj hg'=>?_⟩,?_⟩⟩
          ·by_cases ej:j<k
           ·exact w3 j g' ej hg'
           ·have:j=k:=by lia
            subst this;rw[hg]at hg';cases hg';exact hab
          ·show((fs.length:Int) - ((k:Int)+1)).toNat<((fs.length:Int) - (k:Int)).toNat
           lia
         | true =>
          refine hF H7 ?_;have h7:=s7 _ _ h6;have ein:=AC (d:=e) (l:=cC (os.take i)) w2 w3 (λg' hg'=>by rw[hg]at hg';cases hg';exact hab);refine⟨_,rfl,tyL h7,_,rfl,_,rfl,fo,fs,k,x,rfl,rfl,h7,by lia,by lia,?_⟩;have w9:=w1.trans s7;have s9:aG H2 (upd H7 fo (.lst (fs.take k++x::fs.drop k))):=λc u hc=>by rw[aC (λw=>by rw[w,hfo]at hc;cases hc)];exact w9 _ _ (g1 _ _ hc)
          have t9:bC H7 (upd H7 fo (.lst (fs.take k++x::fs.drop k))):=bC.lst h7;refine⟨_,_,fs.take k++x::fs.drop k,rfl,s9,by rw[aC nfo];exact w9 _ _ O,(I.trans (bC.of w9)).trans t9,upd_same,?_⟩;rw[take_snoc he,rF,ein];exact Reps.cut (aY.tups t9 fe (aY.same s7 re6)) k (Reps.tups t9 (iZ fgs) (Reps.same w9 g5))
        ·have keep3:=aI q (aI C (aI hx (aI hT (aI hF (aI g1 (aI O (aI I (aI g4 (aI g5 (aI w3 (aI hos (aI fgs (aI w1 (aI re5 Z))))))))))))));clear q C hx hT hF g1 O I g4 g5 w3 hos fgs re re5 rus U w1 fop Z hz ht hb rs nd fz tm hd tms X d2 s5 ol0 ol4 fo4 s6 hJ res rep W r2 g2 g3 S sfo sl s2 s0 s1
         walk_at "rd"
         obtain⟨q,C,hx,hT,hF,g1,O,I,g4,g5,w3,hos,fgs,w1,re5,Z⟩:=keep3;rw[ab (by lia)];refine hF H6 ?_
         have ein:=AC (d:=e) (l:=cC (os.take i)) w2 w3 (λg' hg'=>by
          have:=(cr.mp hg').1
          lia)
         have re6:=aY.same w1 re5;refine⟨_,rfl,tyL h6,_,rfl,_,rfl,fo,fs,k,x,rfl,rfl,h6,by lia,by lia,?_⟩;have s9:aG H2 (upd H6 fo (.lst (fs.take k++x::fs.drop k))):=λc u hc=>by rw[aC (λw=>by rw[w,hfo]at hc;cases hc)];exact w1 _ _ (g1 _ _ hc)
         have t9:bC H6 (upd H6 fo (.lst (fs.take k++x::fs.drop k))):=bC.lst h6;refine⟨_,_,fs.take k++x::fs.drop k,rfl,s9,by rw[aC nfo];exact w1 _ _ O,(I.trans (bC.of w1)).trans t9,upd_same,?_⟩;rw[take_snoc he,rF,ein];exact Reps.cut (aY.tups t9 fe re6) k (Reps.tups t9 (iZ fgs) (Reps.same w1 g5))
       ·rintro σ H5 ⟨o5,o6,fs,rfl,g1,O,I,g4,g5⟩;rw[lus,bw]at g5;have keep2:=aI g1 (aI O (aI I (aI g4 g5)));clear q ht hb rs nd fz tm dn d50 s64 hd dne tms X C Z hsz hdp S l2 d2 hz s5 ol0 ol4 fop hlo hdo nfo fo4 s6 U lus hos g1 O I g4 g5
        walk_at "rd"
        obtain⟨q,ht,hb,rs,nd,fz,tm,dn,d50,s64,hd,dne,tms,X,C,Z,hsz,hdp,S,l2,d2,hz,s5,ol0,ol4,fop,hlo,hdo,nfo,fo4,s6,U,lus,hos⟩:=keep;obtain⟨g1,O,I,g4,g5⟩:=keep2;have lf:=Reps.len g5;have ll:(cC os).length=os.length:=(aX os).length_eq;have hk:flt sm d=one nm z (cC os):=by rw[Z];unfold knot;rw[hz,←hos]
        have s7:=S.trans g1;by_cases h:1<fs.length
        ·rw[ai (by lia)];refine⟨.str nm,C _ s7,by decide,λp1 hp1=>⟨fs,.inl (by rw[aC (aE g4 hp1)];exact g4),λl3 H3 hc=>?_⟩⟩;rcases hc with⟨hc,_⟩|⟨_,hc,rfl⟩
         ·rw[aC (aE g4 hp1),g4]at hc;cases hc
         ·have s4:aG H5 (upd (upd H5 p1 (.tup [.str nm])) l3 (.tup fs)):=(aG.upd hp1).trans (aG.upd hc);refine⟨.tup (.str nm::fs),?_,λp4 hp4=>?_⟩
          ·have e1:upd (upd H5 p1 (.tup [.str nm])) l3 (.tup fs) p1=some (.tup [.str nm]):=by rw[aC (aE upd_same hc)];exact upd_same
           have e2:upd (upd H5 p1 (.tup [.str nm])) l3 (.tup fs) l3=some (.tup fs):=upd_same;unfold catO;simp only[e1,e2];refine ai ⟨aq (m:=500) (by simp;lia) (by decide),by simp,λz=>by rw[z]at h;simp at h⟩
          ·refine q _ _ (s7.trans (s4.trans (aG.upd hp4))) ?_;rw[hk,BT (by lia)];exact⟨p4,_,rfl,upd_same,.str nm,fs,rfl,rfl,Reps.same (s4.trans (aG.upd hp4)) g5⟩
        ·rw[ab (by lia)];have g6:jE H5 dd (.str nm) (some (.str z)):=by have:=jE.k (k:=.inr nm) (g1 _ _ d2);rw[tM,hz]at this;exact this
         refine⟨_,rfl,_,rfl,.str nm,C _ s7,dd,.str z,rfl,g6,by decide,λp1 hp1=>⟨.lst (fs++[.str z]),pE (by rw[aC (aE g4 hp1)];exact g4) upd_same (aq (m:=500) (by simp;lia) (by decide)),λp2 hp2=>?_⟩⟩;have s8:aG H5 (upd (upd H5 p1 (.lst [.str z])) p2 (.lst (fs++[.str z]))):=(aG.upd hp1).trans (aG.upd hp2);cases hl:cC os with
         | nil =>
          rw[hl]at g5 hk;cases g5;exact⟨.str z,by rw[ixV_l upd_same];rfl,q _ _ (s7.trans s8) (by rw[hk];rfl)⟩
         | cons g gs =>
          rw[hl]at g5 hk lf;have en:gs=[]:=by rw[au]at lf;exact List.length_eq_zero_iff.mp (by lia)
          subst en;obtain⟨y,r,rfl,ry,_⟩:=g5;exact⟨y,by rw[ixV_l upd_same,List.cons_append,atI_zero],q _ _ (s7.trans s8) (by rw[hk];exact aY.same s8 ry)⟩
theorem P9 (F:fP K "_law_flat" "_law_flat" eK f fd)(T:Txt mg)(d:∀n,dG P w K mg base bJ (n+2) "_law_ahead" (kP n))(c:dG P w K mg base bJ 1 "_law_opened" oC)
  (l:mg "_law_flat" = some (.ref f)) (o:PySem.W.keepIn K (.ref f)=true) (hb:eI K fd iJ []):∀n,cA P w K mg base bJ (n+3) f fd iJ (pW n):=by
 intro n
 induction n using Nat.strongRecOn with
 | ind n g =>
  exact PJ n F T (d n) c ⟨f,fd,_,⟨λvs H Q E ⟨m,e,h⟩=>(g m e).len vs H Q E h,λA outer s H args us vs Q E j p hb i ⟨m,e,h⟩=>((g m e).mono (by lia)).run A outer s H args us vs Q E j p hb i h⟩,l,o,hb⟩
theorem LF (F:fP K "_law_flat" "_law_flat" eK f fd)(T:Txt mg)(d:∀n,dG P w K mg base bJ (n+2) "_law_ahead" (kP n))(c:dG P w K mg base bJ 1 "_law_opened" oC)
  (e:mg "_law_flat" = some (.ref f)) (g:PySem.W.keepIn K (.ref f)=true) (hb:eI K fd iJ []) (n:Nat):dG P w K mg base bJ (n+3) "_law_flat" (pW n):=⟨f,fd,_,P9 F T d c e g hb n,e,g,hb⟩
theorem Reps.rev:∀{ds:List D} {vs:List V},Reps H ds vs->Reps H ds.reverse vs.reverse
 | [],_,e=>by cases e;rfl
 | d::ds,_,⟨x,r,e,a,b⟩=>by subst e;rw[List.reverse_cons,List.reverse_cons];exact Reps.snoc a (Reps.rev b)
noncomputable def mulO (c:cP)(n:Str):Option Int:=(c.find? λr=>decide (r.1=n)).map (·.2)
noncomputable def mulV (c:cP)(n:Str):V:=((mulO c n).map V.int).getD .non
noncomputable def nulV (sm:cE)(n:Str):V:=((zr sm n).map V.str).getD .non
theorem J8 (n:Str):∀c:cP,valV (c.map λr=>((.inr r.1,V.int r.2):cM×V)) (.inr n)=(mulO c n).map V.int
 | []=>rfl
 | r::l=>by
  by_cases e:r.1=n
  ·rw[bf,j9 (by rw[e])];simp[mulO,e]
  ·rw[bf,kA (λz=>e (by cases z;rfl)),J8 n l];simp[mulO,e]
structure gN (K:PySem.W.Frag)(C:Addr)(fx:cP)(sm:cE)(H:Hp)(g:Addr):Prop where
 cls:J4 K C
 n1:iM K C "many_by_name"
 n2:iM K C "nought_by_name"
 ex:∃dx fs dm dn,H g=some (.ins C dx fs)/\fs.lookup ("many" : Str)=none/\fs.lookup ("nought" : Str)=none/\fs.lookup ("many_by_name" : Str)=some (.ref dm)/\fs.lookup ("nought_by_name" : Str)=some (.ref dn) /\
  H dm=some (.dK (fx.map λr=>(.inr r.1,.int r.2)))/\H dn=some (.dK (sm.map λr=>(.inr r.1,.str r.2)))
theorem gN.same (h:gN K C fx sm H g)(s:aG H H'):gN K C fx sm H' g:=by obtain⟨a,b,c,o,fs,q,p,m,l,j,i,f,e,d⟩:=h;exact⟨a,b,c,o,fs,q,p,s _ _ m,l,j,i,f,s _ _ e,s _ _ d⟩
def DV (K:PySem.W.Frag)(C:Addr):Sp:=λvs H Q _=>∃(g:Addr) (n:Str) (fx:cP) (sm:cE),vs=[.ref g,.str n]/\gN K C fx sm H g/\Q (mulV fx n) H
theorem PB (F:fP K "many" "Signs.many" dQ f fd)(T:Txt mg):cA P w K mg base bJ 1 f fd lD (DV K C):=by
 refine F.ok wH (λvs H Q E h=>?_) (λG A outer s H vs Q E o h=>?_)
 ·obtain⟨g,n,x,sm,rfl,_⟩:=h;rfl
 ·obtain⟨g,n,x,sm,rfl,⟨l,j,I,z,fs,B,J,i,u,t,e,r,c,p⟩,q⟩:=h;have m:=o.units;refine⟨_,(aF (aO (uH (aV K rfl (aK aM rfl T.n_isinstance rfl (aA (pv 1) (aA (bZ (v:=V.ty "str") rfl T.n_str rfl rfl) aB))) (λ_=>rfl)) (BO (aj (bS (by decide) _) m) (LB (pv 0) rfl) (pv 1) ⟨rfl,rfl,rfl,rfl⟩) zH))),?_⟩
  try dsimp only[cxOf,Cx.nox]
  simp only[lG];clear o F T m;have d:=jE.k (k:=.inr n) c;rw[J8]at d;have keep:=aI q (aI l (aI j (aI i (aI e (aI c d)))));clear q l j I i u t e r c p d
  walk_at "rd"
  obtain⟨q,l,j,i,e,c,d⟩:=keep;refine⟨true,rfl,?_⟩;rw[ai rfl];exact⟨_,rfl,g,C,z,fs,_,rfl,i,l,j,e,B,rfl,.inl ⟨_,.inl c⟩,_,rfl,_,d,q⟩
def oE (K:PySem.W.Frag)(C:Addr):Sp:=λvs H Q _=>∃(g:Addr) (n:Str) (fx:cP) (sm:cE),vs=[.ref g,.str n]/\gN K C fx sm H g/\Q (nulV sm n) H
theorem IF (F:fP K "nought" "Signs.nought" cZ f fd)(T:Txt mg):cA P w K mg base bJ 1 f fd i8 (oE K C):=by
 refine F.ok sD (λvs H Q E h=>?_) (λG A outer s H vs Q E o h=>?_)
 ·obtain⟨g,n,x,sm,rfl,_⟩:=h;rfl
 ·obtain⟨g,n,x,sm,rfl,⟨l,I,j,z,fs,J,B,i,u,t,r,e,p,c⟩,q⟩:=h;have m:=o.units;refine⟨_,(aF (aO (uH (aV K rfl (aK aM rfl T.n_isinstance rfl (aA (pv 1) (aA (bZ (v:=V.ty "str") rfl T.n_str rfl rfl) aB))) (λ_=>rfl)) (BO (aj (bS (by decide) _) m) (LB (pv 0) rfl) (pv 1) ⟨rfl,rfl,rfl,rfl⟩) zH))),?_⟩
  try dsimp only[cxOf,Cx.nox]
  simp only[jA];clear o F T m;have d:=jE.k (k:=.inr n) c;rw[tM]at d;have keep:=aI q (aI l (aI j (aI i (aI e (aI c d)))));clear q l I j i u t r e p c d
  walk_at "rd"
  obtain⟨q,l,j,i,e,c,d⟩:=keep;refine⟨true,rfl,?_⟩;rw[ai rfl];exact⟨_,rfl,g,C,z,fs,_,rfl,i,l,j,e,B,rfl,.inl ⟨_,.inl c⟩,_,rfl,_,d,q⟩
theorem UF (h:isWd c):inTx "abcdefghijklmnopqrstuvwxyz0123456789" c=true:=by
 have a:∀j:Fin 26,inTx "abcdefghijklmnopqrstuvwxyz0123456789" (97+j.1)=true:=by decide +kernel
 have b:∀j:Fin 10,inTx "abcdefghijklmnopqrstuvwxyz0123456789" (48+j.1)=true:=by decide +kernel
 unfold isWd at h;rcases h with h|h
 ·have:=a ⟨c - 97,by lia⟩;rw[show 97+(c - 97)=c by lia]at this;exact this
 ·have:=b ⟨c - 48,by lia⟩;rw[show 48+(c - 48)=c by lia]at this;exact this
theorem B9 (h:z.length<=sizeLine):lenV H (.str z)=some z.length:=ai h
theorem zZ (h:z.length<=sizeLine):ixV H (.str z) (.int i)=(atI z.cps.toList i).map λc=>.str ⟨#[c]⟩:=ai h
def DU:Sp:=λvs H Q _=>∃x:Str,vs=[.str x]/\(bO x∨i9 x)/\∀H',aG H H'->(bO x->Q (.bl true) H')/\(i9 x->Q (.bl false) H')
theorem O3 (F:fP K "is_wish" "is_wish" kE f fd)(T:Txt mg):cA P w K mg base bJ 1 f fd yN DU:=by
 refine F.ok DY (λvs H Q E h=>?_) (λZ A outer s H vs Q E J h=>?_)
 ·obtain⟨x,rfl,_⟩:=h;rfl
 ·obtain⟨x,rfl,g,q⟩:=h;have I:=J.units
  refine⟨_,(aD (bH (PW.pt (kG (dA (aV K rfl (aK aM rfl T.n_isinstance rfl (aA (pv 0) (aA (bZ (v:=V.ty "str") rfl T.n_str rfl rfl) aB))) (λ_=>rfl))) (iK (dA (lW oT oT aJ (aK bG rfl T.n_len rfl (aA (pv 0) aB)) (gH T.c_LONGEST_WISH rfl)))))) (aF (aO mY)) aS)
   (aF (aO (LC (dR (dL I) (bM cY (pv 0) aJ (λ_ _=>rfl)) gW (nomark _)) (D8 (aK (qU rfl) rfl T.n_all rfl (aA (hV rfl (bF.by (N:=qV) (names:=(aH kE).names) (N':=["sign"]) (src:=[none]) (by decide +kernel) rfl rfl) (K5 (fH R4 (pv 0) (eG aJ) fK)) (λ_ _ _ _=>(bP (i:=0) (show List.Nodup (["sign"]:aT)by decide +kernel) rfl (Or.inl rfl))) (λ_ _ _ _=>eF) (λ_ _ _ _=>(dR qG (pv 0) (gH T.c_WISH_SIGNS rfl) (by with_unfolding_all rfl)))) aB))))))),?_⟩
  try dsimp only[cxOf,Cx.nox]
  simp only[qV];clear J F T I;have keep:=aI q g;clear q g
  walk_at "rd"
  obtain⟨q,g⟩:=keep;have W:x.length<=20:=by
   rcases g with⟨l,rfl,_,u,_⟩|h
   ·show(63::l).toArray.size<=20;rw[ag,au];lia
   ·have:=h.2.1;rw[br]at this;exact aq this (by decide)
  have hz:x.length<=sizeLine:=aq W (by decide);refine⟨true,rfl,?_⟩;rw[ab (by decide)];refine⟨.int x.length,by rw[B9 hz];rfl,_,rfl,?_⟩;rcases g with G|t
  ·obtain⟨l,rfl,h1,u,L⟩:=id G;have B:(Str.mk (63::l).toArray).length=l.length+1:=by show(63::l).toArray.size=_;rw[ag,au]
   have j:=λH' z=>(q H' z).1 G;have R:ixV H (.str ⟨(63::l).toArray⟩) (.int 0)=some (.str ⟨#[63]⟩):=by rw[zZ hz];show(atI (63::l).toArray.toList 0).map _=_;rw[List.toList_toArray,atI_zero];rfl
   rw[ai (by rw[B];lia)];refine⟨_,rfl,?_⟩;rw[ab (by rw[B];lia)];refine⟨_,R,?_⟩;rw[rEqD_ss]

   refine⟨_,rfl,?_⟩;have C:decide ((⟨#[63]⟩:Str)=Str.ofString "?")=true:=by decide +kernel
   rw[ai C];have O:tl1 ⟨(63::l).toArray⟩=⟨l.toArray⟩:=by unfold tl1;simp
   refine⟨_,rfl,1,rfl,⟨(63::l).toArray⟩,rfl,rfl,rfl,by rw[B];lia,hz,tl1 ⟨(63::l).toArray⟩,rfl,?_,?_⟩
   ·rw[O];simp only[List.all_toArray,List.all_eq_true,decide_eq_true_eq];intro c hc;have:=L c hc;unfold isWd at this
    lia
   ·rw[O];refine yB (λi d σ H'=>H'=H/\d=(List.replicate i true).map V.bl/\i<=8/\∃o:Option V,σ=[o]) ⟨rfl,rfl,by decide,none,rfl⟩ ?_ ?_
    ·rintro i c d σ H' hc ⟨rfl,rfl,hi,o,rfl⟩;have hc':l[i]?=some c:=by simpa using hc
     have U:c∈l:=bj hc';have hi':i<l.length:=(cr.mp hc').1;refine⟨_,rfl,_,rfl,_,rfl,?_⟩;have e:=UF (L c U);unfold inTx at e;dsimp only;refine⟨aj (m:=100) (by simp;lia) (by decide),rfl,?_,by lia,_,rfl⟩;rw[e,List.replicate_succ',ba];rfl
    ·rintro d σ H' ⟨rfl,rfl,hi,o,rfl⟩ p S;refine⟨p,rfl,List.replicate _ true,upd_same,?_⟩;have:(List.replicate (Str.mk l.toArray).cps.size true).all id=true:=by simp
     rw[this];exact j _ (aG.upd S)
  ·have j:=λH' z=>(q H' z).2 t;by_cases u:(2:Int)<=x.length
   ·rw[ai u];refine⟨_,rfl,?_⟩;have:=t.2.1;rw[br]at this;have e9:(x.length:Int)<=9:=by show(x.cps.size:Int)<=9;lia
    rw[ab (by lia)];cases hc:x.cps.toList with
    | nil=>have:=t.1;rw[hc]at this;simp at this
    | cons c r =>
     have X:=t.2.2 c (by rw[hc];exact ay);refine⟨.str ⟨#[c]⟩,by rw[zZ hz,hc,atI_zero];rfl,?_⟩;rw[rEqD_ss];refine⟨_,rfl,?_⟩;rw[ab]
     ·exact j _ (aG.refl _)
     ·intro w;have:=bu w;have e:(⟨#[c]⟩:Str).cps=(Str.ofString "?").cps:=by rw[this]
      have Y:(Str.ofString "?").cps = #[63]:=by decide +kernel
      rw[Y]at e;have:c=63:=by simpa using e
      lia
   ·rw[ab u];exact j _ (aG.refl _)
theorem B2 (so:bD fx sm)(h:(n,k)∈fx):mulO fx n=some k:=by
 have nd:=(List.nodup_append.mp so.nd).1;unfold mulO;clear so
 induction fx with
 | nil=>cases h
 | cons r l c =>
  rw[bf,cz]at nd;obtain rfl|h:=cu.mp h
  ·simp
  ·have ne:r.1≠n:=λe=>nd.1 (by rw[e];exact List.mem_map_of_mem (f:=(·.1)) h);rw[List.find?_cons,bo ne];exact c h nd.2
theorem NR (h:n∉sm.map (·.1)):zr sm n=none:=by
 unfold zr;rw[List.find?_eq_none.mpr]
 ·rfl
 ·intro r c e;exact h (cx.mpr ⟨r,c,bu e⟩)
theorem NQ (h:n∈sm.map (·.1)):∃z,zr sm n=some z:=by
 obtain⟨r,c,e⟩:=cx.mp h;cases q:sm.find? (λr=>decide (r.1=n))with
 | none=>exact absurd (bi e) (List.find?_eq_none.mp q r c)
 | some z=>exact⟨z.2,by unfold zr;rw[q];rfl⟩
def F3 (K:PySem.W.Frag)(C:Addr):Sp:=λvs H Q _=>∃(g:Addr) (fx:cP) (sm:cE) (os:aT) (d:D) (v:V),vs=[.ref g,v]/\gN K C fx sm H g/\bD fx sm/\(∀x∈os,bO x)/\aY H d v/\aZ fx sm os d/\lvs d<=100/\∀H',aG H H'->Q (.bl true) H'
theorem LY (F:fP K "is_built" "is_built" kW f fd)(T:Txt mg)(c:dG P w K mg base bJ 1 "is_wish" DU)(j:J1 P w K mg base bJ 1 C "many" (DV K C))(i:J1 P w K mg base bJ 1 C "nought" (oE K C)):cA P w K mg base bJ 2 f fd vO (F3 K C):=by
 refine F.ok BE (λvs H Q E h=>?_) (λcdv A outer s H vs Q E t h=>?_)
 ·obtain⟨g,B,sm,os,d,v,rfl,_⟩:=h;rfl
 ·obtain⟨g,B,sm,os,d,v,rfl,sg,so,ho,rep,tm,o,q⟩:=h;have X:=t.units
  refine⟨_,(aD (bH (aV K rfl (aK aM rfl T.n_isinstance rfl (aA (pv 1) (aA (bZ (v:=V.ty "str") rfl T.n_str rfl rfl) aB))) (λ_=>rfl)) (aF (aO (UI (aL c (t.mono (by decide)) pass0 rfl (aA (pv 1) aB)) (D8 (dR (dL X) (zI j (t.mono (by decide)) pass0 (pv 0) (aA (pv 1) aB)) aJ (nomark _)))))) aS)
   (aD (bH (PW.pt (kG (dA (aV K rfl (aK aM rfl T.n_isinstance rfl (aA (pv 1) (aA (fA (aA (bZ (v:=V.ty "list") rfl T.n_list rfl rfl) (aA (bZ (v:=V.ty "tuple") rfl T.n_tuple rfl rfl) aB))) aB))) (λ_=>rfl))) (iK (aU (jU X) (aK bG rfl T.n_len rfl (aA (pv 1) aB)) aJ (nomark _))))) (aF (aO mY)) aS)
   (aD (bH (aU OX (zI i (t.mono (by decide)) pass0 (pv 0) (aA (bM cY (pv 1) aJ (λ_ _=>rfl)) aB)) zH (nomark _)) (aF (aO (dR Q7 (aK bG rfl T.n_len rfl (aA (pv 1) aB)) aJ (nomark _)))) aS)
   (aF (aO (dR (dL X) (zI j (t.mono (by decide)) pass0 (pv 0) (aA (bM cY (pv 1) aJ (λ_ _=>rfl)) aB)) (bK qD (aK bG rfl T.n_len rfl (aA (pv 1) aB)) aJ) (nomark _))))))),?_⟩
  try dsimp only[cxOf,Cx.nox]
  simp only[nV];clear t F T X c j i;have keep:=aI q (aI sg (aI so (aI ho (aI rep (aI tm o)))));clear q sg so ho rep tm o
  walk_at "rd"
  obtain⟨q,sg,so,ho,rep,tm,o⟩:=keep;obtain⟨dx,fs,_,_,U,Z,h3,_⟩:=sg.ex;rcases DT tm with⟨x,rfl,L⟩|⟨n,ds,hd,hh,tms⟩
  ·cases (show v = .str x from rep);refine⟨true,rfl,?_⟩;rw[ai rfl];rcases L with L|L
   ·have W:=ho x L;refine⟨x,rfl,.inl W,λH' N=>⟨λ_=>⟨true,rfl,?_⟩,λY=>?_⟩⟩
    ·rw[ai rfl];exact q _ N
    ·obtain⟨l,rfl,_⟩:=W;have:=Y.2.2 63 (by simp)
     lia
   ·obtain⟨r,t,e⟩:∃r∈B,r.1=x/\r.2=0:=by unfold zeros at L;obtain⟨r,U,rfl⟩:=cx.mp L;obtain⟨Z,h3⟩:=da.mp U;exact⟨r,Z,rfl,by simpa using h3⟩
    have Y:i9 x:=so.nm x (ci _ (cx.mpr ⟨r,t,e.1⟩));have hm:mulO B x=some 0:=B2 so (by rw[←e.1,←e.2];exact t);refine⟨x,rfl,.inr Y,λH' N=>⟨λW=>?_,λ_=>⟨false,rfl,?_⟩⟩⟩
    ·obtain⟨l,rfl,_⟩:=W;have:=Y.2.2 63 (by simp)
     lia
    ·rw[ab (by decide)];refine⟨_,rfl,g,dx,fs,rfl,N _ _ U,Z,_,rfl,g,x,B,sm,rfl,sg.same N,?_⟩;show rEqD (mulV B x) _ _ _;unfold mulV;rw[hm];show rEqD (.int 0) _ _ _;rw[rEqD_ii];exact q _ N
  ·obtain⟨J,m,rfl,hbb,hseq,res⟩:∃J m,v = .ref J/\isV H (.ref J) (.ty "str")=some false/\eW H J (.str n::m)/\Reps H ds m:=by
    rcases hd with rfl|rfl
    ·obtain⟨a,vs,rfl,S,_,m,rfl,e1,r⟩:=rep;cases e1;exact⟨a,m,rfl,lZ S,.inr S,r⟩
    ·obtain⟨a,vs,rfl,S,_,m,rfl,e1,r⟩:=rep;cases e1;exact⟨a,m,rfl,qM S,.inl S,r⟩
   have hlen:=Reps.len res;refine⟨false,hbb,?_⟩;rw[ab (by decide)];refine⟨by decide,λp hp=>?_⟩;have u:aG H (upd H p (.tup [.ty "list",.ty "tuple"])):=aG.upd hp;have I:upd H p (.tup [.ty "list",.ty "tuple"]) p=some (.tup [.ty "list",.ty "tuple"]):=upd_same;generalize upd H p (.tup [.ty "list",.ty "tuple"])=H1 at u I⊢;have G:=hseq.same u;have O:ixV H1 (.ref J) (.int 0)=some (.str n):=by
    rcases G with e|e
    ·rw[ixV_l e,atI_zero]
    ·rw[ixV_t e,atI_zero]
   have ln:lenV H1 (.ref J)=some (m.length+1):=by
    rcases G with e|e
    ·rw[lenV_l e];rfl
    ·rw[lenV_t e];rfl
   refine⟨true,by rcases G with e|e;exact ML e I;exact MK e I,?_⟩;rw[ab (by decide)];have R:=nS hh;refine⟨_,by rw[ln];rfl,_,rfl,?_⟩;rw[ab (by lia)];refine⟨_,rfl,g,dx,fs,rfl,u _ _ U,h3,_,rfl,.str n,O,g,n,B,sm,rfl,sg.same u,?_⟩;rcases hh with⟨k0,R⟩|⟨k2,R⟩
   ·have nin:n∉sm.map (·.1):=λz=>(List.nodup_append.mp so.nd).2.2 n (List.mem_map_of_mem (f:=(·.1)) R) n z rfl;have e0:nulV sm n = .non:=by unfold nulV;rw[NR nin];rfl
    have em:mulV B n = .int (ds.length:Int):=by unfold mulV;rw[B2 so R];rfl
    rw[e0];refine⟨false,rfl,?_⟩;rw[ab (by decide)];refine⟨_,rfl,g,dx,fs,rfl,u _ _ U,Z,_,rfl,.str n,O,g,n,B,sm,rfl,sg.same u,?_⟩;refine⟨_,by rw[ln];rfl,_,rfl,?_⟩;rw[em,rEqD_ii,bi (by lia)];exact q _ u
   ·obtain⟨z,hz⟩:=NQ R;have e0:nulV sm n = .str z:=by unfold nulV;rw[hz];rfl
    rw[e0];refine⟨true,rfl,?_⟩;rw[ai rfl];refine⟨_,by rw[ln];rfl,_,rfl,?_⟩;rw[bi (p:=_) (by lia)];exact q _ u
mutual
noncomputable def nds:D->Nat
 | .tup (_::ds)=>1+ndss ds
 | .lst (_::ds)=>1+ndss ds
 | _=>1
noncomputable def ndss:List D->Nat
 | []=>0
 | d::ds=>nds d+ndss ds
end
theorem sU (d:D):1<=nds d:=by unfold nds;split <;> lia
theorem kI:∀ds:List D,ds.length<=ndss ds
 | []=>ac _
 | d::ds=>by rw[ndss,au];have:=sU d;have:=kI ds;lia
theorem gI:∀ds c:List D,ndss (ds++c)=ndss ds+ndss c
 | [],c=>by simp[ndss]
 | d::ds,c=>by rw[List.cons_append,ndss,gI ds c,ndss];lia
theorem uN:∀ds:List D,ndss ds.reverse=ndss ds
 | []=>rfl
 | d::ds=>by rw[List.reverse_cons,gI,uN ds,ndss,ndss,ndss];lia
theorem J7 {c:TT}{f:TS}{D:jD}{σ:St}{H:Hp}(Pv:Nat->St->Hp->Prop)(n:Nat)(i:Pv n σ H)
  (g:∀n σ H,Pv n σ H->∀R:Bool->Hp->Prop,(∀H',f {D with nx:=λe d=>∃m,m<n/\Pv m e d,ct:=λe d=>∃m,m<n/\Pv m e d,bk:=D.nx} σ H'->R true H')->(∀H',D.nx σ H'->R false H')->c σ H R):tR c f D σ H:=by
 refine⟨Pv,⟨n,i⟩,?_⟩;intro m σ H p;refine g m σ H p _ (λH' h=>?_) (λH' h=>?_)
 ·rw[ai rfl];exact⟨_,λe d z=>z,h⟩
 ·rw[ab (by decide)];exact h
theorem AJ:del (upd H p o) p=del H p:=by
 funext b;unfold del upd;by_cases e:b=p
 ·rw[ai e,ai e]
 ·rw[ab e,ab e,ab e]
theorem G1 (h:H p=none):aG (del H t) (del (upd H p o) t):=λb u e=>by obtain⟨c,d⟩:=dH e;exact eL (by rw[aC (aE c h)];exact c) d
theorem kJ (s:aG H H'):aG (del H t) (del H' t):=λb u e=>by obtain⟨d,c⟩:=dH e;exact eL (s _ _ d) c
theorem jL:∀{ds:List D} {vs:List V},Reps H (ds++[d]) vs->∃us v,vs=us++[v]/\Reps H ds us/\aY H d v
 | [],vs,⟨v,r,e,h,h'⟩=>by
  cases (show r=[]from h');exact⟨[],v,e,rfl,h⟩
 | c::ds,vs,⟨v,r,e,h,h'⟩=>by obtain⟨us,u,i,g,f⟩:=jL (ds:=ds) h';exact⟨v::us,u,by rw[e,i];rfl,⟨v,us,rfl,h,g⟩,f⟩
noncomputable def tp (r:D×Nat):D:=.tup [r.1,.int r.2]
def WG (g t:Addr)(v:V)(d:cP)(sm:cE)(os:aT)(H:Hp)(n:Nat)(σ:St)(c:Hp):Prop:=∃(ps:List (D×Nat)) (vs:List V) (o3 o4:Option V),σ=[some (.ref g),some v,some (.ref t),o3,o4]/\c t=some (.lst vs)/\aG H (del c t) /\
 Reps (del c t) (ps.map tp) vs/\(∀r∈ps,aZ d sm os r.1/\lvs r.1<=100/\r.2+depD r.1<=100)/\ndss (ps.map (·.1))=n/\n<=1000
def WH (t:Addr)(ds:List D)(k:Nat)(g:Hp)(i:Nat)(c:List V)(σ:St)(e:Hp):Prop:=∃f:Option V,σ=[f,some (.int k)]/\aG g e/\Reps (del e t) ((ds.reverse.take i).map λd=>tp (d,k+1)) c
theorem FG (h:H t=none)(s:aG H H2):aG H (del H2 t):=λb u e=>eL (s _ _ e) (aE e h)
theorem G0 (s:aG H (del H2 t)):aG H H2:=λb u e=>(dH (s _ _ e)).1
def sP (K:PySem.W.Frag)(C:Addr):Sp:=λvs H Q _=>∃(g:Addr) (fx:cP) (sm:cE) (os:aT) (d:D) (v:V),vs=[.ref g,v]/\gN K C fx sm H g/\bD fx sm/\(∀x∈os,bO x)/\aY H d v/\aZ fx sm os d/\lvs d<=100/\depD d<=100/\nds d<=1000/\∀H',aG H H'->Q .non H'
theorem LX (F:fP K "check_term" "check_term" gF f fd)(T:Txt mg)(j:dG P w K mg base bJ 2 "is_built" (F3 K C)):cA P w K mg base bJ 3 f fd pH (sP K C):=by
 refine F.ok g8 (λvs H Q E h=>?_) (λcdv A outer s H vs Q E hr h=>?_)
 ·obtain⟨g,fx,sm,os,d,v,rfl,_⟩:=h;rfl
 ·obtain⟨g,fx,sm,os,d,v,rfl,sg,so,ho,rep,tm,l100,d100,n1000,q⟩:=h;have hu:=hr.units
  refine⟨_,(aD (aW (i:=2) g8.nd rfl (Or.inl rfl) (cF (aA (fA (aA (pv 1) (aA aJ aB))) aB)))
   (aF (oO dh (aV K rfl (pv 2) (λ_=>rfl)) (aD (uE (EA de PySem.F.slot_list_pop PySem.F.type_list_pop EI (pv 2)) (K6 rfl (oR (bP (i:=3) g8.nd rfl (Or.inl rfl)) (oR (bP (i:=4) g8.nd rfl (Or.inr rfl)) F8))))
   (aD (bH (PW.pt (kG (aU BS (pv 4) (gH T.c_DEEPEST rfl) (nomark _)) (iK (dA (aV K rfl (aL j (hr.mono (by decide)) pass0 rfl (aA (pv 0) (aA (pv 3) aB))) (λ_=>rfl)))))) (aF d9) aS)
   (aF (bH (dA (aV K rfl (aK aM rfl T.n_isinstance rfl (aA (pv 3) (aA (bZ (v:=V.ty "str") rfl T.n_str rfl rfl) aB))) (λ_=>rfl))) (aF (cU (kH de PySem.F.slot_list_extend PySem.F.type_list_extend zR (pv 2) (aA (hV rfl (bF.by (N:=lE) (names:=(aH gF).names) (N':=["part","depth"]) (src:=[none,some 4]) (by decide +kernel) rfl rfl) (cV K rfl (xE F4 (pv 3) fK (eG aJ) (eG (Q6 KA aJ)))) (λ_ _ _ _=>(bP (i:=0) (show List.Nodup (["part","depth"]:aT)by decide +kernel) rfl (Or.inl rfl))) (λ_ _ _ _=>eF) (λ_ _ _ _=>(fA (aA (pv 0) (aA (bK bQ (pv 1) aJ) aB))))) aB)))) aS))))))),?_⟩
  try dsimp only[cxOf,Cx.nox]
  clear hr F T hu j;simp only[tComp_fn];refine⟨_,rfl,show 2<=sizeLine by decide,λp hp=>⟨show 1<=sizeLine by decide,λt ht=>?_⟩⟩;have s1:aG H (upd H p (.tup [v,.int 0])):=aG.upd hp;have L:upd H p (.tup [v,.int 0]) p=some (.tup [v,.int 0]):=upd_same;generalize upd H p (.tup [v,.int 0])=H1 at s1 L ht⊢;have ht0:H t=none:=s1.free ht;have e1:del (upd H1 t (.lst [.ref p])) t=del H1 t:=AJ;have sd:aG H (del H1 t):=FG ht0 s1;change tR _ _ _ _ (upd H1 t (.lst [.ref p]));refine J7 (WG g t v fx sm os H) (nds d) ⟨[(d,0)],[.ref p],none,none,rfl,upd_same,by rw[e1];exact sd,?_,?_,by simp[ndss],n1000⟩ ?_
  ·rw[e1];exact⟨.ref p,[],rfl,⟨p,_,rfl,eL L (aE L ht),v,_,rfl,aY.same sd rep,.int 0,[],rfl,rfl,rfl⟩,rfl⟩
  ·intro r hr;rw[cs.mp hr];exact⟨tm,l100,by simpa using d100⟩
  ·rintro n σ H2 ⟨ps,vs,o3,o4,rfl,h2,sH,c,ok,rfl,S⟩ R hT hF;rcases List.eq_nil_or_concat ps with rfl|⟨W,r,rfl⟩
   ·have:vs=[]:=c;subst this;exact⟨_,rfl,false,.inl ⟨[],eV.of h2,rfl⟩,hF H2 (q _ (G0 sH))⟩
   ·rw[List.concat_eq_append]at c ok S hT;rw[ba,bf,List.map_nil]at c S hT;obtain⟨us,u,rfl,reps',ru⟩:=jL c;obtain⟨a,_,rfl,ha,x,_,rfl,rx,_,_,rfl,e2,e3⟩:=ru;cases e2;cases (show _=[]from e3);obtain⟨tmr,lr,dr⟩:=ok r (by simp);have hat:H2 a=some (.tup [x,.int r.2])/\a≠t:=dH ha;refine⟨_,rfl,true,.inl ⟨_,eV.of h2,by simp⟩,hT H2 ⟨_,rfl,tyL h2,t,_,.ref a,rfl,rfl,h2,by simp,a,[x,.int r.2],rfl,iG.of (by rw[aC hat.2];exact hat.1),rfl,x,_,rfl,_,_,rfl,rfl,_,rfl,_,_,rfl,rfl,_,rfl,ite_on (λz=>absurd (bu z) (by lia)) λ_=>?_⟩⟩;clear hT hF;rw[List.dropLast_concat];have c:=reps';have e3:del (upd H2 t (.lst us)) t=del H2 t:=AJ;have h3:upd H2 t (.lst us) t=some (.lst us):=upd_same;rw[←e3]at sH c rx;generalize upd H2 t (.lst us)=H3 at e3 h3 sH c rx⊢;have nl:us.length<=1000:=by
     have:=Reps.len c;rw[ae]at this;have h1:=kI (W.map (·.1));rw[ae]at h1;rw[gI]at S
     lia
    refine⟨_,rfl,_,rfl,g,fx,sm,os,r.1,x,rfl,sg.same (G0 sH),so,ho,aY.same (pC _ _) rx,tmr,lr,λY s4=>⟨true,rfl,?_⟩⟩;have h4:=s4 _ _ h3;have sd4:=kJ (t:=t) s4;have sH4:=sH.trans sd4;have U:=Reps.same sd4 c;have O:=aY.same sd4 rx;have rest:∀Z∈W,aZ fx sm os Z.1/\lvs Z.1<=100/\Z.2+depD Z.1<=100:=λZ hr'=>ok Z (ci _ hr');rw[gI]at S⊢;rcases DT tmr with⟨y,ey,hy⟩|⟨n,ds,hd,hh,tms⟩
    ·rw[ey]at O;cases (show x = .str y from O);refine⟨_,rfl,.str y,.ty "str",true,rfl,rfl,true,rfl,?_⟩;exact⟨_,by rw[ndss,ndss];have:=sU r.1;lia,W,us,_,_,rfl,h4,sH4,U,rest,rfl,by lia⟩
    ·obtain⟨va,I,rfl,hbb,hseq,res⟩:∃va I,x = .ref va/\isV Y (.ref va) (.ty "str")=some false/\eW Y va (.str n::I)/\Reps (del Y t) ds I:=by
      rcases hd with e|e
      ·rw[e]at O;obtain⟨a,vs,rfl,ha,_,I,rfl,e1,r⟩:=O;cases e1;exact⟨a,I,rfl,lZ (dH ha).1,.inr (dH ha).1,r⟩
      ·rw[e]at O;obtain⟨a,vs,rfl,ha,_,I,rfl,e1,r⟩:=O;cases e1;exact⟨a,I,rfl,qM (dH ha).1,.inl (dH ha).1,r⟩
     have hnd:nds r.1=1+ndss ds:=by rcases hd with e|e <;> rw[e,nds]
     have hdp:depD r.1=depDs ds+1:=by
      rcases hd with e|e
      ·rw[e,depD,depDs,show depD (.str n)=0 from rfl];lia
      ·rw[e,depD,depDs,show depD (.str n)=0 from rfl];lia
     have hlv:lvs r.1=lvss ds:=by rcases hd with e|e <;> rw[e,lvs]
     refine⟨_,rfl,.ref va,.ty "str",false,rfl,hbb,false,rfl,?_⟩;refine⟨_,rfl,tyL h4,_,rfl,0,rfl,1,rfl,-1,rfl,rfl,rfl,rfl,va,_,rfl,hseq,by simp,λb o hb ho=>?_⟩;rw[xB]at ho;refine⟨b,I.reverse,rfl,by rcases ho with⟨rfl,_⟩|⟨rfl,_⟩;exact .inl upd_same;exact .inr upd_same,λJ hJ=>?_⟩;have s5:aG Y (upd Y b o):=aG.upd hb;have hb5:upd Y b o b=some o:=upd_same;have nbt:b≠t:=(aE h4 hb).symm;generalize upd Y b o=H5 at s5 hb5 hJ⊢;refine cR hJ (WH t ds r.2 H5) ⟨none,rfl,aG.refl _,rfl⟩ ?_ ?_ ?_
     ·rintro i G σ H' _ ⟨_,_,X,_⟩;rw[hb5,X _ _ hb5]
     ·rintro i y G σ H6 hy ⟨o0,rfl,X,B⟩;obtain⟨e,he,re⟩:=Reps.get (Reps.rev res) hy;have la:=Reps.len B;have h1:=kI ds;refine⟨_,rfl,_,rfl,.inl ⟨_,rfl,(by decide:2<=sizeLine),λp1 L=>⟨aj (m:=1000) ?_ (by decide),_,rfl,X.trans (aG.upd L),?_⟩⟩⟩
      ·rw[ae,bv,List.length_reverse]at la;rw[ndss,ndss]at S
       lia
      ·have np:p1≠t:=(aE (X _ _ (s5 _ _ h4)) L).symm;have sm5:aG (del Y t) (del (upd H6 p1 (.tup [y,.int (r.2+1)])) t):=kJ ((s5.trans X).trans (aG.upd L));rw[take_snoc he,ba];have rp:aY (del (upd H6 p1 (.tup [y,.int (r.2+1)])) t) (tp (e,r.2+1)) (.ref p1):=⟨p1,_,rfl,eL upd_same np,y,_,rfl,aY.same sm5 re,_,[],rfl,rfl,rfl⟩
       exact Reps.snoc rp (Reps.same (G1 L) B)
     ·rintro G σ H6 ⟨o0,rfl,X,B⟩ l hl;have la:=Reps.len B;have lr':=Reps.len res;have h1:=kI ds;have h6:upd H6 l (.lst G) t=some (.lst us):=by rw[aC (aE (X _ _ (s5 _ _ h4)) hl)];exact X _ _ (s5 _ _ h4)
      rw[List.length_reverse,lr',←List.length_reverse (as:=ds),bw]at B;rw[ae,bv,List.length_reverse]at la;rw[ndss,ndss]at S;have s7:aG Y (upd H6 l (.lst G)):=(s5.trans X).trans (aG.upd hl);have e7:del (upd (upd H6 l (.lst G)) t (.lst (us++G))) t=del (upd H6 l (.lst G)) t:=AJ;refine⟨t,l,us,G,rfl,rfl,h6,.inl upd_same,aq (m:=2000) (by lia) (by decide),ndss (W.map (·.1))+ndss ds,by rw[ndss,ndss];lia,W++ds.reverse.map (λd=>(d,r.2+1)),us++G,_,_,rfl,upd_same,?_,?_,?_,?_,by lia⟩
      ·rw[e7];exact sH4.trans (kJ s7)
      ·rw[e7,ba,cm];exact Reps.append (Reps.same (kJ s7) U) (Reps.same (G1 hl) B)
      ·intro Z hr';rcases cw.mp hr' with h|h
       ·exact rest Z h
       ·obtain⟨e,he,rfl⟩:=cx.mp h;have he:=List.mem_reverse.mp he;obtain⟨i,hi⟩:=List.getElem?_of_mem he;have h2:=zS hi;have h3:=iF hi;exact⟨tms.get hi,by show lvs e<=100;lia,by show r.2+1+depD e<=100;lia⟩
      ·rw[ba,cm,gI];congr 1;rw[show((λx:D×Nat=>x.1) ∘ λd=>(d,r.2+1))=id from rfl,List.map_id,uN]
mutual
def Wk:D->Prop
 | .str _=>True
 | .tup (.str _::ds)=>Wks ds
 | .lst (.str _::ds)=>Wks ds
 | _=>False
def Wks:List D->Prop
 | []=>True
 | d::ds=>Wk d/\Wks ds
end
mutual
noncomputable def wlk:D->List D
 | .tup (.str n::ds)=>.tup (.str n::ds)::wlks ds
 | .lst (.str n::ds)=>.lst (.str n::ds)::wlks ds
 | d=>[d]
noncomputable def wlks:List D->List D
 | []=>[]
 | d::ds=>wlk d++wlks ds
end
theorem wP:∀ds:List D,wlks ds=ds.flatMap wlk
 | []=>rfl
 | d::ds=>by rw[wlks,wP ds];rfl
theorem RK (h:Wk d):(∃x,d = .str x)∨∃n ds,(d = .tup (.str n::ds)∨d = .lst (.str n::ds))/\Wks ds:=by
 unfold Wk at h;split at h
 ·exact .inl ⟨_,rfl⟩
 ·exact .inr ⟨_,_,.inl rfl,h⟩
 ·exact .inr ⟨_,_,.inr rfl,h⟩
 ·exact absurd h id
mutual
theorem RA:∀{d:D},Fl d->Wk d
 | .str x,h=>trivial
 | .tup (.str n::ds),h=>by unfold Wk;unfold Fl at h;exact GX h
 | .non,h | .bl _,h | .int _,h | .lst _,h | .tup [],h | .tup (.non::_),h | .tup (.bl _::_),h | .tup (.int _::_),h | .tup (.tup _::_),h | .tup (.lst _::_),h=>by unfold Fl at h;exact absurd h id
theorem GX:∀{ds:List D},Fls ds->Wks ds
 | [],_=>trivial
 | _::_,⟨a,b⟩=>⟨RA a,GX b⟩
end
theorem Wks.app:∀{ds c:List D},Wks ds->Wks c->Wks (ds++c)
 | [],_,_,h=>h
 | _::_,_,⟨a,b⟩,h=>⟨a,Wks.app b h⟩
theorem Wks.rev:∀{ds:List D},Wks ds->Wks ds.reverse
 | [],h=>h
 | d::ds,⟨a,b⟩=>by rw[List.reverse_cons];exact Wks.app (Wks.rev b) ⟨a,trivial⟩
theorem Wks.unsnoc:∀{ds:List D} {d:D},Wks (ds++[d])->Wks ds/\Wk d
 | [],_,h=>⟨trivial,h.1⟩
 | _::_,_,⟨a,b⟩=>⟨⟨a,(Wks.unsnoc b).1⟩,(Wks.unsnoc b).2⟩
mutual
theorem sM:∀d:D,(wlk d).length<=nds d
 | .tup (.str n::ds)=>by rw[wlk,nds,au];have:=tL ds;lia
 | .lst (.str n::ds)=>by rw[wlk,nds,au];have:=tL ds;lia
 | .non | .bl _ | .int _ | .str _ | .tup [] | .lst [] | .tup (.non::_) | .tup (.bl _::_) | .tup (.int _::_) | .tup (.tup _::_) | .tup (.lst _::_) | .lst (.non::_) | .lst (.bl _::_) | .lst (.int _::_) | .lst (.tup _::_) | .lst (.lst _::_)=>by unfold wlk;rw[ck];exact sU _
theorem tL:∀ds:List D,(wlks ds).length<=ndss ds
 | []=>ac _
 | d::ds=>by rw[wlks,ndss,av];have:=sM d;have:=tL ds;lia
end
def tU:Sp:=λvs H Q _=>∃(d:D) (v:V) (G:Hp),vs=[v]/\aG G H/\aY G d v/\Wk d/\nds d<=70000/\∀(l:Addr) (ws:List V) (H':Hp),aG H H'->H l=none->H' l=some (.lst ws)->Reps G (wlk d) ws->Q (.ref l) H'
def VV (v:V)(e t:Addr)(d:D)(H G:Hp)(n:Nat)(σ:St)(c:Hp):Prop:=∃(fs ts:List D) (ws us:List V) (o:Option V),σ=[some v,some (.ref e),some (.ref t),o]/\c e=some (.lst ws)/\c t=some (.lst us)/\aG H c/\Reps G fs ws/\Reps G ts us/\Wks ts /\
 fs++ts.reverse.flatMap wlk=wlk d/\ndss ts=n/\n<=70000
theorem ID (F:fP K "walked" "walked" oI f fd)(T:Txt mg):cA P w K mg base bJ 1 f fd C8 tU:=by
 refine F.ok mJ (λvs H Q E h=>?_) (λcdv A outer s H vs Q E hr h=>?_)
 ·obtain⟨d,v,G,rfl,_⟩:=h;rfl
 ·obtain⟨d,v,G,rfl,sG,rep,wk,N,q⟩:=h;have hu:=hr.units
  refine⟨_,(aD (aW (i:=1) mJ.nd rfl (Or.inl rfl) (cF aB))
   (aD (aW (i:=2) mJ.nd rfl (Or.inl rfl) (cF (aA (pv 0) aB)))
   (aD (oO dh (aV K rfl (pv 2) (λ_=>rfl)) (aD (aW (i:=3) mJ.nd rfl (Or.inl rfl) (EA de PySem.F.slot_list_pop PySem.F.type_list_pop EI (pv 2)))
   (aD (cU (kH de dg df fU (pv 1) (aA (pv 3) aB)))
   (aF (bH (dA (aV K rfl (aK aM rfl T.n_isinstance rfl (aA (pv 3) (aA (bZ (v:=V.ty "str") rfl T.n_str rfl rfl) aB))) (λ_=>rfl))) (aF (cU (kH de PySem.F.slot_list_extend PySem.F.type_list_extend zR (pv 2) (aA (xE F4 (pv 3) fK (eG aJ) (eG (Q6 KA aJ))) aB)))) aS)))))
   (aF (aO (pv 1)))))),?_⟩
  try dsimp only[cxOf,Cx.nox]
  clear hr F T hu;refine⟨show 0<=sizeLine by decide,λl I=>⟨_,rfl,show 1<=sizeLine by decide,λt ht=>?_⟩⟩;change tSeq _ _ _ _ (upd (upd H l (.lst [])) t (.lst [v]));have C:l≠t:=aE upd_same ht;have W:H t=none:=(aG.upd I).free ht;refine J7 (VV v l t d H G) (nds d) ⟨[],[d],[],[v],none,rfl,by rw[aC C];exact upd_same,upd_same,(aG.upd I).trans (aG.upd ht),rfl,⟨v,[],rfl,rep,rfl⟩,⟨wk,trivial⟩,by simp,by simp[ndss],N⟩ ?_;rintro n σ O ⟨fs,ts,z,us,o,rfl,h1,h2,sH,rf,rt,S,e,rfl,U⟩ R hT hF;rcases List.eq_nil_or_concat ts with rfl|⟨j,r,rfl⟩
  ·cases (show us=[]from rt);refine⟨_,rfl,false,.inl ⟨[],eV.of h2,rfl⟩,hF O ⟨_,rfl,?_⟩⟩;have e:fs=wlk d:=by simpa using e
   rw[e]at rf;exact q l z O sH I h1 rf
  ·rw[List.concat_eq_append]at rt S e U hT;obtain⟨c,u,rfl,rt',ru⟩:=jL rt;obtain⟨wt',wr⟩:=S.unsnoc;refine⟨_,rfl,true,.inl ⟨_,eV.of h2,by simp⟩,hT O ⟨_,rfl,tyL h2,t,_,u,rfl,rfl,h2,by simp,?_⟩⟩;clear rt S hT hF;have rt:=rt';have S:=wt';rw[List.dropLast_concat];rw[List.reverse_append,List.reverse_cons,List.reverse_nil,List.nil_append,List.singleton_append,List.flatMap_cons]at e;have h3:upd O t (.lst c) t=some (.lst c):=upd_same;have f3:upd O t (.lst c) l=some (.lst z):=by rw[aC C];exact h1
   have s3:aG H (upd O t (.lst c)):=λb o hb=>by rw[aC (aE hb W)];exact sH _ _ hb
   generalize upd O t (.lst c)=H3 at h3 f3 s3⊢;have Y:upd H3 l (.lst (z++[u])) t=some (.lst c):=by rw[aC C.symm];exact h3
   have f4:upd H3 l (.lst (z++[u])) l=some (.lst (z++[u])):=upd_same;have Z:aG H (upd H3 l (.lst (z++[u]))):=λb o hb=>by rw[aC (aE hb I)];exact s3 _ _ hb
   have lf:=Reps.len rf;have lw:=congrArg List.length e;rw[av]at lw;have lt':=Reps.len rt;have hn:=kI j;have hnr:nds r+ndss j<=70000:=by rw[gI,ndss,ndss]at U;lia
   have J:Reps G (fs++[r]) (z++[u]):=Reps.snoc ru rf;refine⟨_,rfl,tyL f3,_,rfl,l,z,u,rfl,rfl,f3,aj (m:=70000) (by have:=sM d;lia) (by decide),?_⟩;generalize upd H3 l (.lst (z++[u]))=H4 at Y f4 Z⊢;have B:=sG.trans Z;rw[gI];rcases RK wr with⟨x,rfl⟩|⟨nm,ds,hd,wds⟩
   ·cases (show u = .str x from ru);refine⟨_,rfl,.str x,.ty "str",true,rfl,rfl,true,rfl,?_⟩;refine⟨ndss j,by rw[ndss,ndss];have:=sU (.str x);lia,fs++[.str x],j,_,c,_,rfl,f4,Y,Z,J,rt,S,?_,rfl,by lia⟩;rw[←e];show _=fs++([.str x]++_);rw[cp]
   ·obtain⟨L,g,rfl,hbb,p⟩:∃L g,u = .ref L/\isV H4 (.ref L) (.ty "str")=some false/\eW H4 L (.str nm::g)/\Reps G ds g:=by
     rcases hd with rfl|rfl
     ·obtain⟨a,vs,rfl,X,_,g,rfl,e1,r⟩:=ru;cases e1;exact⟨a,g,rfl,lZ (B _ _ X),.inr (B _ _ X),r⟩
     ·obtain⟨a,vs,rfl,X,_,g,rfl,e1,r⟩:=ru;cases e1;exact⟨a,g,rfl,qM (B _ _ X),.inl (B _ _ X),r⟩
    obtain⟨p,res⟩:=p;have hnd:nds r=1+ndss ds:=by rcases hd with rfl|rfl <;> rw[nds]
    have hwl:wlk r=r::wlks ds:=by rcases hd with rfl|rfl <;> rw[wlk]
    have h1:=kI ds;have lr:=Reps.len res;refine⟨_,rfl,.ref L,.ty "str",false,rfl,hbb,false,rfl,?_⟩;refine⟨_,rfl,tyL Y,_,rfl,0,rfl,1,rfl,-1,rfl,rfl,rfl,rfl,L,_,rfl,p,by simp,λb o hb ho=>?_⟩;rw[xB]at ho;have h5:upd H4 b o t=some (.lst c):=by rw[aC (aE Y hb)];exact Y
    have f5:upd H4 b o l=some (.lst (z++[.ref L])):=by rw[aC (aE f4 hb)];exact f4
    have s5:aG H (upd H4 b o):=Z.trans (aG.upd hb);refine⟨t,b,c,g.reverse,rfl,rfl,h5,by rcases ho with⟨rfl,_⟩|⟨rfl,_⟩;exact .inl upd_same;exact .inr upd_same,aq (m:=140000) (by rw[List.length_reverse];lia) (by decide),ndss j+ndss ds,by rw[ndss,ndss];lia,fs++[r],j++ds.reverse,_,_,_,rfl,by rw[aC C];exact f5,upd_same,?_,J,Reps.append rt (Reps.rev res),S.app wds.rev,?_,by rw[gI,uN],by lia⟩
    ·exact λb o hb=>by rw[aC (aE hb W)];exact s5 _ _ hb
    ·rw[←e,hwl,List.reverse_append,List.reverse_reverse,List.flatMap_append,←wP];simp
noncomputable def mrk:D->M
 | .str x=>(sortS x,x,0)
 | .tup (.str n::ds)=>(2,n,ds.length+1)
 | _=>(0,"",0)
mutual
theorem GQ:∀{d:D},Fl d->key d=(wlk d).map mrk
 | .str x,_=>by unfold key wlk;rfl
 | .tup (.str n::ds),h=>by unfold Fl at h;rw[key,wlk,CF h];rfl
 | .non,h | .bl _,h | .int _,h | .lst _,h | .tup [],h | .tup (.non::_),h | .tup (.bl _::_),h | .tup (.int _::_),h | .tup (.tup _::_),h | .tup (.lst _::_),h=>by unfold Fl at h;exact absurd h id
theorem CF:∀{ds:List D},Fls ds->keys ds=(wlks ds).map mrk
 | [],_=>rfl
 | d::ds,⟨a,b⟩=>by rw[keys,wlks,GQ a,CF b,ba]
end
mutual
theorem MV:∀{d:D},Fl d->∀e∈wlk d,Fl e
 | .str x,h=>by unfold wlk;intro e c;rw[cs.mp c];exact h
 | .tup (.str n::ds),h=>by
  rw[wlk];intro e c;obtain rfl|c:=cu.mp c
  ·exact h
  ·exact GW (by unfold Fl at h;exact h) e c
 | .non,h | .bl _,h | .int _,h | .lst _,h | .tup [],h | .tup (.non::_),h | .tup (.bl _::_),h | .tup (.int _::_),h | .tup (.tup _::_),h | .tup (.lst _::_),h=>by unfold Fl at h;exact absurd h id
theorem GW:∀{ds:List D},Fls ds->∀e∈wlks ds,Fl e
 | [],_=>λe c=>by cases c
 | d::ds,⟨a,b⟩=>λe c=>by
  rw[wlks]at c;obtain c|c:=cw.mp c
  ·exact MV a e c
  ·exact GW b e c
end
noncomputable def mV (m:M):List V:=[.int m.1,.str m.2.1,.int m.2.2]
noncomputable def mD (m:M):D:=.tup [.int m.1,.str m.2.1,.int m.2.2]
def KM:Sp:=λvs H Q _=>∃(d:D) (v:V),vs=[v]/\aY H d v/\Fl d/\∀p,H p=none->Q (.ref p) (upd H p (.tup (mV (mrk d))))
theorem O9 (F:fP K "order_mark" "order_mark" iO f fd)(T:Txt mg):cA P w K mg base bJ 1 f fd pG KM:=by
 refine F.ok wG (λvs H Q E h=>?_) (λJ A outer s H vs Q E j h=>?_)
 ·obtain⟨d,v,rfl,_⟩:=h;rfl
 ·obtain⟨d,v,rfl,rep,fl,q⟩:=h;have i:=j.units
  refine⟨_,(aD (bH (aV K rfl (aK aM rfl T.n_isinstance rfl (aA (pv 0) (aA (bZ (v:=V.ty "str") rfl T.n_str rfl rfl) aB))) (λ_=>rfl)) (aF (aO (fA (aA (uH (aU (dL i) (bM cY (pv 0) aJ (λ_ _=>rfl)) gW (nomark _)) aJ aJ) (aA (pv 0) (aA aJ aB)))))) aS)
   (aF (aO (fA (aA aJ (aA (bM cY (pv 0) aJ (λ_ _=>rfl)) (aA (aK bG rfl T.n_len rfl (aA (pv 0) aB)) aB))))))),?_⟩
  try dsimp only[cxOf,Cx.nox]
  simp only[pM];clear j F T i;have keep:=aI q (aI rep fl);clear q rep fl
  walk_at "rd"
  obtain⟨q,rep,fl⟩:=keep;rcases iL fl with⟨x,rfl,o,l⟩|⟨nm,ds,rfl,B⟩
  ·cases (show v = .str x from rep);refine⟨true,rfl,?_⟩;rw[ai rfl];have hz:x.length<=sizeLine:=aq (m:=20) (by rw[br]at l;exact l) (by decide);cases hc:x.cps.toList with
   | nil=>rw[hc]at o;simp at o
   | cons c r =>
    refine⟨.str ⟨#[c]⟩,by rw[zZ hz,hc,atI_zero];rfl,?_⟩;rw[rEqD_ss];refine⟨_,rfl,?_⟩;have C:decide ((⟨#[c]⟩:Str)=Str.ofString "?")=decide (c=63):=by
     have G:Str.ofString "?" = ⟨#[63]⟩:=by decide +kernel
     rw[G,cf];simp
    have t:sortS x=if c=63 then 0 else 1:=by unfold sortS;rw[hc];simp
    rw[C];by_cases h:c=63
    ·rw[ai (bi h)];refine⟨by decide,λp e=>?_⟩;have:Q (.ref p) (upd H p (.tup [.int (sortS x),.str x,.int 0])):=q p e;rw[t,ai h]at this;exact this
    ·rw[ab (by simpa using h)];refine⟨by decide,λp e=>?_⟩;have:Q (.ref p) (upd H p (.tup [.int (sortS x),.str x,.int 0])):=q p e;rw[t,ab h]at this;exact this
  ·obtain⟨a,vs,rfl,g,_,u,rfl,I,r⟩:=rep;cases I;have z:=Reps.len r;refine⟨false,lZ g,?_⟩;rw[ab (by decide)];refine⟨.str nm,by rw[ixV_t g,atI_zero],.int (ds.length+1),by rw[lenV_t g,au,z];rfl,by decide,λp e=>?_⟩;exact q p e
def spKey:Sp:=λvs H Q _=>∃(d:D) (v:V),vs=[v]/\aY H d v/\Fl d/\nds d<=70000/\∀(l:Addr) (H':Hp),aG H H'->H l=none->aY (nw H H') (.lst ((key d).map mD)) (.ref l)->Q (.ref l) H'
def V4 (ds:List D)(H f:Hp)(i:Nat)(c:List V)(σ:St)(d:Hp):Prop:=∃e:Option V,σ=[e]/\aG f d/\Reps (nw H d) (((ds.take i).map mrk).map mD) c
theorem BJ (h:H p=some (.tup (mV m))):aY H (mD m) (.ref p):=⟨p,_,rfl,h,.int _,_,rfl,rfl,.str _,_,rfl,rfl,.int _,[],rfl,rfl,rfl⟩
theorem GD (s:aG H1 H2):aG (nw H H1) (nw H H2):=λa o e=>by obtain⟨d,c⟩:=fB.mp e;exact fB.mpr ⟨d,s _ _ c⟩
theorem SU (F:fP K "order_key" "order_key" iA f fd)(T:Txt mg)(c:dG P w K mg base bJ 1 "order_mark" KM)(g:dG P w K mg base bJ 1 "walked" tU):cA P w K mg base bJ 2 f fd rO spKey:=by
 refine F.ok y8 (λvs H Q E h=>?_) (λcdv A outer s H vs Q E C h=>?_)
 ·obtain⟨d,v,rfl,_⟩:=h;rfl
 ·obtain⟨d,v,rfl,rep,fl,j,q⟩:=h;have X:=C.units
  refine⟨_,(aD (bH (aV K rfl (aK aM rfl T.n_isinstance rfl (aA (pv 0) (aA (bZ (v:=V.ty "str") rfl T.n_str rfl rfl) aB))) (λ_=>rfl)) (aF (aO (cF (aA (aL c (C.mono (by decide)) pass0 rfl (aA (pv 0) aB)) aB)))) aS)
   (aF (aO (hV rfl (bF.by (N:=mE) (names:=(aH iA).names) (N':=["at"]) (src:=[none]) (by decide +kernel) rfl rfl) (cV K rfl (aL g (C.mono (by decide)) pass0 rfl (aA (pv 0) aB))) (λ_ _ _ _=>(bP (i:=0) (show List.Nodup (["at"]:aT)by decide +kernel) rfl (Or.inl rfl))) (λ_ _ _ _=>eF) (λ_ _ _ _=>(aL c (C.mono (by decide)) pass0 rfl (aA (pv 0) aB))))))),?_⟩
  try dsimp only[cxOf,Cx.nox]
  simp only[mE];clear C F T X c g;have keep:=aI q (aI rep (aI fl j));clear q rep fl j
  walk_at "rd"
  obtain⟨q,rep,fl,j⟩:=keep;rcases iL fl with⟨x,rfl,G,h2⟩|⟨nm,ds,rfl,fls⟩
  ·cases (show v = .str x from rep);refine⟨true,rfl,?_⟩;rw[ai rfl];refine⟨_,_,rfl,rep,fl,λp t=>⟨by decide,λl r=>q l _ ((aG.upd t).trans (aG.upd r)) ((aG.upd t).free r) ?_⟩⟩;have Z:key (.str x)=[mrk (.str x)]:=by unfold key;rfl
   rw[Z];exact⟨l,[.ref p],rfl,fB.mpr ⟨(aG.upd t).free r,upd_same⟩,.ref p,[],rfl,BJ (fB.mpr ⟨t,by rw[aC (aE upd_same r)];exact upd_same⟩),rfl⟩
  ·obtain⟨b,hb⟩:∃b,isV H v (.ty "str")=some b/\b=false:=by obtain⟨a,vs,rfl,ha,_⟩:=rep;exact⟨false,lZ ha,rfl⟩
   refine⟨b,hb.1,?_⟩;rw[ab (by rw[hb.2];decide)];refine⟨_,v,H,rfl,aG.refl _,rep,RA fl,j,λU L H1 z Y G B=>⟨U,rfl,L,.inl G,λJ hJ=>?_⟩⟩;have S:=Reps.len B;have lk:=sM (.tup (.str nm::ds));refine cR hJ (V4 (wlk (.tup (.str nm::ds))) H H1) ⟨none,rfl,aG.refl _,rfl⟩ (λi u σ H' _ ⟨_,_,s2,_⟩=>by rw[G,s2 _ _ G]) ?_ ?_
   ·rintro i x u σ H2 W ⟨R,rfl,s2,o⟩;obtain⟨e,I,O⟩:=Reps.get B W;have la:=Reps.len o;refine⟨_,rfl,e,x,rfl,aY.same (z.trans s2) O,MV fl e (bj I),λp t=>⟨aj (m:=70000) ?_ (by decide),_,rfl,s2.trans (aG.upd t),?_⟩⟩
    ·rw[ae,ae,bv]at la
     lia
    ·rw[take_snoc I,ba,ba];exact Reps.snoc (BJ (fB.mpr ⟨(z.trans s2).free t,upd_same⟩)) (Reps.same (GD (aG.upd t)) o)
   ·rintro u σ H2 ⟨R,rfl,s2,o⟩ l r;rw[S,bw]at o;refine q l _ ((z.trans s2).trans (aG.upd r)) ((z.trans s2).free r) ?_;rw[GQ fl];exact⟨l,u,rfl,fB.mpr ⟨(z.trans s2).free r,upd_same⟩,Reps.same (GD (aG.upd r)) o⟩
noncomputable def opP (n:Str)(d:D):List D:=match d with
 | .tup (.str m::c)=>if m=n then c else [d]
 | d=>[d]
def wX:Sp:=λvs H Q _=>∃(n:Str) (d:D) (v:V),vs=[.str n,v]/\aY H d v/\Fl d/\∀(l:Addr) (ws:List V) (H':Hp),aG H H'->H l=none->H' l=some (.lst ws)->Reps H (opP n d) ws->Q (.ref l) H'
theorem ED (F:fP K "opened" "opened" oJ f fd)(T:Txt mg):cA P w K mg base bJ 1 f fd C9 wX:=by
 refine F.ok HQ (λvs H Q E h=>?_) (λC A outer s H vs Q E t h=>?_)
 ·obtain⟨n,d,v,rfl,_⟩:=h;rfl
 ·obtain⟨n,d,v,rfl,rep,fl,q⟩:=h;have m:=t.units
  refine⟨_,(aD (bH (PW.pt (uD (aV K rfl (aK aM rfl T.n_isinstance rfl (aA (pv 1) (aA (bZ (v:=V.ty "tuple") rfl T.n_tuple rfl rfl) aB))) (λ_=>rfl)) (oN (aU (dL m) (bM cY (pv 1) aJ (λ_ _=>rfl)) (pv 0) (nomark _))))) (aF (aO (cH vJ rfl T.n_list rfl (aA (fH kQ (pv 1) (eG aJ) fK) aB)))) aS)
   (aF (aO (cF (aA (pv 1) aB))))),?_⟩
  try dsimp only[cxOf,Cx.nox]
  simp only[vS];clear t F T m;have keep:=aI q (aI rep fl);clear q rep fl
  walk_at "rd"
  obtain⟨q,rep,fl⟩:=keep;have c:opP n d=[d]->1<=sizeLine/\∀(p:Addr),H p=none->Q (V.ref p) (upd H p (HO.lst [v])):=λe=>⟨by decide,λp i=>q p [v] _ (aG.upd i) i upd_same (by rw[e];exact⟨v,[],rfl,rep,rfl⟩)⟩
  rcases iL fl with⟨x,rfl,I,G⟩|⟨nm,ds,rfl,z⟩
  ·cases (show v = .str x from rep);exact⟨false,rfl,by rw[ab (by decide)];exact c rfl⟩
  ·obtain⟨a,vs,rfl,j,_,g,rfl,B,r⟩:=id rep;cases B;refine⟨true,AA j,?_⟩;rw[ai rfl];refine⟨.str nm,by rw[ixV_t j,atI_zero],?_⟩;rw[rEqD_ss];refine⟨_,rfl,?_⟩;by_cases e:nm=n
   ·rw[ai (bi e)];refine⟨a,rfl,_,.inr j,λ_ h=>?_,λp o i ho=>?_⟩
    ·have:=h.1;simp[HT.sIx]at this
    ·rw[tH]at ho;refine⟨g,by rcases ho with⟨rfl,_⟩|⟨rfl,_⟩;rw[seqV_l upd_same];rw[seqV_t upd_same],λl u=>q l g _ ((aG.upd i).trans (aG.upd u)) ((aG.upd i).free u) upd_same ?_⟩;show Reps H (if nm=n then ds else [.tup (.str nm::ds)]) g;rw[ai e];exact r
   ·rw[ab (by simpa using e)];exact c (by show(if nm=n then ds else [.tup (.str nm::ds)])=_;rw[ab e])
end
end Lw
namespace Lw
open PySem PySem.Spec PyProof.Rows PySem.SeqAt L2
theorem CT (m d:M):eqD (mD m) (mD d)=decide (m=d):=by obtain⟨a,x,c⟩:=m;obtain⟨j,h,i⟩:=d;rw[cf];simp[mD,eqD,eqDs];exact⟨λ⟨g,e,f⟩=>⟨by lia,e,by lia⟩,λ⟨g,e,f⟩=>⟨by lia,e,by lia⟩⟩
theorem HF (A:Around)(s:Shared)(x y:Str)(t u:Tok):QX A s (.str x t) (.str y u) (sL x y):=λprog w E Q h=>(lt_str h:wpAny (model prog w) A (compareOp .Lt (.str x t) (.str y u)) Q E s)
theorem xV (A:Around)(s:Shared)(x y:Int)(t u:Tok):QX A s (.int x t) (.int y u) (decide (x<y)):=λprog w E Q h=>HT.rcLt_int A s x t y u prog w E Q h
section
variable {P:Program}{w:World}{H:Hp}{s:Shared}
theorem vals3 (h:aR [a,b,c] us):∃u v x,us=[u,v,x]/\aQ a u/\aQ b v/\aQ c x:=by
 cases h with
 | cons r1 h =>
  obtain⟨v,x,rfl,e,d⟩:=aR.two h;exact⟨_,v,x,rfl,r1,e,d⟩
theorem B6 (ok:gQ P w H s.heap)(h:aY H (mD m) v)(r:aQ v u):∃p t1 c t3,u = .ref p/\s.heap.IsTuple p #[.int m.1 t1,.str m.2.1 c,.int m.2.2 t3]:=by obtain⟨p,vs,rfl,g,x,r1,rfl,o,t,C,rfl,l,q,e,rfl,j,i⟩:=h;cases o;cases l;cases j;cases (show e=[]from i);cases r;obtain⟨its,d,f⟩:=jP ok g;obtain⟨B,A,z,rfl,⟨t1,rfl⟩,⟨c,rfl⟩,⟨t3,rfl⟩⟩:=vals3 d;exact⟨p,t1,c,t3,rfl,f⟩
theorem PP (ok:gQ P w H s.heap)(A:Around)(hu:A.units+8<cLine)(h:aY H (mD m) v)(h':aY H (mD m') v')(r:aQ v u)(S:aQ v' u')(ne:m≠m'):QX A s u u' (ltM m m'):=by
 obtain⟨p,t1,L,t3,rfl,⟨⟨c,Y,dt,R⟩,ho,hc,n,hd⟩⟩:=B6 ok h r;obtain⟨T,l,j,i,rfl,⟨⟨c',K,X,I⟩,o,B,U,t⟩⟩:=B6 ok h' S;simp only at hc hd B t;subst hc hd B t;obtain⟨a,x,b⟩:=m;obtain⟨f,g,d⟩:=m';have q:wM A.in1 s [.int a t1,.str x L,.int b t3] [.int f l,.str g j,.int d i] (ltM (a,x,b) (f,g,d)):=by
  have hi:A.in1.units+0<cLine:=by rw[eD];lia
  have G:=eqAtD ok (.int a) (.int f) A.in1 (.int a) (.int f) (.int a t1) (.int f l) rfl rfl ⟨_,rfl⟩ ⟨_,rfl⟩ hi;have C:=eqAtD ok (.str x) (.str g) A.in1 (.str x) (.str g) (.str x L) (.str g j) rfl rfl ⟨_,rfl⟩ ⟨_,rfl⟩ hi;have O:=eqAtD ok (.int b) (.int d) A.in1 (.int b) (.int d) (.int b t3) (.int d i) rfl rfl ⟨_,rfl⟩ ⟨_,rfl⟩ hi;unfold ltM;dsimp only;by_cases N:a=f
  ·subst N;rw[ai rfl];refine .eq (by rw[gK]at G;exact G) ?_;by_cases J:x=g
   ·subst J;rw[ai rfl];refine .eq (by rw[gK]at C;exact C) ?_;have h3:b≠d:=λz=>ne (by rw[z]);have e:eqD (.int (b:Int)) (.int (d:Int))=false:=by show((b:Int) == (d:Int))=false;simp;lia
    rw[e]at O;have:decide (b<d)=decide ((b:Int)<(d:Int)):=by rw[cf];simp
    rw[this];exact .ne O (xV _ _ _ _ _ _)
   ·rw[ab J];have e:eqD (.str x) (.str g)=false:=by
     show(x == g)=false
     simpa using J
    rw[e]at C;exact .ne C (HF _ _ _ _ _ _)
  ·rw[ab N];have e:eqD (.int (a:Int)) (.int (f:Int))=false:=by show((a:Int) == (f:Int))=false;simp;lia
   rw[e]at G;have:decide (a<f)=decide ((a:Int)<(f:Int)):=by rw[cf];simp
   rw[this];exact .ne G (xV _ _ _ _ _ _)
 intro prog Z E Q W;exact richCompare_meets_room (op:=.Lt) ⟨_,ho,rfl⟩ ⟨_,o,rfl⟩ PySem.F.slot_tuple_lt PySem.F.entry_tuple_lt (PySem.F.args_tuple_lt_2 _ _) (wE p T _ _ n U Y K R I)
  ⟨ho,o,_,q,show Value.bool _≠Value.notImplemented/\Q _ s from⟨(λx=>nomatch x),W⟩⟩ (by lia)
theorem xR (ok:gQ P w H s.heap)(A:Around)(u:A.units+8<cLine):∀(ks f:List M) (vs c:List V) (us d:cS),Reps H (ks.map mD) vs->Reps H (f.map mD) c->aR vs us->aR c d->wM A s us d (lexK ks f)
 | [],[],vs,c,us,d,h,h',r,g=>by
  cases (show vs=[]from h);cases (show c=[]from h');cases r.zero;cases g.zero;exact .nn
 | [],o::f,vs,c,us,d,h,⟨z,C,t,_,_⟩,r,g=>by
  cases (show vs=[]from h);subst t;cases r.zero;cases g;exact .nc
 | m::ks,[],vs,c,us,d,⟨x,q,e,_,_⟩,h',r,g=>by
  cases (show c=[]from h');subst e;cases g.zero;cases r;exact .cn
 | m::ks,o::f,vs,c,us,d,⟨x,q,e,v,E⟩,⟨z,C,t,j,p⟩,r,g=>by
  subst e t;cases r with
  | cons r1 B =>
   cases g with
   | cons i l =>
    have e:=eqAtD ok (mD m) (mD o) A _ _ _ _ v j r1 i (by
     have:depD (mD m)=1:=rfl
     lia)
    rw[CT]at e;rw[lexK];by_cases ne:m=o
    ·rw[ai ne];rw[bi ne]at e;exact .eq e (xR ok A u ks f _ _ _ _ E p B l)
    ·rw[ab ne];rw[bo ne]at e;exact .ne e (PP ok A u v j r1 i ne)
theorem uU (ok:gQ P w H s.heap){ks:List M}{v:V}{u:Value}(h:aY H (.lst (ks.map mD)) v)(r:aQ v u):∃l vs us,u = .ref l/\Reps H (ks.map mD) vs/\aR vs us/\s.heap.IsList l us.toArray:=by obtain⟨l,vs,rfl,f,e⟩:=h;cases r;obtain⟨us,d,c⟩:=iD ok f;exact⟨l,vs,us,rfl,e,d,c⟩
theorem CH (ok:gQ P w H s.heap)(A:Around)(N:A.units+16<cLine)(h:aY H (.lst (ks.map mD)) v)(h':aY H (.lst (ks'.map mD)) v')(r:aQ v u)(z:aQ v' u') :
  s.TypeIs u "list"/\s.TypeIs u' "list"/\∀(prog:Program) (w:World) (E:cJ) (Q:cJ),Q (.bool (lexK ks ks')) s->wpAny (model prog w) A (call (.builtin "list.__lt__") [u,u']) Q E s:=by
 obtain⟨l,vs,us,rfl,G,x,J⟩:=uU ok h r;obtain⟨C,g,i,rfl,o,m,p⟩:=uU ok h' z;obtain⟨⟨c,L,O,t⟩,ho,hc,n,hd⟩:=id J;obtain⟨⟨R,q,K,j⟩,d,f,B,e⟩:=id p;simp only at hc hd f e;subst hc hd f e;refine⟨⟨_,ho,rfl⟩,⟨_,d,rfl⟩,λprog w E Q I=>?_⟩;exact call_meets PySem.F.slot_list_lt ⟨_,ho,rfl⟩ PySem.F.entry_list_lt (PySem.F.args_list_lt_2 _ _) (zT l C _ _ n B L q t j) ⟨ho,d,_,xR ok A.in1 (by rw[eD];lia) ks ks' vs g us i G o x m,I⟩
end
end Lw
namespace Lw
open PySem PySem.Spec PyProof.Rows PySem.SeqAt PySem.W L2
noncomputable def kyD (d:D):D:=.lst ((key d).map mD)
theorem QL (ok:gQ P w H s.heap)(A:Around)(g:A.units+32<cLine)(h:aY H (kyD d) v)(h':aY H (kyD e) v')(r:aQ v u)(c:aQ v' u'){E:cJ}{Q:Bool->Shared->Prop}
  (q:Q (lexK (key d) (key e)) s):wpAny (model prog w') A (keyLt' oneType' u u') Q E s:=by
 obtain⟨t1,f,t3⟩:=CH ok A (by lia) h h' r c;rw[keyLt'_oneType,oneLt'_eq,ai rfl];refine aa (wpAny_cRoomFor (by lia) (aa (wpAny_callSpecialIfBound?_slot t1 F.slot_list_lt (t3 prog w' _ _ ?_))));exact wpAny_truthy_bool q
theorem EQ {M:Model}{h:Heap}{l:Addr}{us:n5}(c:h.IsList l us):Looks M h (typeOf (.ref l)) (.type "list"):=λA Q E s k q=>by obtain⟨o,ho,hc,_⟩:=c;exact wpAny_typeOf ⟨o,k _ _ ho,hc⟩ q
theorem PR (h:lexK a b=true)(k:lexK b c=true):lexK a c=true:=by
 cases z:lexK a c with
 | true=>rfl
 | false=>rw[uR (qI h) z]at k;cases k
theorem MA (h:lexK a b=false)(k:lexK b a=false):a=b:=by
 by_cases e:a=b
 ·exact e
 ·rcases nQ e with z|z
  ·rw[h]at z;cases z
  ·rw[k]at z;cases z
theorem BQ:T5 lexK:=⟨oX,λ_ _ _=>PR,λ_ _ h k z=>by rw[MA h k]⟩
theorem SY (h:mD m=mD m'):m=m':=by have e:=CT m m';rw[h,gK]at e;exact bu e.symm
theorem K8 {α β:Type}{f:α->β}{l o:List β}(h:l.Perm o):∀m:List α,o=m.map f->∃d:List α,l=d.map f/\d.Perm m:=by
 induction h with
 | nil=>exact λm e=>⟨m,e,.refl _⟩
 | cons x _ w =>
  intro m e;cases m with
  | nil=>cases e
  | cons a m =>
   injection e with j c;obtain⟨d,r,p⟩:=w m c;exact⟨a::d,by rw[bf,r,j],p.cons a⟩
 | swap x y l =>
  intro m e;cases m with
  | nil=>cases e
  | cons a m =>
   cases m with
   | nil=>cases e
   | cons b m =>
    injection e with j c;injection c with c z;exact⟨b::a::m,by rw[bf,bf,j,c,z],.swap a b m⟩
 | trans _ _ i g =>
  intro m e;obtain⟨v,r1,t⟩:=g m e;obtain⟨u,q,s⟩:=i v r1;exact⟨u,q,s.trans t⟩
theorem P1 {ks is:cS}{i:Nat}(h:ks.length=is.length)(hi:i<is.length):kas_item (ks.toArray.zip is.toArray) i=(ks.getD i .none,is.getD i .none):=by
 unfold kas_item;have d:i<(ks.toArray.zip is.toArray).size:=by simp;lia
 rw[Array.getD_eq_getD_getElem?,Array.getElem?_eq_getElem d];have c:i<ks.length:=by lia
 simp[hi,c]
theorem u9 (h:Reps H ds vs)(hi:i<ds.length):aY H (ds.getD i .non) (vs.getD i .non):=by
 obtain⟨v,c,r⟩:=Reps.get' h (az hi);have e:ds.getD i .non=ds[i]:=by simp[hi]
 have d:vs.getD i .non=v:=by rw[List.getD_eq_getElem?_getD,c];rfl
 rw[e,d];exact r
theorem u8 (h:aR vs us)(hi:i<vs.length):aQ (vs.getD i .non) (us.getD i .none):=by
 obtain⟨u,c,r⟩:=h.get (az hi);have e:vs.getD i .non=vs[i]:=by simp[hi]
 have d:us.getD i .none=u:=by rw[List.getD_eq_getElem?_getD,c];rfl
 rw[e,d];exact r
theorem BI (h:Reps H ds vs):∀(l:List Nat),(∀i∈l,i<ds.length)->Reps H (l.map λi=>ds.getD i .non) (l.map λi=>vs.getD i .non)
 | [],_=>rfl
 | i::l,c=>⟨_,_,rfl,u9 h (c i ay),BI h l λj d=>c j (bc _ d)⟩
theorem A1 (h:aR vs us):∀(l:List Nat),(∀i∈l,i<vs.length)->aR (l.map λi=>vs.getD i .non) (l.map λi=>us.getD i .none)
 | [],_=>.nil
 | i::l,c=>.cons (u8 h (c i ay)) (A1 h l λj d=>c j (bc _ d))
theorem L8 (ds:List D):(List.range ds.length).map (λi=>ds.getD i .non)=ds:=by
 apply List.ext_getElem
 ·simp
 ·intro i d c;simp[c]
section
variable {X:Cx}{pins:cW}{σ:L2.St}{H Hj:Hp}{s:Shared}{a kS:Addr}{e1 e:Nat}{kvs xs:List V}{kus its:cS}{ds:List D}{A:Around}{E:cJ}
theorem KQ (hu:A.units+64<cLine)(I:aN X pins σ Hj s)(sH:aG H Hj)(fa:fC X pins Hj a)(P:fC X pins Hj kS)(ne:kS≠a)(ha:s.heap.get? a=some (seqObj "list" #[] e1))(hk:s.heap.get? kS=some (seqObj "list" kus.toArray e))
  (W:aR kvs kus) (U:Reps Hj (ds.map kyD) kvs) (rx:aR xs its) (rd:Reps H ds xs) (h2:2<=ds.length) (h400:ds.length<=400) {Pf:PySem.Fin->Shared->Prop}
  (h:∀u ys es,aN X pins σ (upd Hj a (.lst ys)) u->es.Perm ds->es.Pairwise leK->Reps H es ys->Pf (.done (.ret .none)) u) :
  wpAny (model X.prog X.w) A (ksk_end a false its.toArray e1 (.ref kS) kus.toArray) Pf E s:=by
 have l1:=Reps.len U;rw[ae]at l1;have l2:=W.length;have l3:=Reps.len rd;have l4:=rx.length;have lk:kus.length=its.length:=by lia
 have n2:¬its.toArray.size<2:=by rw[ag];lia
 unfold ksk_end;dsimp only;rw[ab n2,ab n2,ab Bool.false_ne_true];have look:∀v∈kus,Looks (model X.prog X.w) s.heap (typeOf v) (.type "list"):=λv hv=>by
  obtain⟨i,hi⟩:=List.getElem?_of_mem hv;have hi':=(cr.mp hi).1;have r1:=u9 U (i:=i) (by rw[ae];lia);have F:=u8 W (i:=i) (by lia);have ek:kus.getD i .none=v:=by rw[List.getD_eq_getElem?_getD,hi];rfl
  rw[ek]at F;have ed:(ds.map kyD).getD i .non=kyD (ds.getD i .non):=by
   have:i<ds.length:=by lia
   simp[this]
  rw[ed]at r1;obtain⟨l,_,us,rfl,_,_,hl⟩:=uU I.hok r1 F;exact EQ hl
 refine aa (kas_kind (vs:=kus) (by lia) look (by decide) (by decide) ?_);obtain⟨c,ha0⟩:∃c,c=kus.toArray.zip its.toArray:=⟨_,rfl⟩
 have e0:c.toList=(List.range ds.length).map (kas_item c):=by
  have e:=congrArg Array.toList (kas_range c);have z:c.size=ds.length:=by rw[ha0];simp;lia
  rw[Array.toList_map,z]at e;exact e.symm
 have t:∀i,i<ds.length->kas_item c i=(kus.getD i .none,its.getD i .none):=λi hi=>by rw[ha0];exact P1 lk (by lia)
 have B:∀i,i<ds.length->aY Hj (kyD (ds.getD i .non)) (kvs.getD i .non)/\aQ (kvs.getD i .non) (kus.getD i .none):=λi hi=>by have g:=u9 U (i:=i) (by rw[ae];lia);rw[show(ds.map kyD).getD i .non=kyD (ds.getD i .non)by simp[hi]]at g;exact⟨g,u8 W (by lia)⟩
 obtain⟨iv,hiv⟩:∃iv:Keyed->List M,∀i,i<ds.length->iv (kas_item c i)=key (ds.getD i .non):=by
  refine⟨λx=>Classical.epsilon λks=>∃v,aQ v x.1/\aY Hj (.lst (ks.map mD)) v,λi hi=>?_⟩;obtain⟨O,N⟩:=B i hi;rw[t i hi];obtain⟨v,r1,F⟩:=Classical.epsilon_spec (p:=λks:List M=>∃v,aQ v (kus.getD i .none)/\aY Hj (.lst (ks.map mD)) v) ⟨key (ds.getD i .non),_,N,O⟩;have ev:v=kvs.getD i .non:=by obtain⟨x,_,e1,_⟩:=F;obtain⟨y,_,e2,_⟩:=O;rw[e1]at r1⊢;rw[e2]at N⊢;injection r1.symm.trans N with R;rw[R]
  rw[ev]at F;have R:=aY.inj F O;unfold kyD at R;injection R with e4;exact(List.map_inj_right λ_ _=>SY).mp e4
 have mem:∀x,x∈c.toList->∃i,i<ds.length/\x=kas_item c i:=λx L=>by rw[e0]at L;obtain⟨i,hi,rfl⟩:=cx.mp L;exact⟨i,List.mem_range.mp hi,rfl⟩
 have K:∀i,i<ds.length->kas_item c i∈c.toList:=λi hi=>by rw[e0];exact List.mem_map_of_mem (List.mem_range.mpr hi)
 have ask:qY (model X.prog X.w) A E s (rank lexK iv c.toList) oneType' c:=by intro x y L hy st Q hk Z;obtain⟨i,hi,ex⟩:=mem x L;obtain⟨j,G,ey⟩:=mem y hy;rw[BK BQ L hy]at Z;subst ex ey;rw[hiv i hi,hiv j G]at Z;obtain⟨O,N⟩:=B i hi;obtain⟨g3,g4⟩:=B j G;rw[lt'_eq,t i hi,t j G];refine wpS_bind (wpS_get ?_);rw[hk];exact wpS_bind (wpS_lift (wpAny_attempt (QL I.hok A (by lia) O g3 N g4 ⟨rfl,wpS_pure Z⟩)))
 have st0:L2.SI (rank lexK iv c.toList) oneType' c [] c.toList (SortSt.mk' oneType' c #[] 7 none):=⟨rfl,rfl,λr hr=>(nomatch hr),rfl,rfl,Array.Perm.refl _⟩
 have run:=L2.v9 (Q:=λ_ f=>(arrOf f).toList.Perm c.toList/\failedOf f=none/\(arrOf f).toList.Pairwise (tJ (rank lexK iv c.toList))) ask st0 λf b1 b2 S=>⟨Array.perm_iff_toList_perm.mp b1,b2,S⟩
 rw[←ha0];refine aa (wpAny_mono run ?_ λ_ _ z=>z);rintro⟨⟨⟩,f⟩ u ⟨rfl,b1,hf,S⟩;obtain⟨p,ep,Y⟩:=K8 b1 _ e0;have d:∀i∈p,i<ds.length:=λi hi=>List.mem_range.mp (Y.mem_iff.mp hi);have ho:(arrOf f).map (·.2)=(p.map λi=>its.getD i .none).toArray:=by apply Array.toList_inj.mp;rw[Array.toList_map,ep,cm];refine List.map_congr_left λi hi=>?_;show(kas_item c i).2=_;rw[t i (d i hi)]
 have pl:p.length=ds.length:=by rw[Y.length_eq,List.length_range]
 unfold ksk_tail;dsimp only;rw[ho];refine aa (listUpdate_at hk rfl ?_ (aq (m:=400) (by rw[ag];lia) (by decide)) (ax _));refine aa (wpAny_letGo ?_);have J:=Heap.SameBut.update u.heap kS (Obj.mapSeq λ_=>(#[]:n5));have C:=(J.2 a ne.symm).trans ha;have I1:=I.turned (t':=u.toks) (λb o hb z=>(J.2 b hb).trans z) P.1 P.2.1 P.2.2.2.1 P.2.2.2.2.1 P.2.2.2.2.2;refine aa (seqEpoch_at C rfl ?_);refine aa (listUpdate_at C rfl ?_ (ax _) (aq (m:=400) (by simp only[Bool.false_eq_true,if_false];rw[ag,ae];lia) (by decide)));rw[hf];simp only[bne_self_eq_false,if_false,Bool.false_eq_true];have T:=Heap.SameBut.update (u.heap.update kS (Obj.mapSeq λ_=>(#[]:n5))) a (Obj.mapSeq λ_=>(p.map λi=>its.getD i .none).toArray);have I2:=I1.turned (t':=u.toks) (λb o hb z=>(T.2 b hb).trans z) fa.1 fa.2.1 fa.2.2.2.1 fa.2.2.2.2.1 fa.2.2.2.2.2;have ga:=get?_update_seq C λ_=>(p.map λi=>its.getD i .none).toArray;have I3:=I2.adopt (o:=.lst (p.map λi=>xs.getD i .non)) fa ⟨aq (m:=400) (by rw[ae];lia) (by decide),_,_,A1 rx p (λi hi=>by have:=d i hi;lia),ga⟩;refine ao (h _ _ (p.map λi=>ds.getD i .non) I3 ?_ ?_ (BI rd p d))
 ·have:=Y.map λi=>ds.getD i .non;rw[L8]at this;exact this
 ·rw[ep,List.pairwise_map]at S;refine List.pairwise_map.mpr (S.imp_of_mem λ{i j} hi G z=>?_);have q:=BK BQ (iv:=iv) (K j (d j G)) (K i (d i hi));rw[hiv j (d j G),hiv i (d i hi),bo (Nat.not_lt.mpr z)]at q;exact q.symm
theorem MG {k:Nat}{f:Addr}{C:FuncData}{ps:aT}(F:cA X.prog X.w X.K X.mg X.base bJ k f C ps spKey)(hb:eI X.K C ps [])(L:dY k A)(N:A.frames=some X.stack)(I:aN X pins σ Hj s)(fa:fC X pins Hj a)(p:fC X pins Hj kS){i ok:Obj}(B:s.heap.get? a=some i)(t:s.heap.get? kS=some ok){d:D}{v:V}{u:Value}(H:aY Hj d v)(fl:Fl d)(nd:nds d<=70000)(r:aQ v u)
  {Q:cJ} {E:cJ} (h:∀kv j H' c,aN X pins σ H' c->aG Hj H'->H' a=none->H' kS=none->c.heap.get? a=some i->c.heap.get? kS=some ok->aY H' (kyD d) kv->aQ kv j->Q j c) :
  wpAny (model X.prog X.w) A (call (.ref f) [u]) Q E s:=by
 have e:=I.env0;have sp:spKey [v] Hj (λkv H'=>aG Hj H'/\aY H' (kyD d) kv) E0:=⟨d,v,rfl,H,fl,nd,λl H' c q rep=>⟨c,aY.same (λb o z=>(fB.mp z).2) rep⟩⟩
 have q:[u].length=ps.length:=F.len _ _ _ _ sp;have nf:∀b,fC X pins Hj b->b∉frs X.stack:=λb G z=>(cu.mp (I.stkSub b z)).elim G.2.1 G.2.2.1;refine wpAny_call (codeAny_mono (F.run A X.stack s Hj ⟨[u],[]⟩ [u] [v] _ E0 L ⟨N,e.mod,e.bs,e.bsz,e.funs,e.frf,e.hok,e.bare⟩ (by have:=hb s [u] I.kIn (by simpa using q);simpa using this) (.cons r .nil) sp) λres c g=>?_);cases res with
 | error x=>exact g.elim
 | ok m =>
  cases m with
  | ret j =>
   obtain⟨kv,H',os,bare,un,hok,J,sm,rep⟩:=g;have I':=I.call' (ch:=[]) os un hok bare (λb z=>absurd z (by simp));exact h kv j H' c I' sm (un.free a i B fa.1 (by simp)) (un.free kS ok t p.1 (by simp)) (un.keep a i B fa.1 (nf a fa) (by simp)) (un.keep kS ok t p.1 (nf kS p) (by simp)) rep J
  | next=>exact g.elim
  | brk=>exact g.elim
  | cont=>exact g.elim
theorem HL {k:Nat}{f:Addr}{fd:FuncData}{ps:aT}(F:cA X.prog X.w X.K X.mg X.base bJ k f fd ps spKey)(hb:eI X.K fd ps [])(hr:dY k A)(he:A.frames=some X.stack)(I:aN X pins σ H s)(fa:fC X pins H a)(O:fC X pins H kS)(ne:kS≠a)
  (ha:s.heap.get? a=some (seqObj "list" #[] e1)) (hk:s.heap.get? kS=some (seqObj "list" #[] 0)) (P:aR xs its) (R:Reps H ds xs) (fl:∀d∈ds,Fl d/\nds d<=70000) (h2:2<=ds.length) (J:ds.length<=400) {Pf:PySem.Fin->Shared->Prop}
  (h:∀p H' ys L,aN X pins σ (upd H' a (.lst ys)) p->aG H H'->H' a=none->L.Perm ds->L.Pairwise leK->Reps H L ys->Pf (.done (.ret .none)) p) :
  wpAny (model X.prog X.w) A (ksk_rest a (.ref f) false its.toArray e1 (.ref kS)) Pf E s:=by
 have hu:=hr.units;have l3:=Reps.len R;have l4:=P.length;unfold ksk_rest;refine aa (wpAny_rule ?_);rw[List.forIn_toArray]
 refine aa (ksk_fold (λj p=>∃(Hj:Hp) (c:List V) (g:cS) (e:Nat),aN X pins σ Hj p/\aG H Hj/\Hj a=none/\Hj kS=none/\p.heap.get? a=some (seqObj "list" #[] e1)/\p.heap.get? kS=some (seqObj "list" g.toArray e)/\aR c g/\Reps Hj ((ds.take j).map kyD) c) its 0 s
  ⟨H,[],[],0,I,aG.refl _,fa.1,O.1,ha,hk,.nil,rfl⟩ ?step ?done)
 case step =>
  rintro j x p hx ⟨Hj,c,g,e,Z,sm,na,S,q,l,N,r⟩;rw[Nat.zero_add]at r⊢;have hj:j<its.length:=(cr.mp hx).1;have hd:ds[j]?=some ds[j]:=az (by lia);obtain⟨v,hv,rv⟩:=Reps.get' R hd;obtain⟨u,C,ru⟩:=P.get hv;rw[hx]at C;cases C;have lr:=Reps.len r;rw[ae,bv]at lr;have lk:=N.length;have hf:=fl ds[j] (bj hd);refine aa (wpAny_attempt (MG F hb hr he Z (fa.at na) (O.at S) q l (aY.same sm rv) hf.1 hf.2 ru λkv U H' s2 Y t T B W G rep Q=>?_));have sb:=Heap.SameBut.update s2.heap kS (Obj.mapSeq (·.push U));have gk:=get?_update_seq G (·.push U);refine aa (listUpdate_at G rfl ?_ (aq (m:=400) (by rw[ag];lia) (by decide)) (aq (m:=401) (by rw[Array.size_push,ag];lia) (by decide)));have i:=O.at B;refine ao ⟨rfl,H',c++[kv],g++[U],_,Y.turned (t':=s2.toks) (λb o hb z=>(sb.2 b hb).trans z) i.1 i.2.1 i.2.2.2.1 i.2.2.2.2.1 i.2.2.2.2.2,sm.trans t,T,B,(sb.2 a ne.symm).trans W,by rw[gk,List.push_toArray],N.append (.cons Q .nil),?_⟩;rw[take_snoc hd,ba];exact Reps.snoc rep (Reps.same t r)
 case done =>
  rintro p ⟨Hj,c,g,e,Z,sm,na,S,q,l,N,r⟩;rw[Nat.zero_add,←l4,l3,bw]at r;exact aa (listItems_at l rfl (KQ (by lia) Z sm (fa.at na) (O.at S) ne q l N r P R h2 J λs2 ys L Y a1 a2 a3=>h s2 Hj ys L Y sm na a1 a2 a3))
theorem FK {k:Nat}{f l:Addr}{G:FuncData}{ps:aT}(F:cA X.prog X.w X.K X.mg X.base bJ k f G ps spKey)(hb:eI X.K G ps [])(J:dY (k+2) X.A)(I:aN X pins σ H s)(L:H l=some (.lst xs))(v:Reps H ds xs)(fl:∀d∈ds,Fl d/\nds d<=70000)(N:2<=ds.length)(g:ds.length<=400){Q:VK}
  (h:∀q ys i H',aG H H'->H q=none->H' q=some (.lst ys)->i.Perm ds->i.Pairwise leK->Reps H i ys->Q (.ref q) H') :
  wpAny (model X.prog X.w) X.A (call (.builtin "sorted") [.ref l] [(Str.ofString "key",.ref f)]) (EP X pins σ Q) E s:=by
 obtain⟨its,u,pl,hz⟩:=I.list (eV.of L);have l3:=Reps.len v;have Z:=u.length;refine call_function_entry_kw kind_sorted plain_sorted entry_sorted (ksk_s1 _ _) ?_;unfold Builtin.«sorted»;refine aa (m:=checkCount "sorted" 1 1 _) (ao (aa (collect_list pl.isList ?_ (by lia))));refine aa (wpAny_newList ?_ (by lia));have C:∀b o,s.heap.get? b=some o->((s.heap.push (seqObj "list" #[] 0)).update s.heap.objs.size (Obj.mapSeq λx=>x++its.toArray)).get? b=some o:=λb o e=>by have lt:=bd e;rw[Heap.get?_update_ne _ _ _ _ (bq lt)];exact af _ e
 have p:s.heap.objs.size<=((s.heap.push (seqObj "list" #[] 0)).update s.heap.objs.size (Obj.mapSeq λx=>x++its.toArray)).objs.size:=by
  rw[Heap.size_update,Heap.size_push]
  lia
 dsimp only;generalize (s.heap.push (seqObj "list" #[] 0)).update s.heap.objs.size (Obj.mapSeq λx=>x++its.toArray)=h1 at C p⊢;have U:aN X pins σ H {s with heap:=h1.push (seqObj "list" its.toArray 0)}:=I.kept (t':=s.toks) λb o e=>af _ (C b o e);have B:=I.hok.fresh p;have c:=I.fpOk p B;have j:(h1.push (seqObj "list" its.toArray 0)).get? h1.objs.size=some (seqObj "list" its.toArray 0):=aw _ rfl;refine aa (cj (wpAny_call_entry_kw slot_list_sort ⟨_,j,rfl⟩ entry_list_sort ?body (ksk_l1 _ _)));show wpAny (model X.prog X.w) X.A.in1.in1 (ksk_tree h1.objs.size (.ref f) false) _ _ _;unfold ksk_tree;refine aa (listItems_at j rfl ?_);refine aa (listUpdate_at j rfl ?_ (by rw[ag];lia) (ax _));have sb:=Heap.SameBut.update (h1.push (seqObj "list" its.toArray 0)) h1.objs.size (Obj.mapSeq λ_=>(#[]:n5));have r:=get?_update_seq j λ_=>(#[]:n5)
 have T:=U.turned (t':=s.toks) (λb o hb z=>(sb.2 b hb).trans z) c.1 c.2.1 c.2.2.2.1 c.2.2.2.2.1 c.2.2.2.2.2;refine aa (seqEpoch_at r rfl ?_);refine aa (wpAny_newTuple ?_ (by show its.length<=_;lia));refine aa (wpAny_newList (cj ?_) (ax _));have t:=T.kept (t':=s.toks) λb o e=>af {cls:=.type "tuple",data:=.seq its.toArray} e;have S:=t.kept (t':=s.toks) λb o e=>af {cls:=.type "list",data:=.seq #[]} e;have P:=t.fpOk (ac _) (t.hok.fresh (ac _));have O:=af {cls:=.type "list",data:=.seq #[]} (af {cls:=.type "tuple",data:=.seq its.toArray} r);refine HL F hb J.in1.in1 (I.ok.frames) S c P (λz=>?_) O (aw _ rfl) u v fl N g λY H' ys i W sm na a1 a2 R=>⟨_,rfl,ao ⟨_,rfl,.ref h1.objs.size,_,W,rfl,h _ ys i _ (sm.trans (aG.upd na)) B upd_same a1 a2 R⟩⟩
 have lt:=bd (af {cls:=.type "tuple",data:=.seq its.toArray} r);exact Nat.ne_of_gt lt z
end
noncomputable def RU (g:TA):TE:=λσ H Q=>g σ H λvs c=>∃l xs ds,vs=[.ref l]/\c l=some (.lst xs)/\Reps c ds xs/\(∀d∈ds,Fl d/\nds d<=70000)/\2<=ds.length/\ds.length<=400 /\
 ∀e ys f H',aG c H'->c e=none->H' e=some (.lst ys)->f.Perm ds->f.Pairwise leK->Reps c f ys->Q (.ref e) H'
theorem D7 (O:dG X.prog X.w X.K X.mg X.base bJ k "order_key" spKey)(G:dY (k+2) X.A)(N:Gl X "sorted")(J:X.mg "sorted" = none)(j:Gl X "order_key")(S:PA X [e] ta)
  (R:backTo pos (starEach [e] X.env)=(false,eval e X.env)::backTo pos (starEach [] X.env):=by rfl) (i:(backTo pos (starEach [e] X.env)).any (·.1)=false:=by rfl):PE X (.Call (.Name "sorted" p) [e] [⟨some "key",.Name "order_key" p3,kpos⟩] pos) (RU ta):=by
 obtain⟨f,fd,ps,F,P,hk,hb⟩:=O;intro c s σ H Q I h;refine wpAny_Call_Name_kw (nR I N J (u:=.builtin "sorted") rfl ?_);refine callWith_kw (thn (S pos c s σ H _ I h) λus r ⟨vs,o,Z,r1,z⟩=>?_) R i;have B:PK X [⟨some "key",.Name "order_key" p3,kpos⟩] (tCons (tC (.ref f)) tNil):=OG (gH ⟨_,P,rfl⟩ j) SA;refine thn (B pos c r σ o (λvs m=>vs=[.ref f]/\m=o) Z ⟨rfl,rfl⟩) λE s2 ⟨C,m,Y,x,W,U⟩=>?_;subst W U;obtain⟨ku,rfl,g⟩:=aR.one x;cases g;obtain⟨l,xs,ds,rfl,L,v,fl,T,d,q⟩:=z;obtain⟨u,rfl,t⟩:=aR.one r1;cases t;exact FK F hb G Y L v fl T d q
end Lw
namespace Lw
open PySem L2
section
variable {P:Program}{w:World}{K:PySem.W.Frag}{mg:jB}{base:Heap}
theorem SF (n z:Str)(d:D)(c:Fl d):opn1 n z d=if eqD d (.str z)=true then []else opP n d:=by
 rcases iL c with⟨x,rfl,_⟩|⟨m,f,rfl,_⟩
 ·rfl
 ·have e:eqD (.tup (.str m::f)) (.str z)=false:=rfl;rw[e,ab (by decide)];rfl
theorem rE:∀(ds l:List D),(∀d∈ds,Fl d)->(∀d∈l,Fl d)->l.Pairwise leK->(ds.foldl (λl d=>insA d l) l).Pairwise leK
 | [],l,_,_,h=>h
 | d::ds,l,hd,f,h=>by
  refine rE ds (insA d l) (λe c=>hd e (bc _ c)) (λe c=>?_) (rG (hd d ay) f h);rcases cu.mp ((mN d l).mem_iff.mp c)with rfl|c
  ·exact hd _ ay
  ·exact f e c
theorem eC (h:∀d∈ds,Fl d):(cC ds).Pairwise leK:=rE ds [] h (λ_ h=>by cases h) .nil
theorem HK (h:∀d∈ds,Fl d)(p:es.Perm ds)(s:es.Pairwise leK):es=cC ds :=
 iX (λd hd=>h d (p.mem_iff.mp hd)) (p.trans (aX ds).symm) s (eC h)
theorem GF:∀{ds:List D} {d:D},d∈ds->nds d<=ndss ds
 | e::ds,d,h=>by
  rw[ndss];obtain rfl|h:=cu.mp h
  ·lia
  ·have:=GF h;lia
theorem LK (n z:Str)(d:D):ndss (opn1 n z d)<=nds d:=by
 unfold opn1;split
 ·split
  ·rw[nds];lia
  ·rw[ndss,ndss];lia
 ·split
  ·rw[ndss];lia
  ·rw[ndss,ndss];lia
theorem zK (n z:Str):∀ds:List D,ndss (opn n z ds)<=ndss ds
 | []=>ac _
 | d::ds=>by rw[dB,gI,ndss];have:=LK n z d;have:=zK n z ds;lia
def wY:Sp:=λvs H Q _=>∃(n z:Str) (a:Addr) (ds:List D) (ws:List V),vs=[.str n,.str z,.ref a]/\H a=some (.lst ws)/\Reps H ds ws/\Fls ds/\szs ds<=400/\ndss ds<=70000/\depDs ds<=50 /\
 ∀(c:V) (H':Hp),aG H H'->aY H' (one n z (cC (opn n z ds))) c->Q c H'
def WB (a l:Addr)(n z:Str)(ds:List D)(H:Hp)(i:Nat)(σ:St)(c:Hp):Prop:=∃(us:List V) (o:Option V),σ=[some (.str n),some (.str z),some (.ref a),some (.ref l),o]/\c l=some (.lst us)/\aG H c/\Reps c (opn n z (ds.take i)) us
theorem EF (F:fP K "flat_sum" "flat_sum" kX f U)(T:Txt mg)(t:dG P w K mg base bJ 1 "opened" wX)(j:dG P w K mg base bJ 2 "order_key" spKey):cA P w K mg base bJ 5 f U vP wY:=by
 refine F.ok lR (λvs H Q E h=>?_) (λcdv A outer s H vs Q E hr h=>?_)
 ·obtain⟨n,z,a,ds,ws,rfl,_⟩:=h;rfl
 ·obtain⟨n,z,a,ds,ws,rfl,G,L,r,v,c,B,q⟩:=h;have hu:=hr.units
  refine⟨_,(aD (aW (i:=3) lR.nd rfl (Or.inl rfl) (cF aB))
   (aD (eE dh rfl (cV K rfl (pv 2)) (bP (i:=4) lR.nd rfl (Or.inl rfl)) (aF (bH (aU (dS hu) (pv 4) (pv 1) (nomark _)) (aF (cU (kH de PySem.F.slot_list_extend PySem.F.type_list_extend zR (pv 3) (aA (aL t (hr.mono (by decide)) pass0 rfl (aA (pv 0) (aA (pv 4) aB))) aB)))) aS)))
   (aD (bH (dA (aV K rfl (pv 3) (λ_=>rfl))) (aF (aO (pv 1))) aS)
   (aD (bH (aU (dL hu) (aK bG rfl T.n_len rfl (aA (pv 3) aB)) aJ (nomark _)) (aF (aO (bM cY (pv 3) aJ (λ_ _=>rfl)))) aS)
   (aF (aO (cH eM rfl T.n_tuple rfl (aA (bK bQ (cF (aA (pv 0) aB)) (D7 j (hr.mono (by decide)) rfl T.n_sorted rfl (aA (pv 3) aB))) aB)))))))),?_⟩
  try dsimp only[cxOf,Cx.nox]
  simp only[nW];clear hr F T hu t j;have keep:=aI q (aI G (aI L (aI r (aI v (aI c B)))));clear q G L r v c B
  walk_at "rd"
  obtain⟨q,G,L,r,v,c,B⟩:=keep;refine⟨by decide,λl N=>⟨ws,.inl (by rw[aC (aE G N)];exact G),λJ hJ=>?_⟩⟩;have Z:aG H (upd H l (.lst [])):=aG.upd N;have h1:upd H l (.lst []) l=some (.lst []):=upd_same;generalize upd H l (.lst [])=H1 at Z h1 hJ⊢;have g:∀i,(opn n z (ds.take i)).length<=400:=λi=>by
   have h1:=kO (opn n z (ds.take i));have I:=uJ n z (ds.take i);have h3:=A8 i ds
   lia
  have lw:=Reps.len L;refine jQ hJ (WB a l n z ds H) ⟨[],none,rfl,h1,Z,rfl⟩ (by rintro i σ H' _ ⟨_,_,_,_,s2,_⟩;rw[s2 _ _ G,Z _ _ G]) ?_ ?_
  ·rintro i x σ H2 hx ⟨us,o,rfl,I,s2,C⟩;obtain⟨d,hd,rx⟩:=Reps.get L hx;have U:=r.get hd;have dd:=iF hd;have keep:=aI q (aI G (aI L (aI r (aI v (aI c (aI B (aI N (aI I (aI s2 (aI C (aI hd (aI rx (aI U (aI dd g))))))))))))));clear q G L r v c B N I s2 C hd rx U dd g Z h1 hJ hx
   walk_at "rd"
   obtain⟨q,G,L,r,v,c,B,N,I,s2,C,hd,rx,U,dd,g⟩:=keep;refine⟨d,.str z,aY.same s2 rx,rfl,by lia,_,rfl,?_⟩;have R:=Reps.len C;have X:=SF n z d U;cases S:eqD d (.str z)with
   | true =>
    rw[ab (by decide)];rw[S,ai rfl]at X;exact⟨us,_,rfl,I,s2,by rw[take_snoc hd,iC,X,bp];exact C⟩
   | false =>
    rw[ai (by decide)];rw[S,ab (by decide)]at X;refine⟨tyL I,n,d,x,rfl,aY.same s2 rx,U,λl2 Y H3 s3 hl2 h3 r3=>?_⟩;have l3:=s3 _ _ I;have lv:=Reps.len r3;have sm:=g (i+1);rw[take_snoc hd,iC,av,X]at sm;have f2:Fls (opn n z (ds.take i)++opP n d):=by rw[←X,←iC,←take_snoc hd];exact qC (iZ λe S=>dU r e (List.mem_of_mem_take S))
    refine⟨l,l2,us,Y,rfl,rfl,l3,.inl h3,aq (m:=500) (by lia) (by decide),us++Y,_,rfl,upd_same,λb o hb=>by rw[aC (aE hb N)];exact s3 _ _ (s2 _ _ hb),?_⟩;rw[take_snoc hd,iC,X];exact Reps.tups (bC.lst l3) f2 (Reps.append (Reps.same s3 C) (Reps.same s3 r3))
  ·rintro σ H2 ⟨us,o,rfl,I,s2,C⟩;rw[lw,bw]at C;have keep:=aI q (aI G (aI L (aI r (aI v (aI c (aI B (aI N (aI I (aI s2 (aI C g))))))))));clear q G L r v c B N I s2 C g Z h1 hJ
   walk_at "rd"
   obtain⟨q,G,L,r,v,c,B,N,I,s2,C,g⟩:=keep;have W:=qC (n:=n) (z:=z) r;have R:=Reps.len C;have sm:=g ds.length;rw[bw]at sm;have nn:=zK n z ds;refine⟨!us.isEmpty,.inl ⟨us,eV.of I,rfl⟩,?_⟩;generalize hos:opn n z ds=os at W R sm nn C q;clear hos
   match os,W,R,sm,nn,C,q with
   | [],W,R,sm,nn,C,q =>
    cases (show us=[]from C);rw[ai (by decide)];exact q _ _ s2 rfl
   | [d],W,R,sm,nn,⟨u,_,e,h,e'⟩,q =>
    subst e;cases (show _=[]from e');rw[ab (by simp),ai (by simp)];exact⟨u,atI_zero,q _ _ s2 h⟩
   | d::d2::O,W,R,sm,nn,C,q =>
    have l2:us.length=O.length+2:=by rw[R];rfl
    have ne:us≠[]:=λz=>by rw[z]at l2;simp at l2
    rw[ab (by cases us with|nil=>exact absurd rfl ne|cons a b=>simp),ab (by lia)];refine⟨by decide,λp hp=>?_⟩;have sp:aG H2 (upd H2 p (.lst [.str n])):=aG.upd hp;have hpp:upd H2 p (.lst [.str n]) p=some (.lst [.str n]):=upd_same;generalize upd H2 p (.lst [.str n])=H3 at sp hpp⊢;have all:∀e∈d::d2::O,Fl e:=dU W;refine⟨_,rfl,l,us,d::d2::O,rfl,sp _ _ I,Reps.same sp C,λe S=>⟨all e S,by have:=GF S;lia⟩,by simp,by simp only[au]at sm⊢;lia,λl' ys es H4 s4 hl' h4 pm so re=>?_⟩;have ees:=HK all pm so;have ly:=Reps.len re;have le:=pm.length_eq;refine⟨.lst (.str n::ys),pE (s4 _ _ hpp) h4 (aq (m:=500) (by simp only[au,List.length_nil]at sm le⊢;lia) (by decide)),λp5 hp5=>⟨.str n::ys,.inl upd_same,λl6 H6 hc=>?_⟩⟩;rcases hc with⟨hc,_⟩|⟨_,hl6,rfl⟩
    ·cases hc
    ·have s6:aG H4 (upd (upd H4 p5 (.lst (.str n::ys))) l6 (.tup (.str n::ys))):=(aG.upd hp5).trans (aG.upd hl6);refine q _ _ ((s2.trans (sp.trans s4)).trans s6) ?_;rw[BT (by rw[(aX _).length_eq];simp),←ees];exact⟨l6,_,rfl,upd_same,.str n,ys,rfl,rfl,Reps.same (s4.trans s6) re⟩
def iS (K:PySem.W.Frag)(C:Addr):Sp:=λvs H Q _=>∃(g:Addr) (fx:cP) (sm:cE) (n:Str) (a:Addr) (ds:List D) (ws:List V),vs=[.ref g,.str n,.ref a]/\gN K C fx sm H g/\H a=some (.lst ws)/\Reps H ds ws/\Fls ds/\szs ds<=400/\ndss ds<=70000/\depDs ds<=50 /\
 ∀(c:V) (H':Hp),aG H H'->aY H' (knot sm n ds) c->Q c H'
theorem EE (F:fP K "flat_of_parts" "flat_of_parts" fI f fd)(T:Txt mg)(d:J1 P w K mg base bJ 1 C "nought" (oE K C))(c:dG P w K mg base bJ 5 "flat_sum" wY):cA P w K mg base bJ 6 f fd lI (iS K C):=by
 refine F.ok kB (λvs H Q E h=>?_) (λX A outer s H vs Q E v h=>?_)
 ·obtain⟨g,N,sm,n,a,ds,r,rfl,_⟩:=h;rfl
 ·obtain⟨g,N,sm,n,a,ds,r,rfl,sg,u,t,l,j,e,o,q⟩:=h;have R:=v.units
  refine⟨_,(aD (aW (i:=3) kB.nd rfl (Or.inl rfl) (zI d (v.mono (by decide)) pass0 (pv 0) (aA (pv 1) aB)))
   (aD (bH (aU SH (pv 3) zH (nomark _)) (aF (aO (cH eM rfl T.n_tuple rfl (aA (bK bQ (cF (aA (pv 1) aB)) (pv 2)) aB)))) aS)
   (aF (aO (aL c (v.mono (by decide)) pass0 rfl (aA (pv 1) (aA (pv 3) (aA (pv 2) aB)))))))),?_⟩
  try dsimp only[cxOf,Cx.nox]
  simp only[iN];clear v F T R d c;have keep:=aI q (aI u (aI t (aI l (aI j (aI e (aI o sg))))));clear q u t l j e o sg
  walk_at "rd"
  obtain⟨q,u,t,l,j,e,o,sg⟩:=keep;obtain⟨W,fs,_,_,U,_,S,_⟩:=sg.ex;refine⟨_,rfl,g,W,fs,rfl,U,S,_,rfl,g,n,N,sm,rfl,sg,?_⟩;unfold knot at q;cases hz:zr sm n with
  | none =>
   have G:nulV sm n = .non:=by unfold nulV;rw[hz];rfl
   rw[hz]at q;rw[G,ai rfl];have Y:=Reps.len t;have:=kO ds;refine⟨by decide,λp L=>⟨.lst (.str n::r),pE upd_same (by rw[aC (aE u L)];exact u) (aq (m:=500) (by simp;lia) (by decide)),λO x=>⟨.str n::r,.inl upd_same,λJ Z hc=>?_⟩⟩⟩;rcases hc with⟨hc,_⟩|⟨_,B,rfl⟩
   ·cases hc
   ·have I:aG H (upd (upd (upd H p (.lst [.str n])) O (.lst (.str n::r))) J (.tup (.str n::r))):=((aG.upd L).trans (aG.upd x)).trans (aG.upd B);exact q _ _ I ⟨J,_,rfl,upd_same,.str n,r,rfl,rfl,Reps.same I t⟩
  | some z =>
   have G:nulV sm n = .str z:=by unfold nulV;rw[hz];rfl
   rw[hz]at q;rw[G,ab (by simp)];exact⟨n,z,a,ds,r,rfl,u,t,l,j,e,o,q⟩
end
end Lw
namespace L2
open PySem PySem.Spec PyProof.Rows
theorem OQ {X:Cx}(K:PySem.W.Frag)(j:X.K=K){o:Expr}{h:TE}{name:Str}{d c:Pos}{T id:String}{r:V->List V->Hp->VK->Prop}(pa:PlainAttrs T)(slot:Slot T name id)(g:typeOf (.builtin id)=pure (.type "method_descriptor"))(i:VG X id r)(ho:PE X o h)
  (f:attributeBase o name X.env (eval o X.env)=eval o X.env:=by rfl) (e:(d.endLine == c.line)=true:=by rfl):PE X (.Call (.Attribute o name d) [] [] c) (tBM0 K T r h):=by
 subst j;exact EA pa slot g i ho f e
noncomputable abbrev pinO (a:Addr)(o:Obj):HO:=.ext λh=>h.get? a=some o
theorem zF (e:h.get? a=some o):cD P w H h a (pinO a o):=⟨e,⟨o,e⟩,λd c q k=>k o q⟩
theorem oP (ok:gQ P w H h)(e:H a=some (pinO a o)):h.get? a=some o:=(ok a _ e).1
noncomputable def del1 (H:Hp)(p:Addr):Hp:=λb=>if b=p then none else H b
theorem M6 (h:del1 H p b=some o):H b=some o/\b≠p:=by
 unfold del1 at h;by_cases e:b=p
 ·rw[ai e]at h;cases h
 ·rw[ab e]at h;exact⟨h,e⟩
theorem iU (h:H b=none):del1 H p b=none:=by
 unfold del1;split
 ·rfl
 ·exact h
theorem dI (h:b≠p):del1 H p b=H b:=by unfold del1;rw[ab h]
theorem mS:del1 H p p=none:=by unfold del1;rw[ai rfl]
theorem gQ.del {P:Program}{w:World}{H:Hp}{h:Heap}{c:Addr}{φ:Heap->Prop}(ok:gQ P w H h)(e:H c=some (.ext φ)):gQ P w (del1 H c) h:=λa o q=>by obtain⟨d,f⟩:=M6 q;exact(ok a o d).stay (λ_ _ _ z=>z) (λb z=>by rw[dI (λw=>by rw[w,e]at z;cases z)];exact z) (λb xs z=>by rw[dI (λw=>by rw[w,e]at z;cases z)];exact z)
theorem gQ.back (ok:gQ P w H h)(n:H c=none)(e:h.get? c=some o):gQ P w (upd H c (pinO c o)) h:=λa u q=>by
 by_cases z:a=c
 ·subst z;rw[upd_same]at q;cases q;exact zF e
 ·rw[aC z]at q;exact(ok a u q).stay (λ_ _ _ z=>z) (λb z=>by rw[aC (aE z n)];exact z) (λb xs z=>by rw[aC (aE z n)];exact z)
end L2
namespace Lw
open PySem PySem.Spec PyProof.Rows L2
noncomputable def lamOf (s:Stmt):Expr:=match cK s with
 | [.Return (some (.Call _ [_,_,e] _ _)) _]=>e
 | _=>.Name "" ⟨0,0,0,0⟩
noncomputable def S7 (e:Expr):Arguments:=match e with
 | .Lambda a _ _ _=>a
 | _=>default
noncomputable def S8 (e:Expr):Expr:=match e with
 | .Lambda _ b _ _=>b
 | e=>e
noncomputable def lamSc (e:Expr):Scope:=match e with
 | .Lambda _ _ s _=>s
 | _=>default
noncomputable abbrev pL:Arguments:=S7 (lamOf cQ)
noncomputable abbrev bL:Expr:=S8 (lamOf cQ)
noncomputable abbrev scL:Scope:=lamSc (lamOf cQ)
noncomputable def qL:Str:="put_in.<locals>.<lambda>"
noncomputable abbrev oL (c0 c':Addr)(pm ctv:Value):Obj:=PySem.W.kla_obj "<lambda>" qL pL bL scL [("signs",c0)] pm c' ctv
noncomputable abbrev envL (L fl c0 c':Addr):Env:=newEnv scL L mainGlobals [("signs",c0)] (qL++".<locals>.") (some fl) (.ref c') none builtinsNs
noncomputable def cxL (P:Program)(w:World)(K:PySem.W.Frag)(mg:jB)(base:Heap)(A:Around)(outer:List Env)(s:Shared)(H:Hp)(fl c d:Addr):Cx where
 prog:=P
 w:=w
 K:=K
 mg:=mg
 base:=base
 A:=A.deeper (envL s.heap.objs.size fl c d)
 N:=["name","parts","signs"]
 s₀:=s
 H₀:=H
 env:=envL s.heap.objs.size fl c d
 outer:=outer
 stack:=envL s.heap.objs.size fl c d::outer
 ex:=[]
 fn:=λ_=>false
 calm:=true
 pn:=[]
 xe:=λ_ _=>False
theorem E8 (h:scL.names.lookup x=some .cell∨scL.names.lookup x=some .free):x="signs":=by
 have all:∀y∈scL.names,(y.2 = .cell∨y.2 = .free)->y.1=("signs" : Str):=by decide +kernel
 rcases h with h|h
 ·exact all _ (PySem.mem_of_lookup h) (.inl rfl)
 ·exact all _ (PySem.mem_of_lookup h) (.inr rfl)
section
variable {P:Program}{w:World}{K:PySem.W.Frag}{mg:jB}{base:Heap}
theorem PX (R:dY (k+1) A)(d:wL P w K mg base A outer s H)
  (T:H fl=some (pinO fl (oL c0 c' pm ctv))) (j:H c0=some (pinO c0 oc0)) (E:oc0.data = .cell (some (.ref g))) (X:H c'=some (pinO c' oc')) (U:oc'.data = .fields vsc) (hq:vsc[1]?=some (.str qL tq))
  (O:dG P w K mg base bJ k "flat_of_parts" (iS K C)) (r1:aQ (.str n) u1) (r2:aQ (.ref a) u2) (sp:iS K C [.ref g,.str n,.ref a] (del1 H c0) (λv H'=>H' c0=none->Q v (upd H' c0 (pinO c0 oc0))) E0) :
  codeAny (model P w) A (.call (.ref fl) ⟨[u1,u2],[]⟩) (CR bJ outer P w H s Q E0) s:=by
 have Y:=oP d.hok T;have G:=oP d.hok j;have g':=oP d.hok X;have N:s.heap.NoLimit:=d.mod.nolimit.keeps λb o e=>(d.bs b o e).1;refine PySem.W.kla_callFunE R.depth Y rfl rfl rfl rfl ⟨c',oc',vsc,tq,rfl,g',U,hq⟩ ?_;rw[show bindArgs (PySem.W.kla_fn "<lambda>" qL pL bL scL [("signs",c0)] pm (.ref c') ctv) ⟨[u1,u2],[]⟩=pure [(("name" : Str),u1),(("parts" : Str),u2)]from rfl];have nc:∀x∈scL.names,x.2≠.cell:=by decide +kernel
 have nl:∀x∈[(("name" : Str),u1),(("parts" : Str),u2)],scL.names.lookup x.1=some .local:=by
  intro x f;obtain rfl|f:=cu.mp f
  ·rfl
  ·rw[cs.mp f];rfl
 refine ao (wpAny_newFunctionEnv nc nl (λh' S B=>⟨N.fresh _ B,?_⟩) rfl);have F:∀b o,s.heap.get? b=some o->h'.get? b=some o:=λb o e=>B.extBut b o (bq (bd e)) (af _ e);have t:=d.hok.del j;have L:c0∉frs outer:=λz=>by have:=d.frf c0 z;rw[j]at this;cases this
 have I:aN (cxL P w K mg base A outer s (del1 H c0) fl c0 c') [] [some (.str n),some (.ref a),some (.ref g)] (del1 H c0) {s with heap:=h',toks:=s.toks+2}:=by
  have r:∀b:Addr,b∉(cxL P w K mg base A outer s (del1 H c0) fl c0 c').ex:=λb z=>absurd (show b∈([]:List Addr)from z) (by simp);have one:∀x c,(cxL P w K mg base A outer s (del1 H c0) fl c0 c').env.cells.lookup x=some c->x=("signs" : Str)/\c=c0:=λx c e=>by have e':[(("signs" : Str),c0)].lookup x=some c:=e;have:=PySem.mem_of_lookup e';rw[cs]at this;cases this;exact⟨rfl,rfl⟩
  refine⟨⟨d.mod,rfl,rfl,rfl,ac _,λx y c l m=>?_,λx f=>?_,λx c h=>absurd h (by simp[cxL]),λ_=>R.hd,Around.frames_deeper d.frames,.inr ⟨rfl,rfl⟩,λb z=>absurd z (r b),λb o e=>⟨(d.bs b o e).1,iU (d.bs b o e).2⟩,d.bsz,λb _ _=>r b,λb z=>absurd z (r b),d.funs,λb z=>iU (d.frf b z)⟩,
   rfl,d.bare,Un.kept F,⟨_,S,λi x v l m h3=>?_⟩,λx c h=>?_,t.fresh (ac _),λx c h=>?_,λp hp=>absurd (show p∈([]:cW)from hp) (by simp),t.kept F,rfl⟩
  ·rw[(one x c l).1,(one y c m).1]
  ·rw[E8 f];exact⟨c0,rfl⟩
  ·match i,l,m with
   | 0,l,m=>cases l;cases m;exact⟨u1,r1,.inl ⟨rfl,rfl⟩⟩
   | 1,l,m=>cases l;cases m;exact⟨u2,r2,.inl ⟨rfl,rfl⟩⟩
   | 2,l,m=>cases l;cases m;exact⟨.ref g,rfl,.inr ⟨.inr rfl,c0,rfl,oc0,F _ _ G,E⟩⟩
   | i+3,l,m=>cases l
  ·rw[(one x c h).2];exact⟨_,oc0,F _ _ G,E⟩
  ·rw[(one x c h).2];exact mS
 have pb:PE (cxL P w K mg base A outer s (del1 H c0) fl c0 c') bL (tCall (iS K C) [] E0 (tCons (tVar 2) (tCons (tVar 0) (tCons (tVar 1) tNil)))):=aL O (R.deeper _) pass0 rfl (aA (pv 2) (aA (pv 0) (aA (pv 1) aB)));refine PySem.W.kla_codeExpr (wpAny_mono (pb [] _ _ _ (λv H'=>H' c0=none->Q v (upd H' c0 (pinO c0 oc0))) I ⟨_,rfl,_,rfl,_,rfl,sp⟩) (λu s' ⟨v,H',J,rv,q⟩=>?_) λ_ _ z=>z.elim);have un:Un (frs outer) [] (del1 H c0) H' s.heap s'.heap:=J.base;have gs:=un.keep c0 oc0 G mS L (by simp);have nn:=un.free c0 oc0 G mS (by simp);refine⟨v,upd H' c0 (pinO c0 oc0),J.os,J.bare,?_,J.hok.back nn gs,rv,q nn⟩;have ne:∀b u,H b=some u->(∀φ,u≠.ext φ)->b≠c0:=λb u e z w=>by rw[w,j]at e;cases e;exact z _ rfl
 refine⟨λb o e z hb f=>un.keep b o e (iU z) hb f,λb o e z hb f=>un.slot b o e (iU z) hb f,λb o e z f=>?_,λb o e f=>un.there b o e f,λb xs e=>?_,λb o Z e=>?_,λb ps e=>?_⟩
 ·rw[aC (λw=>by rw[w,j]at z;cases z)];exact un.free b o e (iU z) f
 ·have nb:=ne b _ e (λφ=>by simp);rw[aC nb];exact un.tups b xs (by rw[dI nb];exact e)
 ·have nb:=ne b _ e (λφ=>by simp);rw[aC nb];exact un.frzs b o Z (by rw[dI nb];exact e)
 ·have nb:=ne b _ e (λφ=>by simp);rw[aC nb];exact un.tbls b ps (by rw[dI nb];exact e)
end
def DF (H:Hp)(fl c g:Addr):Prop:=∃(d:Addr) (pm ctv:Value) (oc0 oc':Obj) (vsc:n5) (tq:Tok),H fl=some (pinO fl (oL c d pm ctv))/\H c=some (pinO c oc0)/\oc0.data = .cell (some (.ref g))/\H d=some (pinO d oc')/\oc'.data = .fields vsc/\vsc[1]?=some (.str qL tq)
theorem DF.same (h:DF H fl c0 g)(s:aG H H'):DF H' fl c0 g:=by obtain⟨q,pm,f,d,e,c,i,p,o,m,l,j⟩:=h;exact⟨q,pm,f,d,e,c,i,s _ _ p,s _ _ o,m,s _ _ l,j⟩
mutual
theorem aY.del1 {H:Hp}{c:Addr}{φ:Heap->Prop}(e:H c=some (.ext φ)):∀{d:D} {v:V},aY H d v->aY (L2.del1 H c) d v
 | .non,v,h | .bl _,v,h | .int _,v,h | .str _,v,h=>h
 | .tup ds,v,⟨a,vs,i,f,g⟩=>⟨a,vs,i,by rw[dI (λz=>by rw[z,e]at f;cases f)];exact f,Reps.del1 e g⟩
 | .lst ds,v,⟨a,vs,i,f,g⟩=>⟨a,vs,i,by rw[dI (λz=>by rw[z,e]at f;cases f)];exact f,Reps.del1 e g⟩
theorem Reps.del1 {H:Hp}{c:Addr}{φ:Heap->Prop}(e:H c=some (.ext φ)):∀{ds:List D} {vs:List V},Reps H ds vs->Reps (L2.del1 H c) ds vs
 | [],vs,h=>h
 | d::ds,vs,⟨v,r,i,g,f⟩=>⟨v,r,i,aY.del1 e g,Reps.del1 e f⟩
end
theorem gN.del1 {K:PySem.W.Frag}{C:Addr}{j:cP}{sm:cE}{H:Hp}{g c:Addr}{φ:Heap->Prop}(e:H c=some (.ext φ))(h:gN K C j sm H g):gN K C j sm (L2.del1 H c) g:=by obtain⟨a,b,n,q,fs,s,r,i,p,o,m,l,f,d⟩:=h;exact⟨a,b,n,q,fs,s,r,by rw[dI (λz=>by rw[z,e]at i;cases i)];exact i,p,o,m,l,by rw[dI (λz=>by rw[z,e]at f;cases f)];exact f,by rw[dI (λz=>by rw[z,e]at d;cases d)];exact d⟩
def tLam (K:PySem.W.Frag)(C:Addr)(i:Nat)(t:TA):TE:=λσ H Q=>∃fl,σ[i]?=some (some (.ref fl))/\t σ H λvs c=>∃(e g:Addr) (fx:cP) (sm:cE) (n:Str) (a:Addr) (ds:List D) (ws:List V),vs=[.str n,.ref a]/\DF c fl e g /\
 gN K C fx sm c g/\c a=some (.lst ws)/\Reps c ds ws/\Fls ds/\szs ds<=400/\ndss ds<=70000/\depDs ds<=50/\∀(d:V) (H':Hp),aG c H'->aY H' (knot sm n ds) d->Q d H'
theorem D9 (hN:X.N[i]?=some ("whole" : Str))(hv:U5 X.env.scope "whole")(O:dG X.prog X.w X.K X.mg X.base bJ k "flat_of_parts" (iS X.K C))(hr:dY (k+1) X.A)(ha:PA X [e1,e2] t)
  (he:starEach [e1,e2] X.env=(false,eval e1 X.env)::starEach [e2] X.env:=by rfl) (E:(backTo pos (starEach [e2] X.env)).any (·.1)=false:=by rfl):PE X (.Call (.Name "whole" p) [e1,e2] [] pos) (tLam X.K C i t):=by
 intro d s σ H Q I h;obtain⟨fl,F,h⟩:=h;have pw:PE X (.Name "whole" p) (tVar i):=K9 hN hv;refine wpAny_Call_Name_kw (thn (pw d s σ H (λx H'=>x = .ref fl/\H'=H) I ⟨_,F,rfl,rfl⟩) λf s0 ⟨x,H0,I0,rx,e3,e4⟩=>?_);subst e3 e4;cases rx;have c:=ha pos d s0 σ H0 _ I0 h;rw[he]at c⊢;refine PySem.W.callWith_of (P:=λh=>∃o U,h.get? fl=some o/\o.data = .func U) (by show((false || (backTo pos (starEach [e2] X.env)).any (·.1)) || false)=false;rw[E];rfl) (λh ⟨o,U,Z,Y⟩=>⟨.frame,.inl rfl,?_⟩) (Calls.evalArgs_plain (thn c λus s1 ⟨vs,H1,S,rv,q⟩=>?_))
 ·intro A' Q' E' s' kp q;unfold keeperOf;refine aa (wpAny_load (kp _ _ Z) ?_);rw[Y];exact ao q
 ·obtain⟨c0,g,fx,sm,n,a,ds,ws,rfl,la,sg,G,rd,J,B,j,R,q⟩:=q;obtain⟨c',pm,ctv,oc0,oc',vsc,tq,T,l,l3,l4,l5,l6⟩:=la;obtain⟨u1,u2,rfl,r1,r2⟩:=aR.two rv;refine⟨⟨_,_,oP S.hok T,rfl⟩,?_⟩;refine wpAny_call (codeAny_mono (PX (Q:=Q) hr S.env0 T l l3 l4 l5 l6 O r1 r2 ⟨g,fx,sm,n,a,ds,ws,rfl,sg.del1 l,by rw[dI (λz=>by rw[z,l]at G;cases G)];exact G,Reps.del1 l rd,J,B,j,R,λv' H' v rp nn=>q v' _ (λb o e=>?_) (aY.same (aG.upd nn) rp)⟩) λr s' m=>?_)
  ·by_cases z:b=c0
   ·subst z;rw[l]at e;cases e;exact upd_same
   ·rw[aC z];exact v b o (by rw[dI z];exact e)
  ·cases r with
   | error e=>exact m.elim
   | ok L =>
    cases L with
    | ret u=>exact S.after m
    | next=>exact m.elim
    | brk=>exact m.elim
    | cont=>exact m.elim
end Lw
namespace Lw
open PySem L2
mutual
def NF (sm:cE):D->Prop
 | .tup (.str n::ds)=>NFs sm ds/\∀z,zr sm n=some z->2<=ds.length/\ds.Pairwise leK/\∀e∈ds,opn1 n z e=[e]
 | _=>True
def NFs (sm:cE):List D->Prop
 | []=>True
 | d::ds=>NF sm d/\NFs sm ds
end
theorem zP:∀{ds:List D},NFs sm ds->∀d∈ds,NF sm d
 | _::_,⟨a,b⟩,d,h=>by
  obtain rfl|h:=cu.mp h
  ·exact a
  ·exact zP b d h
theorem EH:∀{ds:List D},(∀d∈ds,NF sm d)->NFs sm ds
 | [],_=>trivial
 | d::ds,h=>⟨h d ay,EH λe k=>h e (bc _ k)⟩
theorem OT (hz:zr sm n=some z)(h:NF sm d):∀e∈opn1 n z d,NF sm e/\opn1 n z e=[e]:=by
 intro e g;have rest:∀d':D,(∀m f,d'≠.tup (.str m::f))->opn1 n z d'=if eqD d' (.str z)=true then []else [d']:=λd' hd=>by
  unfold opn1;split
  ·rename_i m f;exact absurd rfl (hd m f)
  ·rfl
 by_cases c:∃m f,d = .tup (.str m::f)
 ·obtain⟨m,f,rfl⟩:=c;by_cases j:m=n
  ·subst j;have i:opn1 m z (.tup (.str m::f))=f:=by rw[opn1,ai rfl]
   rw[i]at g;unfold NF at h;exact⟨zP h.1 e g,(h.2 z hz).2.2 e g⟩
  ·have i:opn1 n z (.tup (.str m::f))=[.tup (.str m::f)]:=by rw[opn1,ab j]
   rw[i]at g;cases cs.mp g;exact⟨h,i⟩
 ·have i:=rest d λm f z=>c ⟨m,f,z⟩;by_cases q:eqD d (.str z)=true
  ·rw[i,ai q]at g;cases g
  ·rw[ab q]at i;rw[i]at g;cases cs.mp g;exact⟨h,i⟩
theorem LH (hz:zr sm n=some z)(h:NFs sm ds):∀e∈opn n z ds,NF sm e/\opn1 n z e=[e]:=λe c=>by obtain⟨d,g,f⟩:=List.mem_flatMap.mp c;exact OT hz (zP h d g) e f
theorem zW (f:Fls ps)(h:NFs sm ps):NF sm (knot sm n ps):=by
 unfold knot;cases hz:zr sm n with
 | none =>
  dsimp only;unfold NF;exact⟨h,λz e=>by rw[hz]at e;cases e⟩
 | some z =>
  dsimp only;have pm:=aX (opn n z ps);have so:=eC (dU (qC (n:=n) (z:=z) f));have c:∀e∈cC (opn n z ps),NF sm e/\opn1 n z e=[e]:=λe j=>LH hz h e (pm.mem_iff.mp j);generalize cC (opn n z ps)=l at so c
  match l,so,c with
  | [],_,_=>unfold one NF;trivial
  | [d],_,c=>exact(c d (cs.mpr rfl)).1
  | d::e::l,so,c =>
   show NF sm (.tup (.str n::d::e::l));unfold NF;refine⟨EH λx i=>(c x i).1,λm g=>?_⟩;rw[hz]at g;cases g;exact⟨by simp,so,λx i=>(c x i).2⟩
mutual
theorem FB (hz:∀r∈sm,r.2=("" : Str)∨Fl (.str r.2)):∀{d:D},Tm d->NF sm (flt sm d)
 | .str x,_=>by
  have:flt sm (.str x) = .str x:=by unfold flt;rfl
  rw[this];unfold NF;trivial
 | .tup (.str n::ds),h=>by
  unfold Tm at h;rw[flt];exact zW (hZ hz h.2).1 (AE hz h.2)
 | .lst (.str n::ds),h=>by unfold Tm at h;rw[flt];exact zW (hZ hz h.2).1 (AE hz h.2)
theorem AE (hz:∀r∈sm,r.2=("" : Str)∨Fl (.str r.2)):∀{ds:List D},Tms ds->NFs sm (flts sm ds)
 | [],_=>trivial
 | d::ds,⟨a,b⟩=>by rw[flts];exact⟨FB hz a,AE hz b⟩
end
theorem xQ (hz:zr sm n=some z)(f:Fls ps)(p:(opn n z ps).Perm (opn n z qs)):knot sm n ps=knot sm n qs:=by unfold knot;rw[hz];dsimp only;have f1:=dU (qC (n:=n) (z:=z) f);have f2:∀d∈opn n z qs,Fl d:=λd hd=>f1 d (p.mem_iff.mpr hd);rw[iX (λd hd=>f1 d ((aX _).mem_iff.mp hd)) ((aX _).trans (p.trans (aX _).symm)) (eC f1) (eC f2)]
theorem IA (hz:zr sm n=some z)(h:NFs sm gs):(opn1 n z (knot sm n gs)).Perm (opn n z gs):=by
 unfold knot;rw[hz];dsimp only;have pm:=aX (opn n z gs);have c:∀e∈cC (opn n z gs),opn1 n z e=[e]:=λe f=>(LH hz h e (pm.mem_iff.mp f)).2;refine List.Perm.trans ?_ pm;generalize cC (opn n z gs)=l at c
 match l,c with
 | [],_ =>
  show(opn1 n z (.str z)).Perm [];have:opn1 n z (.str z)=[]:=by unfold opn1;dsimp only;rw[ai (by simp[eqD])]
  rw[this]
 | [d],c=>rw[show one n z [d]=d from rfl,c d (cs.mpr rfl)]
 | d::e::l,c =>
  show(opn1 n z (.tup (.str n::d::e::l))).Perm _;rw[opn1,ai rfl]
theorem CD (hz:zr sm n=some z)(f:Fl d)(h:NF sm d)(r:ps=[d,.str z]∨ps=[.str z,d]):knot sm n ps=d:=by
 have l:opn1 n z (.str z)=[]:=by unfold opn1;dsimp only;rw[ai (by simp[eqD])]
 have t:opn n z ps=opn1 n z d:=by
  rcases r with rfl|rfl
  ·rw[dB,dB,l];simp[opn]
  ·rw[dB,dB,l];simp[opn]
 unfold knot;rw[hz];dsimp only;rw[t];by_cases c:∃g,d = .tup (.str n::g)
 ·obtain⟨g,rfl⟩:=c;unfold NF at h;obtain⟨o,so,_⟩:=h.2 z hz;have j:∀e∈g,Fl e:=by unfold Fl at f;exact dU f
  rw[opn1,ai rfl,iX (λx p=>j x ((aX _).mem_iff.mp p)) (aX g) (eC j) so]
  match g,o with
  | _::_::_,_=>rfl
 ·have i:opn1 n z d=[d]∨(opn1 n z d=[]/\d = .str z):=by
   unfold opn1;split
   ·rename_i m g;refine .inl (ab λe=>c ⟨g,by rw[e]⟩)
   ·by_cases q:eqD d (.str z)=true
    ·rw[ai q];refine .inr ⟨rfl,?_⟩;cases d with
     | str x=>unfold eqD at q;rw[bu q]
     | _=>unfold eqD at q;simp at q
    ·rw[ab q];exact .inl rfl
  rcases i with i|⟨i,s⟩
  ·rw[i];rfl
  ·rw[i,s];rfl
theorem gZ {c:cP}{sm:cE}{os:aT}:∀{ds:List D},IsTms c sm os ds->∀d∈ds,aZ c sm os d
 | _::_,⟨a,b⟩,d,h=>by
  obtain rfl|h:=cu.mp h
  ·exact a
  ·exact gZ b d h
theorem CJ {c:cP}{sm:cE}{os:aT}:∀{ds:List D},(∀d∈ds,aZ c sm os d)->IsTms c sm os ds
 | [],_=>trivial
 | d::ds,h=>⟨h d ay,CJ λe k=>h e (bc _ k)⟩
theorem LG (p:l.Perm m):(opn n z l).Perm (opn n z m):=by unfold opn;exact p.flatMap_right _
theorem BR:∀{c:List D},(∀e∈c,opn1 n z e=[e])->opn n z c=c
 | [],_=>rfl
 | e::c,h=>by rw[dB,h e ay,BR λx d=>h x (bc _ d)];rfl
mutual
theorem L1:∀{d:D},NF sm d->Fl d->flt sm d=d
 | .str x,_,_=>by unfold flt;rfl
 | .tup (.str n::e),h,f=>by
  unfold NF at h;unfold Fl at f;rw[flt,BZ h.1 f];unfold knot;cases hz:zr sm n with
  | none=>rfl
  | some z =>
   dsimp only;obtain⟨g,so,j⟩:=h.2 z hz;have c:=dU f;rw[BR j,iX (λx i=>c x ((aX _).mem_iff.mp i)) (aX e) (eC c) so]
   match e,g with
   | _::_::_,_=>rfl
 | .non,_,f | .bl _,_,f | .int _,_,f | .tup [],_,f | .lst _,_,f | .tup (.non::_),_,f | .tup (.bl _::_),_,f | .tup (.int _::_),_,f | .tup (.tup _::_),_,f | .tup (.lst _::_),_,f=>by unfold Fl at f;exact absurd f id
theorem BZ:∀{ds:List D},NFs sm ds->Fls ds->flts sm ds=ds
 | [],_,_=>rfl
 | d::ds,⟨a,b⟩,⟨f,g⟩=>by rw[flts,L1 a f,BZ b g]
end
theorem QC {c:cP}{sm:cE}{os:aT}{d:D}(so:bD c sm)(ho:∀x∈os,bO x)(tm:aZ c sm os d):flt sm (flt sm d)=flt sm d:=by have t:=(iW so ho tm).1;exact L1 (FB (bT so) t) (qN (bT so) t).1
theorem GC {f:cP}{sm:cE}{os:aT}{n z:Str}{d:D}(h:aZ f sm os d):∀e∈opn1 n z d,aZ f sm os e:=by
 intro e c;unfold opn1 at c;split at c
 ·rename_i m g;split at c
  ·unfold aZ at h;exact gZ h.2 e c
  ·cases cs.mp c;exact h
 ·split at c
  ·cases c
  ·cases cs.mp c;exact h
theorem Q1 (h:zr sm n=some z):∃r∈sm,r.1=n/\r.2=z:=by unfold zr at h;obtain⟨r,c,e⟩:=Option.map_eq_some_iff.mp h;have d:=List.find?_some c;exact⟨r,List.mem_of_find?_eq_some c,bu d,e⟩
theorem GN {c:cP}{sm:cE}{os:aT}{n:Str}{ps:List D}(so:bD c sm)(f:Fls ps)(b:Nbs ps)(h:IsTms c sm os ps)(hd:AT c sm n ps.length):aZ c sm os (knot sm n ps):=by
 unfold knot;cases hz:zr sm n with
 | none=>dsimp only;unfold aZ;exact⟨hd,h⟩
 | some z =>
  dsimp only;obtain⟨r,m,o,j⟩:=Q1 hz;have pm:=aX (opn n z ps);have g:∀e∈cC (opn n z ps),aZ c sm os e:=λe p=>by obtain⟨d,i,s⟩:=List.mem_flatMap.mp (pm.mem_iff.mp p);exact GC (gZ h d i) e s
  have ne:z=("" : Str)->cC (opn n z ps)≠[]:=λe q=>by subst e;have i:=LJ (n:=n) f b (λe=>by rw[e]at hd;have:=nS hd;simp at this);rw[q]at pm;exact i (List.Perm.eq_nil pm.symm)
  generalize cC (opn n z ps)=l at g ne
  match l,g,ne with
  | [],_,ne =>
   show aZ c sm os (.str z);unfold aZ;refine .inr ?_;rw[←j];exact so.nought r m λe=>ne (by rw[←j];exact e) rfl
  | [d],g,_=>exact g d (cs.mpr rfl)
  | d::e::l,g,_ =>
   show aZ c sm os (.tup (.str n::d::e::l));unfold aZ;exact⟨.inr ⟨by simp,by rw[←o];exact cx.mpr ⟨r,m,rfl⟩⟩,CJ g⟩
mutual
theorem E9 {c:cP}{sm:cE}{os:aT}(so:bD c sm)(ho:∀x∈os,bO x):∀{d:D},aZ c sm os d->aZ c sm os (flt sm d)
 | .str x,h=>by
  have:flt sm (.str x) = .str x:=by unfold flt;rfl
  rw[this];exact h
 | .tup (.str n::ds),h=>by
  unfold aZ at h;have t:=(pT so ho h.2).1;have g:=hZ (bT so) t;rw[flt];exact GN so g.1 g.2 (tD so ho h.2) (by rw[gJ,ae];exact h.1)
 | .lst (.str n::ds),h=>by
  unfold aZ at h;have t:=(pT so ho h.2).1;have g:=hZ (bT so) t;rw[flt];exact GN so g.1 g.2 (tD so ho h.2) (by rw[gJ,ae];exact h.1)
 | .non,h | .bl _,h | .int _,h | .tup [],h | .lst [],h | .tup (.non::_),h | .tup (.bl _::_),h | .tup (.int _::_),h | .tup (.tup _::_),h | .tup (.lst _::_),h | .lst (.non::_),h | .lst (.bl _::_),h | .lst (.int _::_),h | .lst (.tup _::_),h | .lst (.lst _::_),h=>by unfold aZ at h;exact absurd h id
theorem tD {c:cP}{sm:cE}{os:aT}(so:bD c sm)(ho:∀x∈os,bO x):∀{ds:List D},IsTms c sm os ds->IsTms c sm os (flts sm ds)
 | [],_=>trivial
 | d::ds,⟨a,b⟩=>by rw[flts];exact⟨E9 so ho a,tD so ho b⟩
end
mutual
noncomputable def flf (sm:cE)(φ:Str->D):D->D
 | .tup (.str n::ds)=>knot sm n (flfs sm φ ds)
 | .lst (.str n::ds)=>knot sm n (flfs sm φ ds)
 | .str x=>φ x
 | d=>d
noncomputable def flfs (sm:cE)(φ:Str->D):List D->List D
 | []=>[]
 | d::ds=>flf sm φ d::flfs sm φ ds
end
theorem bX (sm:cE)(φ:Str->D):∀ds:List D,flfs sm φ ds=ds.map (flf sm φ)
 | []=>rfl
 | d::ds=>by rw[flfs,bX sm φ ds];rfl
mutual
noncomputable def putD (ψ:Str->D):D->D
 | .tup (.str n::ds)=>.tup (.str n::putDs ψ ds)
 | .lst (.str n::ds)=>.tup (.str n::putDs ψ ds)
 | .str x=>ψ x
 | d=>d
noncomputable def putDs (ψ:Str->D):List D->List D
 | []=>[]
 | d::ds=>putD ψ d::putDs ψ ds
end
section
variable {fx:cP}{sm:cE}{os:aT}
theorem tmi {P:D->Prop}(s:∀x,aZ fx sm os (.str x)->P (.str x))(t:∀n ds d,(d = .tup (.str n::ds)∨d = .lst (.str n::ds))->AT fx sm n ds.length->IsTms fx sm os ds->(∀e∈ds,P e)->P d):∀{d:D},aZ fx sm os d->P d:=by
 have go:∀(k:Nat) (d:D),sizeOf d<=k->aZ fx sm os d->P d:=by
  intro k
  induction k with
  | zero=>intro d h;cases d <;> simp at h
  | succ k i =>
   intro d h f
   have c:∀n ds,(d = .tup (.str n::ds)∨d = .lst (.str n::ds))->AT fx sm n ds.length/\IsTms fx sm os ds->P d:=λn ds e w=>t n ds d e w.1 w.2 λx g=>i x (by
    have:=List.sizeOf_lt_of_mem g
    rcases e with rfl|rfl <;> (simp at h;lia)) (gZ w.2 x g)
   match d,f with
   | .str x,f=>exact s x f
   | .tup (.str n::ds),f=>unfold aZ at f;exact c n ds (.inl rfl) f
   | .lst (.str n::ds),f=>unfold aZ at f;exact c n ds (.inr rfl) f
 exact λ{d} f=>go _ d (ac _) f
theorem mP {φ:Str->D}{n:Str}{ds:List D}{d:D}(h:d = .tup (.str n::ds)∨d = .lst (.str n::ds)):flf sm φ d=knot sm n (flfs sm φ ds):=by rcases h with rfl|rfl <;> rw[flf]
theorem GV (h:d = .tup (.str n::ds)∨d = .lst (.str n::ds)):flt sm d=knot sm n (flts sm ds):=by rcases h with rfl|rfl <;> rw[flt]
theorem sQ {ψ:Str->D}{n:Str}{ds:List D}{d:D}(h:d = .tup (.str n::ds)∨d = .lst (.str n::ds)):putD ψ d = .tup (.str n::putDs ψ ds):=by rcases h with rfl|rfl <;> rw[putD]
theorem QD {ψ:Str->D}{d:D}(h:aZ fx sm os d):flt sm (putD ψ d)=flf sm (λx=>flt sm (ψ x)) d:=by
 refine tmi (P:=λd=>flt sm (putD ψ d)=flf sm (λx=>flt sm (ψ x)) d) (λx _=>by unfold putD flf;rfl) (λn ds d hd _ _ i=>?_) h;rw[sQ hd,flt,mP hd];congr 1;have:∀c:List D,(∀e∈c,e∈ds)->flts sm (putDs ψ c)=flfs sm (λx=>flt sm (ψ x)) c:=by
  intro c
  induction c with
  | nil=>intro _;rfl
  | cons e c f=>intro g;rw[putDs,flts,flfs,i e (g e ay),f λy j=>g y (bc _ j)]
 exact this ds λ_ z=>z
theorem FC (h:aZ fx sm os d):flf sm D.str d=flt sm d:=by
 refine tmi (P:=λd=>flf sm D.str d=flt sm d) (λx _=>by unfold flf flt;rfl) (λn ds d hd _ _ i=>?_) h;rw[mP hd,GV hd];congr 1;have:∀c:List D,(∀e∈c,e∈ds)->flfs sm D.str c=flts sm c:=by
  intro c
  induction c with
  | nil=>intro _;rfl
  | cons e c f=>intro g;rw[flts,flfs,i e (g e ay),f λy j=>g y (bc _ j)]
 exact this ds λ_ z=>z
structure Gd (sm:cE)(d:D):Prop where
 fl:Fl d
 nb:Nb d
 nf:NF sm d
theorem gds (h:∀d∈ds,Gd sm d):Fls ds/\Nbs ds/\NFs sm ds:=⟨iZ λd hd=>(h d hd).fl,zQ λd hd=>(h d hd).nb,EH λd hd=>(h d hd).nf⟩
theorem CS {φ:Str->D}(so:bD fx sm)(g:∀x,aZ fx sm os (.str x)->Gd sm (φ x)){d:D}(h:aZ fx sm os d):Gd sm (flf sm φ d):=by
 refine tmi (P:=λd=>Gd sm (flf sm φ d)) (λx f=>by unfold flf;exact g x f) (λn ds d hd l _ j=>?_) h;have all:∀e∈flfs sm φ ds,Gd sm e:=λe i=>by rw[bX]at i;obtain⟨x,f,rfl⟩:=cx.mp i;exact j x f
 obtain⟨a,b,c⟩:=gds all;have ne:flfs sm φ ds≠[]:=λz=>by
  have:=congrArg List.length z;rw[bX,ae]at this;have:=nS l
  simp_all
 rw[mP hd];exact⟨sZ (bT so) a b ne,sY b ne,zW a c⟩
theorem O0 {φ:Str->D}{n z:Str}(hz:zr sm n=some z)(f:φ z = .str z)(g:∀d,Gd sm (flf sm φ d)->knot sm n [flf sm φ d]=flf sm φ d){l:List D}(c:∀d∈l,Gd sm (flf sm φ d)):flf sm φ (one n z l)=knot sm n (flfs sm φ l):=by
 match l,c with
 | [],_=>show flf sm φ (.str z)=_;unfold flf flfs;rw[f];unfold knot;rw[hz];rfl
 | [d],c=>show flf sm φ d=_;rw[flfs,flfs,g d (c d ay)]
 | d::e::l,_=>show flf sm φ (.tup (.str n::d::e::l))=_;rw[flf]
theorem GB {φ:Str->D}{n z:Str}(so:bD fx sm)(hz:zr sm n=some z)(o:φ z = .str z)(g:∀x,aZ fx sm os (.str x)->Gd sm (φ x)):∀{i:List D},Fls i->IsTms fx sm os i->(opn n z (flfs sm φ (opn n z i))).Perm (opn n z (flfs sm φ i))
 | [],_,_=>.refl _
 | d::i,⟨f,fs⟩,⟨t,ts⟩=>by
  have l:∀a b:List D,opn n z (flfs sm φ (a++b))=opn n z (flfs sm φ a)++opn n z (flfs sm φ b):=λa b=>by rw[bX,bX,bX,ba];unfold opn;rw[List.flatMap_append]
  rw[dB,l,flfs,dB];refine List.Perm.append ?_ (GB so hz o g fs ts);have c:opn n z (flfs sm φ [d])=opn1 n z (flf sm φ d):=by rw[flfs,flfs,dB];show _++[]=_;rw[bp]
  rcases iL f with⟨y,rfl,_⟩|⟨m,j,rfl,r⟩
  ·unfold opn1;dsimp only;split
   ·rename_i h;have e:y=z:=eq_of_beq (show(y == z)=true from h);subst e;show([]:List D).Perm _;unfold flf;rw[o];show([]:List D).Perm (opn1 n y (.str y));unfold opn1;dsimp only;rw[ai h]
   ·rw[c];exact .refl _
  ·by_cases e:m=n
   ·subst e;rw[show opn1 m z (.tup (.str m::j))=j by unfold opn1;dsimp only;rw[ai rfl],flf];unfold aZ at t;have all:∀e∈flfs sm φ j,Gd sm e:=λe p=>by rw[bX]at p;obtain⟨x,q,rfl⟩:=cx.mp p;exact CS so g (gZ t.2 x q)
    exact(IA hz (gds all).2.2).symm
   ·rw[show opn1 n z (.tup (.str m::j))=[.tup (.str m::j)]by unfold opn1;dsimp only;rw[ab e],c]
theorem QE {φ:Str->D}(so:bD fx sm)(ho:∀x∈os,bO x)(l:∀r∈sm,φ r.2 = .str r.2)(g:∀x,aZ fx sm os (.str x)->Gd sm (φ x)){d:D}(h:aZ fx sm os d):flf sm φ (flt sm d)=flf sm φ d:=by
 refine tmi (P:=λd=>flf sm φ (flt sm d)=flf sm φ d) (λx _=>by rw[show flt sm (.str x) = .str x by unfold flt;rfl]) (λn ds d hd E f q=>?_) h;rw[GV hd,mP hd];have B:flfs sm φ (flts sm ds)=flfs sm φ ds:=by rw[bX,gJ,cm,bX];exact List.map_congr_left λe u=>q e u
 have m:=tD so ho f;have C:=hZ (bT so) (pT so ho f).1;rw[←B];cases hz:zr sm n with
 | none=>unfold knot;rw[hz];dsimp only;rw[flf];unfold knot;rw[hz]
 | some z =>
  obtain⟨r,t,_,e⟩:=Q1 hz;have o:φ z = .str z:=e ▸ l r t;have pm:=aX (opn n z (flts sm ds));have i:∀x:D,Gd sm x->knot sm n [x]=x:=λx c=>by refine(xQ (ps:=[x]) (qs:=[x,.str z]) hz ⟨c.fl,trivial⟩ ?_).trans (CD (n:=n) hz c.fl c.nf (.inl rfl));rw[dB,dB,dB,show opn1 n z (.str z)=[]by unfold opn1;simp[eqD]];simp[opn]
  have j:∀x∈cC (opn n z (flts sm ds)),aZ fx sm os x:=λx c=>by obtain⟨y,A,v⟩:=List.mem_flatMap.mp (pm.mem_iff.mp c);exact GC (gZ m y A) x v
  have p:∀x∈cC (opn n z (flts sm ds)),Gd sm (flf sm φ x):=λx c=>CS so g (j x c);rw[show knot sm n (flts sm ds)=one n z (cC (opn n z (flts sm ds)))by unfold knot;rw[hz],O0 hz o (λd hd=>i _ hd) p];refine xQ hz (gds (sm:=sm) λx c=>?_).1 ?_
  ·rw[bX]at c;obtain⟨w,s,rfl⟩:=cx.mp c;exact p w s
  ·refine List.Perm.trans (LG ?_) (GB so hz o g C.1 m);rw[bX,bX];exact pm.map _
end
section
variable {P:Program}{w:World}{K:PySem.W.Frag}{mg:jB}{base:Heap}
noncomputable def pts:D->List D
 | .tup (.str _::ds)=>ds
 | .lst (.str _::ds)=>ds
 | _=>[]
noncomputable def stk:List D->List D
 | []=>[]
 | x::S=>x::(stk S).drop (pts x).length
mutual
theorem FS:∀{d:D},Wk d->∀S:List D,stk (wlk d++S)=d::stk S
 | .str x,_,S=>by unfold wlk;show stk (.str x::S)=_;rw[stk];rfl
 | .tup (.str n::ds),h,S=>by
  unfold Wk at h;rw[wlk,List.cons_append,stk,oA h S];show _::(ds++stk S).drop ds.length=_;rw[List.drop_left]
 | .lst (.str n::ds),h,S=>by
  unfold Wk at h;rw[wlk,List.cons_append,stk,oA h S];show _::(ds++stk S).drop ds.length=_;rw[List.drop_left]
 | .non,h,_ | .bl _,h,_ | .int _,h,_ | .tup [],h,_ | .lst [],h,_ | .tup (.non::_),h,_ | .tup (.bl _::_),h,_ | .tup (.int _::_),h,_ | .tup (.tup _::_),h,_ | .tup (.lst _::_),h,_ | .lst (.non::_),h,_ | .lst (.bl _::_),h,_ | .lst (.int _::_),h,_ | .lst (.tup _::_),h,_ | .lst (.lst _::_),h,_=>by unfold Wk at h;exact absurd h id
theorem oA:∀{ds:List D},Wks ds->∀S:List D,stk (wlks ds++S)=ds++stk S
 | [],_,S=>rfl
 | d::ds,⟨a,b⟩,S=>by rw[wlks,cp,FS a,oA b];rfl
end
mutual
theorem wQ:∀{d:D},Wk d->∀{pre S:List D} {x:D},wlk d=pre++x::S->∃rest,S=wlks (pts x)++rest
 | .str y,_,pre,S,x,e=>by
  unfold wlk at e;cases pre with
  | nil=>cases e;exact⟨[],rfl⟩
  | cons p pre=>have:=congrArg List.length e;simp at this
 | .tup (.str n::ds),h,pre,S,x,e=>by
  unfold Wk at h;rw[wlk]at e;cases pre with
  | nil=>cases e;exact⟨[],by simp[pts]⟩
  | cons p pre=>injection e with _ e;exact kN h e
 | .lst (.str n::ds),h,pre,S,x,e=>by
  unfold Wk at h;rw[wlk]at e;cases pre with
  | nil=>cases e;exact⟨[],by simp[pts]⟩
  | cons p pre=>injection e with _ e;exact kN h e
 | .non,h,_,_,_,_ | .bl _,h,_,_,_,_ | .int _,h,_,_,_,_ | .tup [],h,_,_,_,_ | .lst [],h,_,_,_,_ | .tup (.non::_),h,_,_,_,_ | .tup (.bl _::_),h,_,_,_,_ | .tup (.int _::_),h,_,_,_,_ | .tup (.tup _::_),h,_,_,_,_ | .tup (.lst _::_),h,_,_,_,_ | .lst (.non::_),h,_,_,_,_ | .lst (.bl _::_),h,_,_,_,_ | .lst (.int _::_),h,_,_,_,_ | .lst (.tup _::_),h,_,_,_,_ | .lst (.lst _::_),h,_,_,_,_=>by unfold Wk at h;exact absurd h id
theorem kN:∀{ds:List D},Wks ds->∀{pre S:List D} {x:D},wlks ds=pre++x::S->∃rest,S=wlks (pts x)++rest
 | [],_,pre,S,x,e=>by have:=congrArg List.length e;simp[wlks]at this
 | d::ds,⟨a,b⟩,pre,S,x,e=>by
  rw[wlks]at e;rcases List.append_eq_append_iff.mp e with⟨m,f,c⟩|⟨m,f,c⟩
  ·exact kN b c
  ·cases m with
   | nil=>exact kN b (pre:=[]) (by simpa using c.symm)
   | cons y m =>
    injection c with i h;subst i;obtain⟨rest,g⟩:=wQ a f;exact⟨rest++wlks ds,by rw[h,g];show(wlks (pts x)++rest)++wlks ds=_;rw[cp]⟩
end
theorem FT:∀{S:List D} {y:D},y∈stk S->y∈S
 | x::S,y,h=>by
  rw[stk]at h;obtain rfl|h:=cu.mp h
  ·exact ay
  ·exact bc _ (FT (List.mem_of_mem_drop h))
theorem FU:∀S:List D,(stk S).length<=S.length
 | []=>ac _
 | x::S=>by rw[stk,au,au,bx];have:=FU S;lia
theorem AF (h:Fls l):Fls l.reverse:=iZ λd hd=>dU h d (List.mem_reverse.mp hd)
theorem CQ (h:Fls l)(k:Nat):Fls (l.drop k):=iZ λd hd=>dU h d (List.mem_of_mem_drop hd)
theorem MS (h:Fls l)(k:Nat):Fls (l.take k):=iZ λd hd=>dU h d (List.mem_of_mem_take hd)
theorem JI (sm:cE)(φ:Str->D)(l:List D)(k:Nat):flfs sm φ (l.drop k)=(flfs sm φ l).drop k:=by rw[bX,bX,List.map_drop]
structure Sub (d x:D):Prop where
 tm:Tm x
 sz:sz x<=sz d
 nd:nds x<=nds d
 dp:depD x<=depD d
mutual
theorem yY:∀{d:D},Tm d->∀x∈wlk d,Sub d x
 | .str y,h,x,f=>by unfold wlk at f;rw[cs.mp f];exact⟨h,ac _,ac _,ac _⟩
 | .tup (.str n::ds),h,x,f=>by
  rw[wlk]at f;obtain rfl|f:=cu.mp f
  ·exact⟨h,ac _,ac _,ac _⟩
  ·unfold Tm at h;obtain⟨a,b,c,e⟩:=tT h.2 x f;exact⟨a,by rw[sz];lia,by rw[nds];lia,by rw[depD,depDs];lia⟩
 | .lst (.str n::ds),h,x,f=>by
  rw[wlk]at f;obtain rfl|f:=cu.mp f
  ·exact⟨h,ac _,ac _,ac _⟩
  ·unfold Tm at h;obtain⟨a,b,c,e⟩:=tT h.2 x f;exact⟨a,by rw[sz];lia,by rw[nds];lia,by rw[depD,depDs];lia⟩
 | .non,h,_,_ | .bl _,h,_,_ | .int _,h,_,_ | .tup [],h,_,_ | .lst [],h,_,_ | .tup (.non::_),h,_,_ | .tup (.bl _::_),h,_,_ | .tup (.int _::_),h,_,_ | .tup (.tup _::_),h,_,_ | .tup (.lst _::_),h,_,_ | .lst (.non::_),h,_,_ | .lst (.bl _::_),h,_,_ | .lst (.int _::_),h,_,_ | .lst (.tup _::_),h,_,_ | .lst (.lst _::_),h,_,_=>by unfold Tm at h;exact absurd h id
theorem tT:∀{ds:List D},Tms ds->∀x∈wlks ds,Tm x/\sz x<=szs ds/\nds x<=ndss ds/\depD x<=depDs ds
 | d::ds,⟨a,b⟩,x,c=>by
  rw[wlks]at c;obtain c|c:=cw.mp c
  ·obtain⟨e,h,g,f⟩:=yY a x c;exact⟨e,by rw[szs];lia,by rw[ndss];lia,by rw[depDs];lia⟩
  ·obtain⟨e,h,g,f⟩:=tT b x c;exact⟨e,by rw[szs];lia,by rw[ndss];lia,by rw[depDs];lia⟩
end
mutual
theorem yU:∀{d:D},Tm d->Wk d
 | .str x,h=>trivial
 | .tup (.str n::ds),h=>by unfold Wk;unfold Tm at h;exact n8 h.2
 | .lst (.str n::ds),h=>by unfold Wk;unfold Tm at h;exact n8 h.2
 | .non,h | .bl _,h | .int _,h | .tup [],h | .lst [],h | .tup (.non::_),h | .tup (.bl _::_),h | .tup (.int _::_),h | .tup (.tup _::_),h | .tup (.lst _::_),h | .lst (.non::_),h | .lst (.bl _::_),h | .lst (.int _::_),h | .lst (.tup _::_),h | .lst (.lst _::_),h=>by unfold Tm at h;exact absurd h id
theorem n8:∀{ds:List D},Tms ds->Wks ds
 | [],_=>trivial
 | _::_,⟨a,b⟩=>⟨yU a,n8 b⟩
end
theorem OZ (n z:Str)(l:List D):nds (one n z l)<=1+ndss l:=by
 unfold one;split
 ·show nds (.str z)<=_;unfold nds;lia
 ·rw[ndss,ndss];lia
 ·rw[nds];lia
theorem IL (p:l.Perm m):ndss l=ndss m:=by
 induction p with
 | nil=>rfl
 | cons x _ c=>rw[ndss,ndss,c]
 | swap x y l=>rw[ndss,ndss,ndss,ndss];lia
 | trans _ _ a b=>exact a.trans b
theorem MF (sm:cE)(n:Str)(ps:List D):nds (knot sm n ps)<=1+ndss ps:=by
 unfold knot;split
 ·rw[nds];lia
 ·rename_i z _;have c:=OZ n z (cC (opn n z ps));rw[IL (aX _)]at c;have d:=zK n z ps
  lia
theorem tm0i {P:D->Prop}(s:∀x,Tm (.str x)->P (.str x))(t:∀n ds d,(d = .tup (.str n::ds)∨d = .lst (.str n::ds))->ds≠[]->(∀e∈ds,P e)->P d)(h:Tm d):P d:=by
 have go:∀(k:Nat) (d:D),sizeOf d<=k->Tm d->P d:=by
  intro k
  induction k with
  | zero=>intro d h;cases d <;> simp at h
  | succ k j =>
   intro d h f;rcases yV f with⟨x,rfl,_⟩|⟨n,ds,hd,ne,c⟩
   ·exact s x f
   ·refine t n ds d hd ne λe g=>?_;obtain⟨i,hi⟩:=List.getElem?_of_mem g;have:=List.sizeOf_lt_of_mem g;exact j e (by rcases hd with rfl|rfl <;> (simp at h;lia)) (c.get hi)
 exact go _ d (ac _) h
structure UD (φ:Str->D):Prop where
 fl:∀x,Tm (.str x)->Fl (φ x)/\Nb (φ x)
 sz:∀x,sz (φ x)<=7
 nd:∀x,nds (φ x)<=70
 dp:∀x,depD (φ x)<=8
structure Fd (sm:cE)(φ:Str->D)(d:D):Prop where
 fl:Fl (flf sm φ d)
 nb:Nb (flf sm φ d)
 sz:sz (flf sm φ d)<=7 * sz d
 nd:nds (flf sm φ d)<=70 * nds d
 dp:depD (flf sm φ d)<=depD d+8
structure VS (sm:cE)(φ:Str->D)(ds:List D):Prop where
 fl:Fls (flfs sm φ ds)
 nb:Nbs (flfs sm φ ds)
 sz:szs (flfs sm φ ds)<=7 * szs ds
 nd:ndss (flfs sm φ ds)<=70 * ndss ds
 dp:depDs (flfs sm φ ds)<=depDs ds+8
theorem fds {sm:cE}{φ:Str->D}:∀{ds:List D},(∀d∈ds,Fd sm φ d)->VS sm φ ds:=by
 intro ds
 induction ds with
 | nil=>exact λ_=>⟨trivial,trivial,ax _,ax _,ax _⟩
 | cons d ds c =>
  intro h;obtain⟨a1,a2,m,l,j⟩:=h d ay;obtain⟨b1,b2,i,g,f⟩:=c λx e=>h x (bc _ e);refine⟨⟨a1,b1⟩,⟨a2,b2⟩,?_,?_,?_⟩
  ·rw[flfs,szs,szs];lia
  ·rw[flfs,ndss,ndss];lia
  ·rw[flfs,depDs,depDs];lia
theorem uA (hd:d = .tup (.str n::ds)∨d = .lst (.str n::ds)):sz d=max 1 (szs ds)/\nds d=1+ndss ds/\depD d=depDs ds+1/\pts d=ds:=by
 have e:depDs (.str n::ds)=depDs ds:=by rw[depDs,show depD (.str n)=0 from rfl];lia
 rcases hd with rfl|rfl
 ·exact⟨by rw[sz],by rw[nds],by rw[depD,e],rfl⟩
 ·exact⟨by rw[sz],by rw[nds],by rw[depD,e],rfl⟩
theorem GY {sm:cE}{φ:Str->D}(hz:∀r∈sm,r.2=("" : Str)∨Fl (.str r.2))(b:UD φ){d:D}(h:Tm d):Fd sm φ d:=by
 refine tm0i (P:=λd=>Fd sm φ d) (λx j=>?_) (λn ds d hd ne i=>?_) h
 ·have e:flf sm φ (.str x)=φ x:=by unfold flf;rfl
  have g:sz (.str x)=1:=by rw[sz] <;> simp
  have f:nds (.str x)=1:=by unfold nds;rfl
  obtain⟨f1,f2⟩:=b.fl x j;exact⟨by rw[e];exact f1,by rw[e];exact f2,by rw[e,g];exact b.sz x,by rw[e,f];exact b.nd x,by rw[e];exact aq (b.dp x) (Nat.le_add_left _ _)⟩
 ·obtain⟨a1,a2,t,s,q⟩:=fds i;obtain⟨g,f,l,_⟩:=uA hd;have e:=mP (sm:=sm) (φ:=φ) hd;have c:flfs sm φ ds≠[]:=by rw[bX];exact λz=>ne (List.map_eq_nil_iff.mp z)
  have p:=zV sm n (flfs sm φ ds);have o:=MF sm n (flfs sm φ ds);have m:=uT sm n (flfs sm φ ds);exact⟨by rw[e];exact sZ hz a1 a2 c,by rw[e];exact sY a2 c,by rw[e,g];lia,by rw[e,f];lia,by rw[e,l];lia⟩
theorem MU {sm:cE}{φ:Str->D}(hz:∀r∈sm,r.2=("" : Str)∨Fl (.str r.2))(b:UD φ){ds:List D}(h:∀d∈ds,Tm d):VS sm φ ds:=fds λd hd=>GY hz b (h d hd)
def NB (H:Hp)(kv:List (cM×V))(φ:Str->D):Prop:=∀x:Str,aY H (φ x) ((valV kv (.inr x)).getD (.str x))
def spFW (K:PySem.W.Frag)(C:Addr):Sp:=λvs H Q _=>∃(e fl f g:Addr) (fx:cP) (sm:cE) (φ:Str->D) (kv:List (cM×V)) (d:D) (v:V),vs=[v,.ref e,.ref fl]/\H e=some (.dK kv)/\NB H kv φ/\UD φ/\DF H fl f g/\gN K C fx sm H g/\aY H d v/\Tm d/\(∀r∈sm,r.2=("" : Str)∨Fl (.str r.2))/\sz d<=50/\nds d<=1000/\depD d<=40 /\
 ∀(c:V) (H':Hp),aG H H'->aY H' (flf sm φ d) c->Q c H'
def V9 (v:V)(e fl m l:Addr)(sm:cE)(φ:Str->D)(W:List D)(d:List V)(H:Hp)(i:Nat)(σ:St)(c:Hp):Prop:=∃(us:List V) (o4 o5:Option V),σ=[some v,some (.ref e),some (.ref fl),some (.ref m),o4,o5]/\c m=some (.lst us)/\aG H c/\c l=some (.lst d)/\Reps c (flfs sm φ (stk (W.drop (W.length - i)))).reverse us
def WA (m l p:Addr)(e:List V)(o:HO)(fs:List D)(H:Hp)(j:Nat)(d:List V)(σ:St)(c:Hp):Prop:=∃(us:List V) (o0:Option V),σ=[o0,some (.ref m)]/\c m=some (.lst us)/\aG H c/\c l=some (.lst e)/\c p=some o/\Reps c (fs.drop j).reverse us/\Reps c (fs.take j) d
theorem UN (F:fP K "from_within" "from_within" fF f fd)(T:Txt mg)(t:dG P w K mg base bJ 1 "walked" tU)(c:dG P w K mg base bJ 6 "flat_of_parts" (iS K C)):cA P w K mg base bJ 8 f fd nA (spFW K C):=by
 refine F.ok fZ (λvs H Q E h=>?_) (λcdv A outer s H vs Q E hr h=>?_)
 ·obtain⟨fi,fl,c0,g,fx,sm,φ,kv,d,v,rfl,_⟩:=h;rfl
 ·obtain⟨fi,fl,c0,g,fx,sm,φ,kv,d,v,rfl,hfi,ph,pb,la,sg,rep,tm,hz,s60,n1000,d50,q⟩:=h;have hu:=hr.units
  refine⟨_,(aD (aW (i:=3) fZ.nd rfl (Or.inr rfl) (cF aB))
   (aD (eE dh rfl (zG K rfl rfl T.n_reversed (aA (aL t (hr.mono (by decide)) pass0 rfl (aA (pv 0) aB)) aB)) (bP (i:=4) fZ.nd rfl (Or.inl rfl)) (aF (bH (aV K rfl (aK aM rfl T.n_isinstance rfl (aA (pv 4) (aA (bZ (v:=V.ty "str") rfl T.n_str rfl rfl) aB))) (λ_=>rfl)) (aF (cU (kH de dg df fU (pv 3) (aA (uI (aj (bS (by decide) _) hu) (pv 1) (pv 4) (pv 4) ⟨rfl,rfl,rfl,rfl⟩) aB)))) (aD (iQ (i:=5) fZ.nd rfl rfl rfl rfl (bF.by (N:=j5) (names:=(aH fF).names) (N':=["part","made"]) (src:=[none,some 3]) (by decide +kernel) rfl rfl) (cV K rfl (fH kQ (pv 4) (eG aJ) fK)) (λ_ _ _ _=>(bP (i:=0) (show List.Nodup (["part","made"]:aT)by decide +kernel) rfl (Or.inl rfl))) (λ_ _ _ _=>eF) (λ_ _ _ _=>(OQ K rfl de PySem.F.slot_list_pop PySem.F.type_list_pop EI (pv 1))))
   (aF (cU (kH de dg df fU (pv 3) (aA (D9 (i:=2) rfl (Or.inl rfl) c (hr.mono (by decide)) (aA (bM cY (pv 4) aJ (λ_ _=>rfl)) (aA (pv 5) aB))) aB))))))))
   (aF (aO (bM cY (pv 3) aJ (λ_ _=>rfl)))))),?_⟩
  try dsimp only[cxOf,Cx.nox]
  clear hr F T hu t c;simp only[tFor_fn,tComp_fn];refine⟨show 0<=sizeLine by decide,λm hm=>?_⟩;change tSeq _ _ _ _ (upd H m (.lst []));have s1:aG H (upd H m (.lst [])):=aG.upd hm;have hm1:upd H m (.lst []) m=some (.lst []):=upd_same;generalize upd H m (.lst [])=H1 at s1 hm1⊢;refine⟨_,rfl,d,v,H,rfl,s1,rep,yU tm,aq n1000 (by decide),λl ws H2 s2 hl h2 rws=>⟨l,ws,rfl,h2,?_⟩⟩;have lw:=Reps.len rws;have lk:=sM d;have hml:m≠l:=λz=>by rw[z,hl]at hm1;cases hm1
  refine MQ ws (V9 v fi fl m l sm φ (wlk d) ws H) ⟨[],none,none,rfl,s2 _ _ hm1,s1.trans s2,h2,by rw[Nat.sub_zero,List.drop_length];rfl⟩ (λi σ H3 _ ⟨_,_,_,_,_,_,h,_⟩=>h) ?_ ?_
  ·rintro i x σ H3 hi hx ⟨us,o4,o5,rfl,h3,X,hl3,ru⟩;obtain⟨e,he,rx⟩:=Reps.get rws hx;rw[lw]at hi he;have hlt:(wlk d).length - 1 - i<(wlk d).length:=by lia
   have G:(wlk d).drop ((wlk d).length - (i+1))=e::(wlk d).drop ((wlk d).length - i):=by have e1:(wlk d)[(wlk d).length - 1 - i]=e:=(cr.mp he).2;rw[show(wlk d).length - (i+1)=(wlk d).length - 1 - i by lia,List.drop_eq_getElem_cons hlt,e1,show(wlk d).length - 1 - i+1=(wlk d).length - i by lia]
   have R:wlk d=(wlk d).take ((wlk d).length - (i+1))++e::(wlk d).drop ((wlk d).length - i):=by rw[←G,List.take_append_drop]
   obtain⟨rest,L⟩:=wQ (yU tm) R;have U:=yY tm e (bj he);have inS:∀y∈(wlk d).drop ((wlk d).length - i),y∈wlk d:=λy hy=>List.mem_of_mem_drop hy;have lS:((wlk d).drop ((wlk d).length - i)).length<=1000:=by rw[bx];lia
   generalize (wlk d).drop ((wlk d).length - i)=S at G R L inS lS ru;have W:Fls (flfs sm φ (stk S)):=iZ λy hy=>by rw[bX]at hy;obtain⟨z,hz1,rfl⟩:=cx.mp hy;exact(GY hz pb (yY tm z (inS z (FT hz1))).tm).fl
   have lu:=Reps.len ru;rw[List.length_reverse,bX,ae]at lu;have ls:(stk S).length<=1000:=aq (FU S) lS;rcases yV U.tm with⟨y,rfl,_⟩|⟨n,ds,hd,dne,tms⟩
   ·cases (show x = .str y from rx);refine⟨_,rfl,.str y,.ty "str",true,rfl,rfl,true,rfl,?_⟩;refine⟨_,rfl,tyL h3,_,rfl,fi,rfl,.inl ⟨_,.inl (X _ _ hfi)⟩,_,rfl,_,rfl,_,jE.k (k:=.inr y) (X _ _ hfi),m,us,_,rfl,rfl,h3,aj (m:=1000) (by lia) (by decide),us++[_],_,_,rfl,upd_same,λb o hb=>by rw[aC (aE hb hm)];exact X _ _ hb,by rw[aC hml.symm];exact hl3,?_⟩;rw[G,stk];show Reps _ (flfs sm φ (.str y::(stk S).drop 0)).reverse _;rw[List.drop_zero,flfs,List.reverse_cons,show flf sm φ (.str y)=φ y by unfold flf;rfl];exact Reps.snoc (aY.tups (bC.lst h3) (pb.fl y U.tm).1 (aY.same X (ph y))) (Reps.tups (bC.lst h3) (AF W) ru)
   ·obtain⟨va,B,rfl,hbb,hseq,lv⟩:∃va B,x = .ref va/\isV H3 (.ref va) (.ty "str")=some false/\eW H va (.str n::B)/\B.length=ds.length:=by
     rcases hd with rfl|rfl
     ·obtain⟨a,vs,rfl,ha,_,B,rfl,e1,r⟩:=rx;cases e1;exact⟨a,B,rfl,lZ (X _ _ ha),.inr ha,Reps.len r⟩
     ·obtain⟨a,vs,rfl,ha,_,B,rfl,e1,r⟩:=rx;cases e1;exact⟨a,B,rfl,qM (X _ _ ha),.inl ha,Reps.len r⟩
    have hfe:=mP (sm:=sm) (φ:=φ) hd;obtain⟨hsz,hnd,hdp,hpe⟩:=uA hd;rw[hpe]at L;have wds:Wks ds:=n8 tms;have hst:stk S=ds++stk rest:=by rw[L,oA wds]
    have hfs:flfs sm φ (stk S)=flfs sm φ ds++flfs sm φ (stk rest):=by rw[hst,bX,ba,←bX,←bX]
    have lds:(flfs sm φ ds).length=ds.length:=by rw[bX,ae]
    have lfs:(flfs sm φ (stk S)).length<=1000:=by rw[bX,ae];exact ls
    refine⟨_,rfl,.ref va,.ty "str",false,rfl,hbb,false,rfl,?_⟩;refine⟨_,rfl,(1:Int),rfl,va,_,rfl,hseq.same X,λ_ h=>by have:=h.1;simp[HT.sIx]at this,λp o hp ho=>?_⟩;rw[tH]at ho;refine⟨p,B,rfl,by rcases ho with⟨rfl,_⟩|⟨rfl,_⟩;exact .inl upd_same;exact .inr upd_same,λJ hJ=>?_⟩;have sp:aG H3 (upd H3 p o):=aG.upd hp;have hpo:upd H3 p o p=some o:=upd_same;have hmp:m≠p:=aE h3 hp;have hlp:l≠p:=aE hl3 hp;generalize upd H3 p o=H4 at sp hpo hJ⊢;refine cR hJ (WA m l p ws o (flfs sm φ (stk S)) H) ⟨us,none,rfl,sp _ _ h3,X.trans sp,sp _ _ hl3,hpo,by rw[List.drop_zero];exact Reps.same sp ru,rfl⟩ (λj O σ H' _ ⟨_,_,_,_,_,_,h,_⟩=>by rw[h,hpo]) ?_ ?_
    ·rintro j y O σ H5 hy ⟨Y,o0,rfl,h5,s5,hl5,hp5,r5,I⟩;have hj:j<ds.length:=by have:=(cr.mp hy).1;lia
     have hj2:j<(flfs sm φ (stk S)).length:=by rw[hfs,av];lia
     rw[List.drop_eq_getElem_cons hj2,List.reverse_cons]at r5;obtain⟨us6,u,rfl,r6,ru6⟩:=jL r5;have la':=Reps.len I;rw[bv]at la';have fu:Fl (flfs sm φ (stk S))[j]:=dU W _ (List.getElem_mem hj2);refine⟨_,rfl,tyL h5,m,_,u,rfl,rfl,h5,by simp,aj (m:=1000) (by lia) (by decide),?_⟩;rw[List.dropLast_concat];have tt:bC H5 (upd H5 m (.lst us6)):=bC.lst h5;refine⟨us6,_,rfl,upd_same,λb o hb=>by rw[aC (aE hb hm)];exact s5 _ _ hb,by rw[aC hml.symm];exact hl5,by rw[aC hmp.symm];exact hp5,Reps.tups tt (AF (CQ W (j+1))) r6,?_⟩;rw[take_snoc (az hj2)];exact Reps.snoc (aY.tups tt fu ru6) (Reps.tups tt (MS W j) I)
    ·rintro O σ H5 ⟨Y,o0,rfl,h5,s5,hl5,hp5,r5,I⟩ p6 hp6;have e1:(flfs sm φ (stk S)).take B.length=flfs sm φ ds:=by rw[hfs,lv,←lds,List.take_left]
     rw[e1]at I;have s6:aG H5 (upd H5 p6 (.lst O)):=aG.upd hp6;have h66:upd H5 p6 (.lst O) p6=some (.lst O):=upd_same;have hmp6:m≠p6:=aE h5 hp6;generalize upd H5 p6 (.lst O)=H6 at s6 h66⊢;have Z:=s5.trans s6;have ix0:ixV H6 (.ref va) (.int 0)=some (.str n):=by
      rcases hseq.same Z with e|e
      ·rw[ixV_l e,atI_zero]
      ·rw[ixV_t e,atI_zero]
     have fd:=MU (sm:=sm) hz pb λx hx=>(List.getElem?_of_mem hx).elim λi hi=>tms.get hi;have b1:=fd.sz;have b2:=fd.nd;have b3:=fd.dp;have c1:=U.sz;have c2:=U.nd;have c3:=U.dp;refine⟨_,rfl,tyL (s6 _ _ h5),fl,rfl,_,rfl,.str n,ix0,_,rfl,c0,g,fx,sm,n,p6,flfs sm φ ds,O,rfl,la.same Z,sg.same Z,h66,Reps.same s6 I,fd.fl,by lia,by lia,by lia,λv' H7 s7 r7=>?_⟩;have h7:=s7 _ _ (s6 _ _ h5);have l5:=Reps.len r5;rw[List.length_reverse,bx]at l5;refine⟨m,Y,v',rfl,rfl,h7,aj (m:=1000) (by lia) (by decide),Y++[v'],_,_,rfl,upd_same,λb o hb=>by rw[aC (aE hb hm)];exact s7 _ _ (Z _ _ hb),by rw[aC hml.symm];exact s7 _ _ (s6 _ _ hl5),?_⟩;have tt:bC H7 (upd H7 m (.lst (Y++[v']))):=bC.lst h7;rw[G,stk,flfs,List.reverse_cons,hpe,JI,hfe];rw[lv]at r5;have fe:=(GY (φ:=φ) hz pb U.tm).fl;rw[hfe]at fe;exact Reps.snoc (aY.tups tt fe r7) (Reps.tups tt (AF (CQ W ds.length)) (Reps.same (s6.trans s7) r5))
  ·rintro σ H3 ⟨us,o4,o5,rfl,h3,X,hl3,ru⟩;rw[lw,Nat.sub_self,List.drop_zero]at ru;have e:=FS (yU tm) [];rw[bp]at e;rw[e]at ru;obtain⟨u,r,rfl,r1,r2⟩:=ru;cases (show r=[]from r2);exact⟨_,rfl,u,by rw[ixV_l h3,atI_zero],q u H3 X r1⟩
end
end Lw
namespace L2
open PySem PySem.Spec PyProof.Rows PySem.W
theorem aN.grow {X:Cx}{d:cW}{σ:L2.St}{H:Hp}{s:Shared}{P:Addr}{ps more:n5}{h':Heap}{t':Nat}(I:aN X d σ H s)(i:H P=some (.tbl ps))(g:Heap.ExtBut P s.heap h')(j:h'.get? P=some (tabObj (ps++more))):aN X d σ (upd H P (.tbl (ps++more))) {s with heap:=h',toks:=t'}:=by
 have h:∀b,H b=none->b≠P:=λb e z=>by rw[z,i]at e;cases e
 have f:∀b u,H b=some u->(∀qs,u≠.tbl qs)->b≠P:=λb u e z w=>by rw[w,i]at e;cases e;exact z _ rfl
 refine I.un ⟨λb o e n _ _=>g b o (h b n) e,λb o e n _ _=>⟨o.slots,g b o (h b n) e⟩,λb o e n _=>by rw[aC (h b n)];exact n,λb o e _=>?_,λb xs e=>?_,λb o u e=>?_,λb qs e=>?_⟩ (λb u e=>?_)
 ·by_cases z:b=P
  ·subst z;exact⟨_,j⟩
  ·exact⟨o,g b o z e⟩
 ·rw[aC (f b _ e λ_=>by simp)];exact e
 ·rw[aC (f b _ e λ_=>by simp)];exact e
 ·by_cases z:b=P
  ·subst z;rw[i]at e;cases e;exact⟨more,upd_same⟩
  ·exact⟨#[],by rw[aC z,e];simp⟩
 ·by_cases z:b=P
  ·subst z;rw[upd_same]at e;cases e;exact j
  ·rw[aC z]at e;refine(I.hok b u e).stay (λc o hc q=>g c o ?_ q) (λc q=>by rw[aC (f c _ q λ_=>by simp)];exact q) (λc xs q=>by rw[aC (f c _ q λ_=>by simp)];exact q);rcases hc with rfl|hc
   ·exact z
   ·exact f c _ hc λ_=>by simp
end L2
namespace Lw
open PySem PySem.Spec PyProof.Rows PySem.W L2
noncomputable def S6 (e:Expr):Pos:=match e with
 | .Lambda _ _ _ p=>p
 | _=>⟨0,0,0,0⟩
noncomputable abbrev xL:Pos:=S6 (lamOf cQ)
def LT (P:Addr)(H:Hp):Prop:=H P=some (.tbl #[])∨∃(c:Addr) (oc':Obj) (vsc:n5) (tq:Tok),H P=some (.tbl #[rawInt xL.line,rawInt xL.col,.ref c])/\H c=some (pinO c oc')/\oc'.data = .fields vsc/\vsc[1]?=some (.str qL tq)
theorem LT.same (h:LT P H)(s:aG H H'):LT P H':=by
 rcases h with h|⟨j,d,c,e,i,g,f⟩
 ·exact .inl (s _ _ h)
 ·exact .inr ⟨j,d,c,e,s _ _ i,s _ _ g,f⟩
def Bm (mg:jB)(base:Heap):Prop:=∃c o,mg "__builtins__" = some (.ref c)/\c≠builtinsNs/\c≠mainGlobals/\base.get? c=some o/\o.cls = .type "module"/\o.dict=some builtinsNs/\o.data = .plain
def RV (P c:Addr):TE:=λσ H Q=>LT P H/\∀(fl d:Addr) (pm ctv:Value) (oc':Obj) (vsc:n5) (tq:Tok) (H':Hp),bU P H H'->LT P H'->H' fl=some (pinO fl (oL c d pm ctv))->H' d=some (pinO d oc')->oc'.data = .fields vsc->vsc[1]?=some (.str qL tq)->H c=none->H' c=none->Q (.ref fl) H'
theorem LA (x:closureFor scL X.env=pure [(("signs" : Str),c0)])(i:X.env.cells.lookup ("signs" : Str)=some c0)(l:X.env.code = .ref c)(hq:X.env.qual++"<lambda>" = qL)(hC:∀h,X.K.In h->CodeHd h c P)(hB:Bm X.mg X.base):PE X (.Lambda pL bL scL xL) (RV P c0):=by
 intro p s σ H Q I h;obtain⟨lt,q⟩:=h;have hg:s.heap.Ns mainGlobals X.mg:=I.mod.glob.keeps I.bk;have L:∃ps,H P=some (.tbl ps):=by
  rcases lt with h|⟨_,_,_,_,h,_⟩
  ·exact⟨_,h⟩
  ·exact⟨_,h⟩
 obtain⟨ps,t⟩:=L;have B:s.heap.get? P=some (tabObj ps):=I.hok P _ t;have nb:∀b o,X.base.get? b=some o->b≠P:=λb o e z=>by have:=(I.bs b o e).2;rw[z,t]at this;cases this
 have J:mainGlobals≠P:=by obtain⟨o,es,ep,e,_⟩:=I.mod.glob;exact nb _ _ e
 have hb:s.heap.BuiltinsAt X.mg P:=by obtain⟨bm,o,b1,b2,b3,b4,b5,b6,b7⟩:=hB;exact⟨bm,o,b1,b2,b3,nb _ _ b4,I.bk _ _ b4,b5,b6,b7⟩
 have Y:=I.freeC _ _ i;refine kla_eval rfl ?_;rw[hq];rcases lt with lt|⟨d,g,j,u,lt,l2,l3,l4⟩
 ·rw[t]at lt;cases lt;refine kla_makeFunction x I.ok.glob hg l (hC _ I.kIn) B trivial rfl J hb λd f h' tk hx m w v F=>?_;obtain⟨c2,g,j,u,e2,G,hd,hv⟩:=v;cases e2;have I1:aN X p σ (upd H P (.tbl (#[] ++ #[rawInt xL.line,rawInt xL.col,.ref d]))) {s with heap:=h',toks:=tk}:=I.grow t hx F;have W:P≠d:=λz=>by have:=bd B;rw[z]at this;exact cb _ (bg this m)
  have nc':H d=none:=I.hok.fresh m;have fc:=I.fpOk (H':=upd H P (.tbl (#[] ++ #[rawInt xL.line,rawInt xL.col,.ref d]))) m (by rw[aC W.symm];exact nc');have T:=I1.adopt (o:=pinO d g) fc (zF G);have U:s.heap.objs.size<=h'.objs.size:=aq m (Nat.le_of_lt w);have S:=T.kept (t':=tk) λb o e=>af (oL c0 d ((X.mg "__name__").getD .none) f) e;have R:=T.fpOk (ac h'.objs.size) (T.hok.fresh (ac _));have O:(h'.push (oL c0 d ((X.mg "__name__").getD .none) f)).get? h'.objs.size=some (oL c0 d ((X.mg "__name__").getD .none) f):=aw _ rfl;have A:=S.adopt (o:=pinO h'.objs.size (oL c0 d ((X.mg "__name__").getD .none) f)) R (zF O);have C:d≠h'.objs.size:=bq w;have E:P≠h'.objs.size:=λz=>by have:=bd B;rw[z]at this;exact cb _ (bg this U)
  have r:upd (upd (upd H P (.tbl (#[] ++ #[rawInt xL.line,rawInt xL.col,.ref d]))) d (pinO d g)) h'.objs.size (pinO h'.objs.size (oL c0 d ((X.mg "__name__").getD .none) f)) d=some (pinO d g):=by rw[aC C];exact upd_same
  have N:upd (upd (upd H P (.tbl (#[] ++ #[rawInt xL.line,rawInt xL.col,.ref d]))) d (pinO d g)) h'.objs.size (pinO h'.objs.size (oL c0 d ((X.mg "__name__").getD .none) f)) P=some (.tbl #[rawInt xL.line,rawInt xL.col,.ref d]):=by rw[aC E,aC W,upd_same];rfl
  refine⟨.ref h'.objs.size,_,A,rfl,q _ d _ f g j u _ (λb o nb e=>?_) (.inr ⟨d,g,j,u,N,r,hd,hv⟩) upd_same r hd hv Y (A.freeC _ _ i)⟩;have Z:=I.hok.lt e;rw[aC (λz=>by rw[z]at Z;exact cb _ (bg Z U)),aC (aE e nc'),aC nb];exact e
 ·rw[t]at lt;cases lt;have am:codeAmong xL [rawInt xL.line,rawInt xL.col,.ref d]=some (.ref d):=by simp[codeAmong,rawInt]
  refine kla_makeFunctionHit (cv:=.ref d) x I.ok.glob hg l (hC _ I.kIn) B trivial am hb λf h' tk hk hsz=>?_;have S:aN X p σ H {s with heap:=h'.push (oL c0 d ((X.mg "__name__").getD .none) f),toks:=tk}:=I.kept λb o e=>af _ (hk b o e);have nf:=I.hok.fresh hsz;have R:=I.fpOk hsz nf;have O:(h'.push (oL c0 d ((X.mg "__name__").getD .none) f)).get? h'.objs.size=some (oL c0 d ((X.mg "__name__").getD .none) f):=aw _ rfl;have A:=S.adopt (o:=pinO h'.objs.size (oL c0 d ((X.mg "__name__").getD .none) f)) R (zF O);have sm:aG H (upd H h'.objs.size (pinO h'.objs.size (oL c0 d ((X.mg "__name__").getD .none) f))):=aG.upd nf;exact⟨.ref h'.objs.size,_,A,rfl,q _ d _ f g j u _ (λb o _ e=>sm b o e) (.inr ⟨d,g,j,u,sm _ _ t,sm _ _ l2,l3,l4⟩) upd_same (sm _ _ l2) l3 l4 Y (A.freeC _ _ i)⟩
def tFWc (K:PySem.W.Frag)(C d:Addr)(t:TA):TE:=λσ H Q=>t σ H λvs e=>∃g,σ[0]?=some (some (.ref g))/\∀c:Obj,c.data = .cell (some (.ref g))->e d=none->spFW K C vs (upd e d (pinO d c)) (λv H'=>H' d=some (pinO d c)/\Q v (del1 H' d)) E0
theorem UK (O:dG X.prog X.w X.K X.mg X.base bJ k "from_within" (spFW X.K C))(hr:dY k X.A)(hg:Gl X "from_within")(hN:X.N[0]?=some ("signs" : Str))(l:X.env.scope.names.lookup ("signs" : Str)=some .cell)(i:X.env.cells.lookup ("signs" : Str)=some c0)(hfn:X.fn "signs" = true)(ha:PA X (e::es) t)
  (he:starEach (e::es) X.env=(false,eval e X.env)::starEach es X.env:=by rfl) (hpl:(backTo pos (starEach es X.env)).any (·.1)=false:=by rfl):PE X (.Call (.Name "from_within" p) (e::es) [] pos) (tFWc X.K C c0 t):=by
 obtain⟨f,fd,ps,F,hm,hk,hb⟩:=O;intro L s σ H Q I h;refine wpAny_Call_Name_kw (oY I hg hm ?_ (by decide));refine PySem.W.callWith_K (h₀:=X.base) I.ok.mod.kin hk (thn (ha pos L s σ H _ I h) λus J ⟨vs,H1,B,r,q⟩=>⟨B.kIn,?_⟩) he hpl;obtain⟨g,hσ,q⟩:=q;have Z:=B.freeC _ _ i;have j:=B.ok.cab _ _ hfn i;obtain⟨d,ho,hd⟩:∃d,J.heap.get? c0=some d/\d.data = .cell (some (.ref g)):=by
  obtain⟨m,hns,hl⟩:=B.loc;obtain⟨u,ru,look⟩:=hl 0 _ _ hN hσ (.inr (.inl l));cases ru;rcases look with⟨z,_⟩|⟨_,c,hc,d,ho,hd⟩
  ·have z':X.env.scope.names.lookup ("signs" : Str)=some .local:=z;rw[l]at z';cases z'
  ·rw[i]at hc;cases hc;exact⟨d,ho,hd⟩
 have sp:=q d hd Z;have E:=B.env0;have nl:c0≠X.env.locals:=λz=>by obtain⟨m,⟨o,es',ep,U,e2,_⟩,_⟩:=B.loc;rw[←z,ho]at U;cases U;rw[hd]at e2;cases e2
 have P:∀b∈frs X.stack,b≠c0:=λb hb z=>by
  rcases cu.mp (B.stkSub b hb)with w|w
  ·exact nl (z ▸ w)
  ·obtain⟨_,o,U,_⟩:=B.ok.funs.mem w;exact cb _ (bg (bd U) (z ▸ j))
 have hl:(us++[]).length=ps.length:=by have:=F.len _ _ _ _ sp;rw[bp,←r.length];exact this
 have ne:∀b o,X.base.get? b=some o->b≠c0:=λb o e z=>cb _ (bg (bd (B.ok.bs b o e).1) (z ▸ j));have env:wL X.prog X.w X.K X.mg X.base X.A X.stack J (upd H1 c0 (pinO c0 d)):=⟨E.frames,E.mod,λb o e=>⟨(E.bs b o e).1,by rw[aC (ne b o e)];exact(E.bs b o e).2⟩,E.bsz,E.funs,λb z=>by rw[aC (P b z)];exact E.frf b z,E.hok.back Z ho,E.bare⟩
 refine wpAny_call (codeAny_mono (F.run X.A X.stack J _ ⟨us,[]⟩ us vs _ E0 hr env (by have:=hb J us B.kIn hl;rw[bp]at this;exact this) r sp) λres s' R=>?_);cases res with
 | error x=>exact R.elim
 | ok fl' =>
  cases fl' with
  | ret u =>
   obtain⟨v,H',os,bare,un,hok,rv,S,qq⟩:=R;have g0:=oP hok S;have nb:∀b u,H1 b=some u->b≠c0:=λb u e=>aE e Z;have Y:Un (frs X.stack) [] H1 (del1 H' c0) J.heap s'.heap:=by
    refine⟨λb o e n T G=>?_,λb o e n T G=>?_,λb o e n G=>?_,λb o e G=>un.there b o e G,λb xs e=>?_,λb o u' e=>?_,λb qs e=>?_⟩
    ·by_cases z:b=c0
     ·subst z;rw[ho]at e;cases e;exact g0
     ·exact un.keep b o e (by rw[aC z];exact n) T G
    ·exact un.slot b o e (by rw[aC (P b T)];exact n) T G
    ·by_cases z:b=c0
     ·subst z;exact mS
     ·exact iU (un.free b o e (by rw[aC z];exact n) G)
    ·rw[dI (nb b _ e)];exact un.tups b xs (by rw[aC (nb b _ e)];exact e)
    ·rw[dI (nb b _ e)];exact un.frzs b o u' (by rw[aC (nb b _ e)];exact e)
    ·rw[dI (nb b _ e)];exact un.tbls b qs (by rw[aC (nb b _ e)];exact e)
   exact⟨v,_,B.call' (ch:=[]) os Y (hok.del S) bare (λb z=>absurd z (by simp)),rv,qq⟩
  | next=>exact R.elim
  | brk=>exact R.elim
  | cont=>exact R.elim
end Lw
namespace Lw
open PySem L2
section
variable {P:Program}{w:World}{K:PySem.W.Frag}{mg:jB}{base:Heap}
theorem P5 {x c:Str}{st:Stmt}{f:Addr}{m:Value}{od l:Option Addr}{osl:Array (Option Value)}{kV g pm d ct:Value}{N ps:aT}{k:Nat}{sp:Sp}(o:K.lookup f=some ⟨m,od,.func (PySem.W.fnOf x c (dD st) (cK st) (aH st) .none kV g pm l d ct),osl⟩)(j:PySem.W.codeIn K d c=true)(S:aP N ps (aH st))(len:∀vs H Q E,sp vs H Q E->vs.length=ps.length)
  (e:∀(A:Around) (outer:List Env) (s:Shared) (H:Hp) (vs:List V) (Q:VK) (E:XK),dY k (A.deeper (PyProof.Rows.envOfC c (aH st) s.heap.objs.size f d))->sp vs H Q E ->
   ∃t,DH (cxOf bJ P w K mg base N c (aH st) f d A outer s H E).nox (cK st) t/\t {nx:=λ_ H'=>Q .non H',rt:=Q} (start N vs) H):cA P w K mg base bJ (k+1) f (PySem.W.fnOf x c (dD st) (cK st) (aH st) .none kV g pm l d ct) ps sp:=by
 refine Q9 o j S len λA outer s H vs Q E p i=>?_;obtain⟨t,h,q⟩:=e A outer s H vs Q E p i;exact⟨t,h.nox,q⟩
mutual
theorem aY.but (b:bU p H H')(n1:∀xs,H p≠some (.tup xs))(n2:∀xs,H p≠some (.lst xs)):∀{d:D} {v:V},aY H d v->aY H' d v
 | .non,v,h | .bl _,v,h | .int _,v,h | .str _,v,h=>h
 | .tup ds,v,⟨a,vs,f,c,e⟩=>⟨a,vs,f,b a _ (λz=>n1 vs (z ▸ c)) c,Reps.but b n1 n2 e⟩
 | .lst ds,v,⟨a,vs,f,c,e⟩=>⟨a,vs,f,b a _ (λz=>n2 vs (z ▸ c)) c,Reps.but b n1 n2 e⟩
theorem Reps.but (b:bU p H H')(n1:∀xs,H p≠some (.tup xs))(n2:∀xs,H p≠some (.lst xs)):∀{ds:List D} {vs:List V},Reps H ds vs->Reps H' ds vs
 | [],vs,h=>h
 | d::ds,vs,⟨v,r,f,e,c⟩=>⟨v,r,f,aY.but b n1 n2 e,Reps.but b n1 n2 c⟩
end
theorem LT.tbl (h:LT Pt H):∃ps,H Pt=some (.tbl ps):=by
 rcases h with h|⟨_,_,_,_,h,_⟩
 ·exact⟨_,h⟩
 ·exact⟨_,h⟩
theorem LT.rep (h:LT Pt H)(b:bU Pt H H')(r:aY H d v):aY H' d v:=by obtain⟨ps,e⟩:=h.tbl;exact aY.but b (λxs z=>by rw[e]at z;cases z) (λxs z=>by rw[e]at z;cases z) r
theorem LT.ne (h:LT Pt H)(e:H a=some o)(n:∀ps,o≠.tbl ps):a≠Pt:=λz=>by obtain⟨ps,c⟩:=h.tbl;rw[z,c]at e;cases e;exact n _ rfl
theorem LT.sg (h:LT Pt H)(b:bU Pt H H')(s:gN K C fx sm H g):gN K C fx sm H' g:=by obtain⟨a1,a2,q,m,fs,p,o,e,l,j,i,f,d,c⟩:=s;exact⟨a1,a2,q,m,fs,p,o,b _ _ (h.ne e λ_=>by simp) e,l,j,i,f,b _ _ (h.ne d λ_=>by simp) d,b _ _ (h.ne c λ_=>by simp) c⟩
def oB (K:PySem.W.Frag)(C Pt:Addr):Sp:=λvs H Q _=>∃(e g:Addr) (fx:cP) (sm:cE) (φ:Str->D) (kv:List (cM×V)) (d:D) (v:V),vs=[.ref g,.ref e,v]/\H e=some (.dK kv)/\NB H kv φ/\UD φ/\gN K C fx sm H g/\aY H d v/\Tm d/\(∀r∈sm,r.2=("" : Str)∨Fl (.str r.2))/\sz d<=50/\nds d<=1000/\depD d<=40/\LT Pt H /\
 ∀(c:V) (H':Hp),bU Pt H H'->LT Pt H'->aY H' (flf sm φ d) c->Q c H'
theorem LO {f C c Pt:Addr}{oc:Value}{od U:Option Addr}{osl:Array (Option Value)}{kV u pm ct:Value}(lk:K.lookup f=some ⟨oc,od,.func (PySem.W.fnOf "put_in" "put_in" (dD cQ) (cK cQ) (aH cQ) .none kV u pm U (.ref c) ct),osl⟩)(m:PySem.W.codeIn K (.ref c) "put_in" = true)
  (hC:∀h,K.In h->PySem.W.CodeHd h c Pt) (hB:Bm mg base) (i:dG P w K mg base bJ 8 "from_within" (spFW K C)):cA P w K mg base bJ 9 f (PySem.W.fnOf "put_in" "put_in" (dD cQ) (cK cQ) (aH cQ) .none kV u pm U (.ref c) ct) vM (oB K C Pt):=by
 refine P5 lk m HP (λvs H Q E h=>?_) (λA outer s H vs Q E hr h=>?_)
 ·obtain⟨T,g,S,sm,φ,kv,d,v,rfl,_⟩:=h;rfl
 ·obtain⟨T,g,S,sm,φ,kv,d,v,rfl,t,ph,pb,sg,rep,tm,hz,B,l,N,lt,q⟩:=h;refine⟨_,(aF (aO (UK i (hr.mono (by decide)) rfl rfl rfl rfl rfl (aA (pv 2) (aA (pv 1) (aA (LA rfl rfl rfl rfl hC hB) aB)))))),?_⟩
  try dsimp only[cxOf,Cx.nox]
  refine⟨_,rfl,_,rfl,lt,λfl c' pm O F z Y H' bt G I L m hv n0 r=>⟨g,rfl,λp J _=>?_⟩⟩;have j:aG H' (upd H' (s.heap.objs.size+1) (pinO (s.heap.objs.size+1) p)):=aG.upd r;refine⟨T,fl,s.heap.objs.size+1,g,S,sm,φ,kv,d,v,rfl,j _ _ (bt _ _ (lt.ne t λ_=>by simp) t),λx=>aY.same j (lt.rep bt (ph x)),pb,⟨c',pm,O,p,F,z,Y,j _ _ I,upd_same,J,j _ _ L,m,hv⟩,(lt.sg bt sg).same j,aY.same j (lt.rep bt rep),tm,hz,B,l,N,λX H2 s2 Z=>⟨s2 _ _ upd_same,?_⟩⟩;have R:aG H' (del1 H2 (s.heap.objs.size+1)):=λb o e=>by rw[dI (aE e r)];exact s2 _ _ (j _ _ e)
  exact q X _ (λb o nb e=>R _ _ (bt b o nb e)) (G.same R) (aY.del1 (s2 _ _ upd_same) Z)
theorem ph0:NB H [] D.str:=λ_=>rfl
theorem pb0:UD D.str:=⟨λx h=>⟨by unfold Tm at h;unfold Fl;exact h,by unfold Nb;trivial⟩,λx=>by rw[sz] <;> simp,λx=>by unfold nds;decide,λ_=>ax _⟩
structure RC (fx:cP)(sm:cE)(os:aT)(d:D):Prop where
 so:bD fx sm
 ho:∀x∈os,bO x
 tm:aZ fx sm os d
 lv:lvs d<=50
 nd:nds d<=1000
 dp:depD d<=40
def F1 (K:PySem.W.Frag)(C Pt:Addr):Sp:=λvs H Q _=>∃(g:Addr) (fx:cP) (sm:cE) (os:aT) (d:D) (v:V),vs=[.ref g,v]/\gN K C fx sm H g/\aY H d v/\RC fx sm os d/\LT Pt H /\
 ∀(c:V) (H':Hp),bU Pt H H'->LT Pt H'->aY H' (flt sm d) c->Q c H'
theorem LV (F:fP K "flat" "flat" zC f fd)(T:Txt mg)(c:dG P w K mg base bJ 3 "check_term" (sP K C))(i:dG P w K mg base bJ 9 "put_in" (oB K C Pt)):cA P w K mg base bJ 10 f fd NC (F1 K C Pt):=by
 refine F.ok N2 (λvs H Q E h=>?_) (λJ A outer s H vs Q E j h=>?_)
 ·obtain⟨g,t,sm,os,d,v,rfl,_⟩:=h;rfl
 ·obtain⟨g,t,sm,os,d,v,rfl,sg,rep,tr,lt,q⟩:=h;have z:=j.units
  refine⟨_,(aD (cU (aL c (j.mono (by decide)) pass0 rfl (aA (pv 0) (aA (pv 1) aB))))
   (aF (aO (aL i (j.mono (by decide)) pass0 rfl (aA (pv 0) (@zJ _ _ _ _ (aA (pv 1) aB))))))),?_⟩
  try dsimp only[cxOf,Cx.nox]
  simp only[FN];clear j F T z c i;have keep:=aI q (aI sg (aI rep (aI tr lt)));clear q sg rep tr lt
  walk_at "rd"
  obtain⟨q,sg,rep,tr,lt⟩:=keep;obtain⟨m,G⟩:=iW tr.so tr.ho tr.tm;have L:=tr.lv;have I:=tr.dp;refine⟨g,t,sm,os,d,v,rfl,sg,tr.so,tr.ho,rep,tr.tm,by lia,by lia,tr.nd,λN x B p=>?_⟩;have s2:=x.trans (aG.upd (o:=.dK []) p);exact⟨B,g,t,sm,D.str,[],d,v,rfl,upd_same,ph0,pb0,sg.same s2,aY.same s2 rep,m,bT tr.so,by lia,tr.nd,I,lt.same s2,λu H' b l r=>q u H' (λa o na e=>b a o na (s2 _ _ e)) l (by rw[FC tr.tm]at r;exact r)⟩
theorem IV (h:97<=c/\c<=122):inTx "abcdefghijklmnopqrstuvwxyz" c=true:=by
 have a:∀j:Fin 26,inTx "abcdefghijklmnopqrstuvwxyz" (97+j.1)=true:=by decide +kernel
 have:=a ⟨c - 97,by lia⟩;rw[show 97+(c - 97)=c by lia]at this;exact this
def KL:Sp:=λvs H Q _=>∃x:Str,vs=[.str x]/\i9 x/\∀H',aG H H'->Q (.bl true) H'
theorem O8 (F:fP K "is_name" "is_name" kF f fd)(T:Txt mg):cA P w K mg base bJ 1 f fd yP KL:=by
 refine F.ok D0 (λvs H Q E h=>?_) (λB A outer s H vs Q E l h=>?_)
 ·obtain⟨x,rfl,_⟩:=h;rfl
 ·obtain⟨x,rfl,j,q⟩:=h;have t:=l.units
  refine⟨_,(aD (bH (PW.pt (kG (dA (aV K rfl (aK aM rfl T.n_isinstance rfl (aA (pv 0) (aA (bZ (v:=V.ty "str") rfl T.n_str rfl rfl) aB))) (λ_=>rfl))) (iK (dA (lW oT oT aJ (aK bG rfl T.n_len rfl (aA (pv 0) aB)) (gH T.c_LONGEST_NAME rfl)))))) (aF (aO mY)) aS)
   (aF (aO (aK (qU rfl) rfl T.n_all rfl (aA (hV rfl (bF.by (N:=qW) (names:=(aH kF).names) (N':=["sign"]) (src:=[none]) (by decide +kernel) rfl rfl) (K5 (pv 0)) (λ_ _ _ _=>(bP (i:=0) (show List.Nodup (["sign"]:aT)by decide +kernel) rfl (Or.inl rfl))) (λ_ _ _ _=>eF) (λ_ _ _ _=>(dR qG (pv 0) (gH T.c_LETTERS rfl) (by with_unfolding_all rfl)))) aB))))),?_⟩
  try dsimp only[cxOf,Cx.nox]
  simp only[qW];clear l F T t;have keep:=aI q j;clear q j
  walk_at "rd"
  obtain⟨q,C,g,r⟩:=keep;have hz:x.length<=sizeLine:=aq (m:=6) (by rw[br]at g;exact g) (by decide);have G:x.cps.toList.length=x.length:=by rw[br];rfl
  refine⟨true,rfl,?_⟩;rw[ab (by decide)];refine⟨.int x.length,by rw[B9 hz];rfl,_,rfl,?_⟩;rw[ai (by lia)];refine⟨_,rfl,?_⟩;rw[ab (by lia)];refine⟨_,rfl,x,rfl,?_,?_⟩
  ·rw[Array.all_eq_true_iff_forall_mem];intro c hc;have:=r c (by simpa using hc);simp only[decide_eq_true_eq]
   lia
  ·refine yB (λi d σ H'=>H'=H/\d=(List.replicate i true).map V.bl/\i<=6/\∃o:Option V,σ=[o]) ⟨rfl,rfl,by decide,none,rfl⟩ ?_ ?_
   ·rintro i c d σ H' hc ⟨rfl,rfl,hi,o,rfl⟩;have z:c∈x.cps.toList:=by
     have:x.cps.toList[i]?=some c:=by rw[Array.getElem?_toList];exact hc
     exact bj this
    have hi':i<x.cps.size:=(Array.getElem?_eq_some_iff.mp hc).1;refine⟨_,rfl,_,rfl,_,rfl,?_⟩;have e:=IV (r c z);unfold inTx at e;dsimp only;refine⟨aj (m:=100) (by simp;lia) (by decide),rfl,?_,by rw[br]at g;lia,_,rfl⟩;rw[e,List.replicate_succ',ba];rfl
   ·rintro d σ H' ⟨rfl,rfl,hi,o,rfl⟩ p u;refine⟨p,rfl,List.replicate _ true,upd_same,?_⟩;have:(List.replicate x.cps.size true).all id=true:=by simp
    rw[this];exact q _ (aG.upd u)
def FV:Sp:=λvs H Q _=>∃i:Int,vs=[.int i]/\Q (.bl true) H
theorem LM (F:fP K "is_whole" "is_whole" kU f fd)(T:Txt mg):cA P w K mg base bJ 1 f fd vN FV:=by
 refine F.ok BD (λvs H Q E h=>?_) (λd A outer s H vs Q E c h=>?_)
 ·obtain⟨x,rfl,_⟩:=h;rfl
 ·obtain⟨i,rfl,q⟩:=h;refine⟨_,(aF (aO (LC (aK aM rfl T.n_isinstance rfl (aA (pv 0) (aA (bZ (v:=V.ty "int") rfl T.n_int rfl rfl) aB))) (D8 (SD (aK aM rfl T.n_isinstance rfl (aA (pv 0) (aA (bZ (v:=V.ty "bool") rfl T.n_bool rfl rfl) aB)))))))),?_⟩
  try dsimp only[cxOf,Cx.nox]
  simp only[vT];clear c F T
  walk_at "rd"
def mT (H:Hp)(c:List V):Prop:=∀v∈c,∃t x y,v = .ref t/\H t=some (.tup [x,y])
theorem mT.same (h:mT H ws)(s:aG H H'):mT H' ws:=λv c=>by obtain⟨t,x,y,e,h⟩:=h v c;exact⟨t,x,y,e,s _ _ h⟩
def FY:Sp:=λvs H Q _=>∃(a:Addr) (lo hi:Int) (ws:List V),vs=[.ref a,.int lo,.int hi]/\H a=some (.lst ws)/\mT H ws/\lo<=ws.length/\(ws.length:Int)<=hi/\ws.length<=100/\∀l H',aG H H'->H l=none->H' l=some (.lst ws)->Q (.ref l) H'
def WC (a:Addr)(lo hi:Int)(H:Hp)(i:Nat)(σ:St)(c:Hp):Prop:=∃o:Option V,σ=[some (.ref a),some (.int lo),some (.int hi),o]/\aG H c
def WD (d:List V)(H:Hp)(i:Nat)(c:List V)(σ:St)(e:Hp):Prop:=∃o:Option V,σ=[o]/\aG H e/\c=d.take i
theorem LQ (F:fP K "checked_pairs" "checked_pairs" d5 f fd)(T:Txt mg):cA P w K mg base bJ 1 f fd lJ FY:=by
 refine F.ok kC (λvs H Q E h=>?_) (λcdv A outer s H vs Q E hr h=>?_)
 ·obtain⟨a,lo,hi,O,rfl,_⟩:=h;rfl
 ·obtain⟨a,lo,hi,O,rfl,G,r,R,Y,X,q⟩:=h;have hu:=hr.units
  refine⟨_,(aD (bH (PW.pt (kG (dA (aV K rfl (aK aM rfl T.n_isinstance rfl (aA (pv 0) (aA (fA (aA (bZ (v:=V.ty "list") rfl T.n_list rfl rfl) (aA (bZ (v:=V.ty "tuple") rfl T.n_tuple rfl rfl) aB))) aB))) (λ_=>rfl))) (iK (dA (lW oT oT (pv 1) (aK bG rfl T.n_len rfl (aA (pv 0) aB)) (pv 2)))))) (aF d9) aS)
   (aD (eE dh rfl (cV K rfl (pv 0)) (bP (i:=3) kC.nd rfl (Or.inl rfl)) (aF (bH (PW.pt (kG (dA (aV K rfl (aK aM rfl T.n_isinstance rfl (aA (pv 3) (aA (fA (aA (bZ (v:=V.ty "list") rfl T.n_list rfl rfl) (aA (bZ (v:=V.ty "tuple") rfl T.n_tuple rfl rfl) aB))) aB))) (λ_=>rfl))) (iK (aU (dS hu) (aK bG rfl T.n_len rfl (aA (pv 3) aB)) aJ (nomark _))))) (aF d9) aS)))
   (aF (aO (hV rfl (bF.by (N:=fM) (names:=(aH d5).names) (N':=["pair"]) (src:=[none]) (by decide +kernel) rfl rfl) (cV K rfl (pv 0)) (λ_ _ _ _=>(bP (i:=0) (show List.Nodup (["pair"]:aT)by decide +kernel) rfl (Or.inl rfl))) (λ_ _ _ _=>eF) (λ_ _ _ _=>(cH eM rfl T.n_tuple rfl (aA (pv 0) aB)))))))),?_⟩
  try dsimp only[cxOf,Cx.nox]
  simp only[fM];clear hr F T hu;have keep:=aI q (aI G (aI r (aI R (aI Y X))));clear q G r R Y X
  walk_at "rd"
  obtain⟨q,G,r,R,Y,X⟩:=keep;refine⟨by decide,λp hp=>?_⟩;have j:aG H (upd H p (.tup [.ty "list",.ty "tuple"])):=aG.upd hp;have B:upd H p (.tup [.ty "list",.ty "tuple"]) p=some (.tup [.ty "list",.ty "tuple"]):=upd_same;generalize upd H p (.tup [.ty "list",.ty "tuple"])=H1 at j B⊢;have c:=j _ _ G;refine⟨true,ML c B,?_⟩;rw[ab (by decide)];refine⟨.int O.length,by rw[lenV_l c];rfl,_,rfl,?_⟩;rw[ai R];refine⟨_,rfl,?_⟩;rw[ab (by lia)];refine⟨O,.inl c,λJ hJ=>?_⟩;refine jQ hJ (WC a lo hi H1) ⟨none,rfl,aG.refl _⟩ (by rintro i σ H' _ ⟨_,_,s2⟩;rw[c,s2 _ _ c]) ?_ ?_
  ·rintro i x σ L I ⟨o,rfl,s2⟩;obtain⟨t,y,z,rfl,W⟩:=r x (bj I);have g:=s2 _ _ (j _ _ W);have keep:=aI q (aI G (aI r (aI s2 (aI g j))));clear q G r s2 g W c B R Y X hJ I j hp
   walk_at "rd"
   obtain⟨q,G,r,s2,g,j⟩:=keep;refine⟨by decide,λU Z=>?_⟩;have e:aG L (upd L U (.tup [.ty "list",.ty "tuple"])):=aG.upd Z;have u:upd L U (.tup [.ty "list",.ty "tuple"]) U=some (.tup [.ty "list",.ty "tuple"]):=upd_same;generalize upd L U (.tup [.ty "list",.ty "tuple"])=H3 at e u⊢;have d:=e _ _ g;refine⟨true,MK d u,?_⟩;rw[ab (by decide)];refine⟨.int 2,by rw[lenV_t d];rfl,?_⟩;rw[rNeD_ii];refine⟨_,rfl,?_⟩;rw[ab (by decide)];exact⟨_,rfl,s2.trans e⟩
  ·rintro σ L ⟨o,rfl,s2⟩;have C:=s2 _ _ c;refine⟨_,rfl,a,O,rfl,.inl C,λJ2 hJ2=>?_⟩;refine cR hJ2 (WD O L) ⟨none,rfl,aG.refl _,rfl⟩ (by rintro i S σ H' _ ⟨_,_,e,_⟩;rw[C,e _ _ C]) ?_ ?_
   ·rintro i x S σ H3 I ⟨o',rfl,e,rfl⟩;obtain⟨t,y,z,rfl,W⟩:=r x (bj I);have d:=e _ _ (s2 _ _ (j _ _ W));have hi':=(cr.mp I).1;refine⟨_,rfl,t,[y,z],rfl,.inr d,λl H4 hc=>?_⟩;rcases hc with⟨hc,rfl,rfl⟩|⟨hc,_⟩
    ·exact⟨aj (m:=100) (by rw[bv];lia) (by decide),_,rfl,e,by rw[take_snoc I]⟩
    ·rw[d]at hc;cases hc
   ·rintro S σ H3 ⟨o',rfl,e,rfl⟩ l hl;rw[bw];have s4:=(j.trans s2).trans e;exact q l _ (s4.trans (aG.upd hl)) (s4.free hl) upd_same
def jC (H:Hp):aT->List V->Prop
 | [],vs=>vs=[]
 | n::ns,vs=>∃t y us,vs = .ref t::us/\H t=some (.tup [.str n,y])/\jC H ns us
theorem jC.same (s:aG H H'):∀{ns:aT} {vs:List V},jC H ns vs->jC H' ns vs
 | [],_,h=>h
 | _::_,_,⟨t,y,us,e,h,q⟩=>⟨t,y,us,e,s _ _ h,jC.same s q⟩
theorem jC.len:∀{ns:aT} {vs:List V},jC H ns vs->vs.length=ns.length
 | [],_,h=>by cases h;rfl
 | _::_,_,⟨t,y,us,e,h,q⟩=>by subst e;simp[jC.len q]
theorem jC.get:∀{ns:aT} {vs:List V} {i:Nat} {v:V},jC H ns vs->vs[i]?=some v->∃n t y,ns[i]?=some n/\v = .ref t/\H t=some (.tup [.str n,y])
 | [],_,_,_,h,k=>by cases h;simp at k
 | _::_,_,0,_,⟨t,y,us,e,h,q⟩,k=>by subst e;simp at k;exact⟨_,t,y,rfl,k.symm,h⟩
 | _::_,_,i+1,_,⟨t,y,us,e,h,q⟩,k=>by subst e;simp at k;obtain⟨r,t,y,f,d,c⟩:=jC.get q k;exact⟨r,t,y,by simpa using f,d,c⟩
theorem jC.app:∀{ns c:aT} {vs us:List V},jC H ns vs->jC H c us->jC H (ns++c) (vs++us)
 | [],_,_,_,h,k=>by cases h;exact k
 | _::_,_,_,_,⟨t,y,us,e,h,q⟩,k=>by subst e;exact⟨t,y,_,rfl,h,jC.app q k⟩
theorem dE.n:∀{l:cP} {vs:List V},dE H l vs->jC H (l.map (·.1)) vs
 | [],_,h=>h
 | _::_,_,⟨t,us,e,h,q⟩=>⟨t,_,us,e,h,dE.n q⟩
theorem dW.n:∀{l:cE} {vs:List V},dW H l vs->jC H (l.map (·.1)) vs
 | [],_,h=>h
 | _::_,_,⟨t,us,e,h,q⟩=>⟨t,_,us,e,h,dW.n q⟩
def BA:Sp:=λvs H Q _=>∃(a:Addr) (ns:aT) (ws:List V),vs=[.ref a]/\H a=some (.lst ws)/\jC H ns ws/\(∀x∈ns,i9 x)/\ns.Nodup/\ns.length<=50/\∀H',aG H H'->Q .non H'
def WF (ns:aT)(H:Hp)(i:Nat)(c:List V)(σ:St)(e:Hp):Prop:=∃o d:Option V,σ=[o,d]/\aG H e/\c=(ns.take i).map V.str
def WE (H:Hp)(i:Nat)(c:List V)(σ:St)(d:Hp):Prop:=∃o:Option V,σ=[o]/\aG H d/\c=(List.replicate i true).map V.bl
theorem IG (F:fP K "check_names" "check_names" eB f fd)(T:Txt mg)(c:dG P w K mg base bJ 1 "is_name" KL):cA P w K mg base bJ 2 f fd nC BA:=by
 refine F.ok lU (λvs H Q E h=>?_) (λcdv A outer s H vs Q E G h=>?_)
 ·obtain⟨a,ns,R,rfl,_⟩:=h;rfl
 ·obtain⟨a,ns,R,rfl,u,z,ok,nd,g,q⟩:=h;have W:=G.units
  refine⟨_,(aD (iQ (i:=1) lU.nd rfl rfl rfl rfl (bF.by (N:=h8) (names:=(aH eB).names) (N':=["name","told"]) (src:=[none,none]) (by decide +kernel) rfl rfl) (cV K rfl (pv 0)) (λ_ _ _ _=>(cL K rfl (i:=0) (j:=1) rfl (show List.Nodup (["name","told"]:aT)by decide +kernel) rfl rfl rfl rfl)) (λ_ _ _ _=>eF) (λ_ _ _ _=>(pv 0)))
   (aD (bH (dA (aV K rfl (aK (qU rfl) rfl T.n_all rfl (aA (hV rfl (bF.by (N:=h8) (names:=(aH eB).names) (N':=["name"]) (src:=[none]) (by decide +kernel) rfl rfl) (cV K rfl (pv 1)) (λ_ _ _ _=>(bP (i:=0) (show List.Nodup (["name"]:aT)by decide +kernel) rfl (Or.inl rfl))) (λ_ _ _ _=>eF) (λ_ _ _ _=>(aL c (G.mono (by decide)) pass0 rfl (aA (pv 0) aB)))) aB)) (λ_=>rfl))) (aF d9) aS)
   (aF (bH (aU (jU W) (aK yG rfl T.n_len rfl (aA (cH (yE rfl) rfl T.n_set rfl (aA (pv 1) aB)) aB)) (aK bG rfl T.n_len rfl (aA (pv 1) aB)) (nomark _)) (aF d9) aS)))),?_⟩
  try dsimp only[cxOf,Cx.nox]
  simp only[h8];clear G F T W c;have keep:=aI q (aI u (aI z (aI ok (aI nd g))));clear q u z ok nd g
  walk_at "rd"
  obtain⟨q,u,z,ok,nd,g⟩:=keep;have lw:=z.len;refine⟨R,.inl u,λJ hJ=>?_⟩;refine cR hJ (WF ns H) ⟨none,none,rfl,aG.refl _,rfl⟩ (by rintro i e σ H' _ ⟨_,_,_,s2,_⟩;rw[u,s2 _ _ u]) ?_ ?_
  ·rintro i x e σ O C ⟨o,o',rfl,s2,rfl⟩;obtain⟨n,t,y,B,rfl,ht⟩:=z.get C;have hi:=(cr.mp B).1;refine⟨t,_,rfl,iG.of (s2 _ _ ht),rfl,_,_,rfl,_,_,rfl,rfl,_,rfl,aj (m:=100) (by simp;lia) (by decide),_,_,rfl,s2,?_⟩;rw[take_snoc B,ba];rfl
  ·rintro e σ O ⟨o,o',rfl,s2,rfl⟩ l hl;rw[lw,bw];have d:upd O l (.lst (ns.map V.str)) l=some (.lst (ns.map V.str)):=upd_same;have S:=s2.trans (aG.upd (o:=.lst (ns.map V.str)) hl);generalize upd O l (.lst (ns.map V.str))=H3 at d S⊢;refine⟨l,rfl,_,.inl d,λJ2 L=>?_⟩;refine cR L (WE H3) ⟨none,rfl,aG.refl _,rfl⟩ (by rintro i e σ H' _ ⟨_,_,v,_⟩;rw[d,v _ _ d]) ?_ ?_
   ·rintro i x e σ Z C ⟨o,rfl,v,rfl⟩;rw[bI]at C;obtain⟨n,B,rfl⟩:=Option.map_eq_some_iff.mp C;have hi:=(cr.mp B).1;refine⟨_,rfl,n,rfl,ok n (bj B),λY r=>⟨aj (m:=100) (by simp;lia) (by decide),_,rfl,v.trans r,?_⟩⟩;rw[List.replicate_succ',ba];rfl
   ·rintro e σ Z ⟨o,rfl,v,rfl⟩ U I;refine⟨U,rfl,_,upd_same,?_⟩;rw[ab (by simp)];have r:=v.trans (aG.upd (o:=.lst ((List.replicate (ns.map V.str).length true).map V.bl)) I);generalize upd Z U (.lst ((List.replicate (ns.map V.str).length true).map V.bl))=Y at r⊢;refine⟨l,ns,rfl,r _ _ d,nd,by lia,λp X=>⟨p,ns.length,rfl,upd_same,.int ns.length,?_,.inl (.inl ⟨_,rfl,_,rfl,?_⟩)⟩⟩
    ·have:=(aG.upd (o:=C7 P w p ns.length) X) _ _ (r _ _ d);show Option.map _ ((lenV (upd Y p (C7 P w p ns.length)) (.ref l)).bind _)=_;rw[lenV_l this,ae];rfl
    ·rw[ab (by lia)];exact q _ ((S.trans r).trans (aG.upd X))
def FX:Sp:=λvs H Q _=>∃(a:Addr) (fx:cP) (fv:List V),vs=[.ref a]/\H a=some (.lst fv)/\dE H fx fv/\(∀r∈fx,0<=r.2/\r.2<=3)/\(∃r∈fx,r.2=0)/\fx.length<=50/\∀H',aG H H'->Q .non H'
def VX (a:Addr)(H:Hp)(i:Nat)(σ:St)(d:Hp):Prop:=∃o c:Option V,σ=[some (.ref a),o,c]/\d=H
def VY (e:cP)(H:Hp)(i:Nat)(c:List V)(σ:St)(f:Hp):Prop:=∃o d:Option V,σ=[o,d]/\f=H/\c=((e.take i).map λr=>decide (r.2=0)).map V.bl
theorem LP (F:fP K "check_parts" "check_parts" fG f fd)(T:Txt mg)(c:dG P w K mg base bJ 1 "is_whole" FV):cA P w K mg base bJ 2 f fd nB FX:=by
 refine F.ok lT (λvs H Q E h=>?_) (λcdv A outer s H vs Q E u h=>?_)
 ·obtain⟨a,S,U,rfl,_⟩:=h;rfl
 ·obtain⟨a,S,U,rfl,l,g,ok,bare,d,q⟩:=h;have Y:=u.units
  refine⟨_,(aD (eE dh rfl (cV K rfl (pv 0)) (cL K rfl (i:=1) (j:=2) rfl lT.nd rfl rfl rfl rfl) (aF (bH (PW.pt (kG (dA (aV K rfl (aL c (u.mono (by decide)) pass0 rfl (aA (pv 2) aB)) (λ_=>rfl))) (iK (dA (lW oT oT aJ (pv 2) (gH T.c_MOST_PARTS rfl)))))) (aF d9) aS)))
   (aF (bH (dA (aV K rfl (aK (JX rfl) rfl T.n_any rfl (aA (hV rfl (bF.by (N:=j6) (names:=(aH fG).names) (N':=["name","many"]) (src:=[none,none]) (by decide +kernel) rfl rfl) (cV K rfl (pv 0)) (λ_ _ _ _=>(cL K rfl (i:=0) (j:=1) rfl (show List.Nodup (["name","many"]:aT)by decide +kernel) rfl rfl rfl rfl)) (λ_ _ _ _=>eF) (λ_ _ _ _=>(dR (dL Y) (pv 1) aJ (nomark _)))) aB)) (λ_=>rfl))) (aF d9) aS))),?_⟩
  try dsimp only[cxOf,Cx.nox]
  simp only[j6];clear u F T Y c;have keep:=aI q (aI l (aI g (aI ok (aI bare d))));clear q l g ok bare d
  walk_at "rd"
  obtain⟨q,l,g,ok,bare,d⟩:=keep;have p:=g.len;refine⟨U,.inl l,λJ R=>?_⟩;refine jQ R (VX a H) ⟨none,none,rfl,rfl⟩ (by rintro i σ H' _ ⟨_,_,_,rfl⟩;rfl) ?_ ?_
  ·rintro i x σ Z C ⟨o,I,rfl,rfl⟩;obtain⟨r,t,v,rfl,G⟩:=g.get C;obtain⟨X,W⟩:=ok r (bj v);refine⟨t,_,rfl,iG.of G,rfl,_,_,rfl,_,_,rfl,rfl,?_⟩;have keep:=aI q (aI X W);clear q l g ok bare d p R C v G
   walk_at "rd"
   obtain⟨q,X,W⟩:=keep;refine⟨r.2,rfl,true,rfl,?_⟩;rw[ab (by decide)];exact⟨_,_,rfl,rfl⟩
  ·rintro σ Z ⟨o,I,rfl,rfl⟩;have keep:=aI q (aI l (aI g (aI ok (aI bare (aI d p)))));clear q l g ok bare d p R
   walk_at "rd"
   obtain⟨q,l,g,ok,bare,d,p⟩:=keep;refine⟨U,.inl l,λJ2 O=>?_⟩;refine cR O (VY S Z) ⟨none,none,rfl,rfl,rfl⟩ (by rintro i B σ H' _ ⟨_,_,_,rfl,_⟩;rfl) ?_ ?_
   ·rintro i x B σ H3 C ⟨o,I,rfl,rfl,rfl⟩;obtain⟨r,t,v,rfl,G⟩:=g.get C;have hi:=(cr.mp v).1;refine⟨t,_,rfl,iG.of G,rfl,_,_,rfl,_,_,rfl,rfl,_,rfl,?_⟩;dsimp only[tC];rw[rEqD_ii];refine⟨aj (m:=100) (by simp;lia) (by decide),_,_,rfl,rfl,?_⟩;rw[take_snoc v,ba,ba];rfl
   ·rintro B σ H3 ⟨o,I,rfl,rfl,rfl⟩ l2 L;rw[p,bw];refine⟨l2,rfl,_,upd_same,?_⟩;have z:((S.map λr=>decide (r.2=0)).any id)=true:=by obtain⟨r,u,e⟩:=bare;rw[List.any_eq_true];exact⟨true,cx.mpr ⟨r,u,bi e⟩,rfl⟩
    rw[z,ab (by decide)];exact q _ (aG.upd L)
noncomputable def nots (sm:cE):aT:=(sm.map (·.2)).filter λ(x:Str)=>decide (x≠("" : Str))
def tV:Sp:=λvs H Q _=>∃(a b:Addr) (sm:cE) (sv:List V) (zs:aT),vs=[.ref a,.ref b]/\H a=some (.lst sv)/\dW H sm sv/\H b=some (.lst (zs.map V.str))/\(∀r∈sm,r.2≠("" : Str)->r.2∈zs)/\(nots sm).Nodup/\sm.length<=50/\∀H',aG H H'->Q .non H'
def V1 (a b:Addr)(H:Hp)(i:Nat)(σ:St)(e:Hp):Prop:=∃o d c:Option V,σ=[some (.ref a),some (.ref b),o,d,c]/\e=H
def V2 (sm:cE)(H:Hp)(i:Nat)(c:List V)(σ:St)(e:Hp):Prop:=∃o d:Option V,σ=[o,d]/\e=H/\c=(nots (sm.take i)).map V.str
theorem IK (sm:cE)(r:Str×Str):nots (sm++[r])=nots sm++(if r.2=("" : Str)then []else [r.2]):=by unfold nots;rw[ba,List.filter_append];congr 1;by_cases z:r.2=("" : Str) <;> simp[z]
theorem BW (sm:cE):(nots sm).length<=sm.length:=by unfold nots;exact aq (List.length_filter_le _ _) (by rw[ae];exact ac _)
theorem BV (F:fP K "check_noughts" "check_noughts" d8 f fd)(T:Txt mg):cA P w K mg base bJ 1 f fd lK tV:=by
 refine F.ok gU (λvs H Q E h=>?_) (λcdv A outer s H vs Q E hr h=>?_)
 ·obtain⟨a,b,sm,W,U,rfl,_⟩:=h;rfl
 ·obtain⟨a,b,sm,W,U,rfl,g,d,hb,ok,nd,c,q⟩:=h;have C:=hr.units
  refine⟨_,(aD (eE dh rfl (cV K rfl (pv 0)) (cL K rfl (i:=2) (j:=3) rfl gU.nd rfl rfl rfl rfl) (aF (bH (PW.pt (kG (dA (aV K rfl (aK aM rfl T.n_isinstance rfl (aA (pv 3) (aA (bZ (v:=V.ty "str") rfl T.n_str rfl rfl) aB))) (λ_=>rfl))) (iK (PW.pt (uD (aU (dS C) (pv 3) gW (nomark _)) (oN (aU (IC C) (pv 3) (pv 1) (by with_unfolding_all rfl)))))))) (aF d9) aS)))
   (aD (iQ (i:=4) gU.nd rfl rfl rfl rfl (bF.by (N:=fN) (names:=(aH d8).names) (N':=["name","nought"]) (src:=[none,none]) (by decide +kernel) rfl rfl) (cV K rfl (pv 0)) (λ_ _ _ _=>(cL K rfl (i:=0) (j:=1) rfl (show List.Nodup (["name","nought"]:aT)by decide +kernel) rfl rfl rfl rfl)) (λ_ _ _ _=>(k8 (aU (dS C) (pv 1) gW (nomark _)))) (λ_ _ _ _=>(pv 1)))
   (aF (bH (aU (jU C) (aK yG rfl T.n_len rfl (aA (cH (yE rfl) rfl T.n_set rfl (aA (pv 4) aB)) aB)) (aK bG rfl T.n_len rfl (aA (pv 4) aB)) (nomark _)) (aF d9) aS)))),?_⟩
  try dsimp only[cxOf,Cx.nox]
  simp only[fN];clear hr F T C;have keep:=aI q (aI g (aI d (aI hb (aI ok (aI nd c)))));clear q g d hb ok nd c
  walk_at "rd"
  obtain⟨q,g,d,hb,ok,nd,c⟩:=keep;have B:=d.len;refine⟨W,.inl g,λJ hJ=>?_⟩;refine jQ hJ (V1 a b H) ⟨none,none,none,rfl,rfl⟩ (by rintro i σ H' _ ⟨_,_,_,_,rfl⟩;rfl) ?_ ?_
  ·rintro i x σ H2 R ⟨o,Y,X,rfl,rfl⟩;obtain⟨r,t,G,rfl,S⟩:=d.get R;have e:=ok r (bj G);refine⟨t,_,rfl,iG.of S,rfl,_,_,rfl,_,_,rfl,rfl,?_⟩;have keep:=aI q (aI e hb);clear q g d hb ok nd c B hJ R G S e
   walk_at "rd"
   obtain⟨q,e,hb⟩:=keep;refine⟨true,rfl,?_⟩;rw[ab (by decide)];refine⟨!decide (r.2=("" : Str)),by simp,?_⟩;by_cases z:r.2=("" : Str)
   ·rw[ab (by simp[z])];exact⟨_,_,_,rfl,rfl⟩
   ·rw[ai (by simp[z])];refine⟨.str r.2,U.map D.str,rfl,.inl ⟨b,_,rfl,hb,qA U⟩,by rw[vD];decide,_,rfl,?_⟩;rw[ab]
    ·exact⟨_,_,_,rfl,rfl⟩
    ·rw[uX,bi (e z)];decide
  ·rintro σ H2 ⟨o,Y,X,rfl,rfl⟩;have keep:=aI q (aI g (aI d (aI nd (aI c B))));clear q g d ok hb nd c B hJ
   walk_at "rd"
   obtain⟨q,g,d,nd,c,B⟩:=keep;refine⟨W,.inl g,λJ2 Z=>?_⟩;refine cR Z (V2 sm H2) ⟨none,none,rfl,rfl,rfl⟩ (by rintro i L σ H' _ ⟨_,_,_,rfl,_⟩;rfl) ?_ ?_
   ·rintro i x L σ O R ⟨o,Y,rfl,rfl,rfl⟩;obtain⟨r,t,G,rfl,S⟩:=d.get R;have hi:=(cr.mp G).1;have hk:=BW (sm.take i);rw[bv]at hk;have I:=IK (sm.take i) r;rw[←take_snoc G]at I;refine⟨t,_,rfl,iG.of S,rfl,_,_,rfl,_,_,rfl,rfl,_,rfl,?_⟩;dsimp only[tC];rw[rNeD_ss];refine⟨_,rfl,?_⟩;by_cases z:r.2=("" : Str)
    ·rw[ab (by simp[z])];rw[ai z,bp]at I;exact⟨_,_,rfl,rfl,by rw[I]⟩
    ·rw[ai (by simp[z])];rw[ab z]at I;exact⟨_,rfl,aj (m:=100) (by rw[ae];lia) (by decide),_,_,rfl,rfl,by rw[I,ba];rfl⟩
   ·rintro L σ O ⟨o,Y,rfl,rfl,rfl⟩ l hl;rw[B,bw];have u:upd O l (.lst ((nots sm).map V.str)) l=some (.lst ((nots sm).map V.str)):=upd_same;have s3:aG O (upd O l (.lst ((nots sm).map V.str))):=aG.upd hl;generalize upd O l (.lst ((nots sm).map V.str))=H4 at u s3⊢;have hk:=BW sm;refine⟨l,nots sm,rfl,u,nd,by lia,λp hp=>⟨p,(nots sm).length,rfl,upd_same,.int (nots sm).length,?_,.inl (.inl ⟨_,rfl,_,rfl,?_⟩)⟩⟩
    ·have:=(aG.upd (o:=C7 P w p (nots sm).length) hp) _ _ u;show Option.map _ ((lenV (upd H4 p (C7 P w p (nots sm).length)) (.ref l)).bind _)=_;rw[lenV_l this,ae];rfl
    ·rw[ab (by lia)];exact q _ (s3.trans (aG.upd hp))
structure RI (K:PySem.W.Frag)(C:Addr):Prop where
 cls:J4 K C
 n1:iM K C "fixed_rows"
 n2:iM K C "sum_rows"
 n3:iM K C "many_by_name"
 n4:iM K C "nought_by_name"
theorem dE.pairs (h:dE H fx fv):mT H fv:=λv c=>by obtain⟨i,hi⟩:=List.getElem?_of_mem c;obtain⟨r,t,_,e,d⟩:=h.get hi;exact⟨t,_,_,e,d⟩
theorem dW.pairs (h:dW H sm sv):mT H sv:=λv c=>by obtain⟨i,hi⟩:=List.getElem?_of_mem c;obtain⟨r,t,_,e,d⟩:=h.get hi;exact⟨t,_,_,e,d⟩
theorem dE.prs:∀{c:cP} {fv:List V},dE H c fv->fv.map (prV H)=(c.map λr=>((.inr r.1,V.int r.2):cM×V)).map (λkv=>some (kV kv.1,kv.2))
 | [],_,e=>by cases e;rfl
 | r::l,_,⟨t,us,e,h,q⟩=>by subst e;rw[bf,dE.prs q];unfold prV;simp only[h];rfl
theorem L5 {c:cP}(nd:(c.map (·.1)).Nodup):jV [] (c.map λr=>((.inr r.1,V.int r.2):cM×V))=c.map λr=>(.inr r.1,V.int r.2):=by
 rw[nM]
 ·rfl
 ·rw[List.nil_append,cm];exact List.pairwise_map.mpr ((List.pairwise_map.mp nd).imp λh e=>h (Sum.inr.inj e))
def DW (K:PySem.W.Frag)(C:Addr):Sp:=λvs H Q _=>∃(x c a b:Addr) (fx:cP) (sm:cE) (fv sv:List V),vs=[.ref x,.ref a,.ref b]/\H x=some (.ins C c [])/\H a=some (.lst fv)/\H b=some (.lst sv)/\dE H fx fv/\dW H sm sv/\bD fx sm /\
 ∀H',bU x H H'->gN K C fx sm H' x->Q .non H'
def VU (e:cP)(H:Hp)(i:Nat)(c:List V)(σ:St)(f:Hp):Prop:=∃o d:Option V,σ=[o,d]/\f=H/\c=(zeros (e.take i)).map V.str
theorem DK (c:cP):(zeros c).length<=c.length:=by unfold zeros;rw[ae];exact List.length_filter_le _ _
theorem PF (F:fP K "__init__" "Signs.__init__" cG f fd)(T:Txt mg)(co:RI K C)(d:dG P w K mg base bJ 1 "checked_pairs" FY)(p:dG P w K mg base bJ 2 "check_names" BA)(l:dG P w K mg base bJ 2 "check_parts" FX)(g:dG P w K mg base bJ 1 "check_noughts" tV):cA P w K mg base bJ 3 f fd g7 (DW K C):=by
 refine F.ok gE (λvs H Q E h=>?_) (λcdv A outer s H vs Q E hr h=>?_)
 ·obtain⟨x,u,a,b,v,sm,G,I,rfl,_⟩:=h;rfl
 ·obtain⟨x,u,a,b,v,sm,G,I,rfl,hx,ha,hb,U,rs,so,q⟩:=h;have hu:=hr.units
  refine⟨_,(aD (aW (i:=3) gE.nd rfl (Or.inl rfl) (aL d (hr.mono (by decide)) pass0 rfl (aA (pv 1) (aA aJ (aA (gH T.c_MOST_FIXED rfl) aB)))))
   (aD (aW (i:=4) gE.nd rfl (Or.inl rfl) (aL d (hr.mono (by decide)) pass0 rfl (aA (pv 2) (aA aJ (aA (gH T.c_MOST_SUMS rfl) aB)))))
   (aD (cU (aL p (hr.mono (by decide)) pass0 rfl (aA (bK bQ (pv 3) (pv 4)) aB)))
   (aD (cU (aL l (hr.mono (by decide)) pass0 rfl (aA (pv 3) aB)))
   (aD (cU (aL g (hr.mono (by decide)) pass0 rfl (aA (pv 4) (aA (hV rfl (bF.by (N:=eY) (names:=(aH cG).names) (N':=["name","many"]) (src:=[none,none]) (by decide +kernel) rfl rfl) (cV K rfl (pv 3)) (λ_ _ _ _=>(cL K rfl (i:=0) (j:=1) rfl (show List.Nodup (["name","many"]:aT)by decide +kernel) rfl rfl rfl rfl)) (λ_ _ _ _=>(k8 (aU (dL hu) (pv 1) aJ (nomark _)))) (λ_ _ _ _=>(pv 0))) aB))))
   (aD (zE (pv 0) (pv 3) rfl)
   (aD (zE (pv 0) (pv 4) rfl)
   (aD (zE (pv 0) (cH (nU rfl) rfl T.n_dict rfl (aA (pv 3) aB)) rfl)
   (aF (zE (pv 0) (cH (nU rfl) rfl T.n_dict rfl (aA (pv 4) aB)) rfl)))))))))),?_⟩
  try dsimp only[cxOf,Cx.nox]
  simp only[eY];clear hr F T hu d p l g;have keep:=aI q (aI hx (aI ha (aI hb (aI U (aI rs (aI so co))))));clear q hx ha hb U rs so co
  walk_at "rd"
  obtain⟨q,hx,ha,hb,U,rs,so,co⟩:=keep;have lf:=U.len;have ls:=rs.len;have f1:=so.f1;have f2:=so.f2;have s2':=so.s2;have ndf:=(List.nodup_append.mp so.nd).1;have nds':=(List.nodup_append.mp so.nd).2.1;refine⟨a,1,12,G,rfl,ha,U.pairs,by lia,by lia,by lia,λL H1 s1 hl1 h1=>?_⟩;refine⟨b,0,3,I,rfl,s1 _ _ hb,rs.pairs.same s1,by lia,by lia,by lia,λW H2 s2 hl2 h2=>?_⟩;have nxl1:x≠L:=aE hx hl1;have nxl2:x≠W:=aE (s1 _ _ hx) hl2;refine .inr ⟨.lst (G++I),pE (s2 _ _ h1) h2 (aq (m:=100) (by lia) (by decide)),λl3 hl3=>?_⟩;have s3:=(s1.trans s2).trans (aG.upd (o:=.lst (G++I)) hl3);have h13:=(aG.upd (o:=.lst (G++I)) hl3) _ _ (s2 _ _ h1);have h23:=(aG.upd (o:=.lst (G++I)) hl3) _ _ h2;have h33:upd H2 l3 (.lst (G++I)) l3=some (.lst (G++I)):=upd_same;generalize upd H2 l3 (.lst (G++I))=H3 at s3 h13 h23 h33⊢;refine⟨l3,v.map (·.1)++sm.map (·.1),G++I,rfl,h33,jC.app (jC.same s3 U.n) (jC.same s3 rs.n),so.nm,so.nd,by simp;lia,λH4 s4=>?_⟩;refine⟨L,v,G,rfl,s4 _ _ h13,U.same (bC.of (s3.trans s4)),so.parts,so.bare,by lia,λH5 s5=>?_⟩;have h15:=s5 _ _ (s4 _ _ h13);have h25:=s5 _ _ (s4 _ _ h23);have sH5:=(s3.trans s4).trans s5;have rf5:=U.same (bC.of sH5);have rs5:=rs.same (bC.of sH5);refine⟨L,rfl,G,.inl h15,λJ hJ=>?_⟩;refine cR hJ (VU v H5) ⟨none,none,rfl,rfl,rfl⟩ (by rintro i acc σ H' _ ⟨_,_,_,rfl,_⟩;rfl) ?_ ?_
  ·rintro i y acc σ H6 hy ⟨o,o',rfl,rfl,rfl⟩;obtain⟨r,t,hn,rfl,ht⟩:=rf5.get hy;have hi:=(cr.mp hn).1;have hk:=DK (v.take i);rw[bv]at hk;have e1:=iV (v.take i) r;rw[←take_snoc hn]at e1;refine⟨t,_,rfl,iG.of ht,rfl,_,_,rfl,_,_,rfl,rfl,_,rfl,?_⟩;dsimp only[tC];rw[rEqD_ii];refine⟨_,rfl,?_⟩;by_cases z:r.2=0
   ·rw[ai (bi z)];rw[ai z]at e1;exact⟨_,rfl,aj (m:=100) (by rw[ae];lia) (by decide),_,_,rfl,rfl,by rw[e1,ba];rfl⟩
   ·rw[ab (by simpa using z)];rw[ab z,bp]at e1;exact⟨_,_,rfl,rfl,by rw[e1]⟩
  ·rintro acc σ H6 ⟨o,o',rfl,rfl,rfl⟩ l6 hl6;rw[lf,bw];have s6:aG H6 (upd H6 l6 (.lst ((zeros v).map V.str))):=aG.upd hl6;have h66:upd H6 l6 (.lst ((zeros v).map V.str)) l6=some (.lst ((zeros v).map V.str)):=upd_same;generalize upd H6 l6 (.lst ((zeros v).map V.str))=H7 at s6 h66⊢;refine⟨W,l6,sm,I,zeros v,rfl,s6 _ _ h25,rs5.same (bC.of s6),h66,so.nought,so.once,by lia,λZ s8=>?_⟩;have S:=(sH5.trans s6).trans s8;have h18:=s8 _ _ (s6 _ _ h15);have h28:=s8 _ _ (s6 _ _ h25);have hx8:=S _ _ hx;have rf8:=U.same (bC.of S);have rs8:=rs.same (bC.of S);refine⟨_,rfl,_,rfl,x,C,u,[],rfl,hx8,co.cls,co.n1,by decide,?_⟩;refine⟨_,rfl,_,rfl,x,C,u,_,rfl,upd_same,co.cls,co.n2,?_,?_⟩
   ·have:=fV ("fixed_rows" : Str) (.ref L) [];simp only[List.length_nil]at this
    lia
   rw[upd_upd];have e9:∀(fs:List (Str×V)),aG (del Z x) (upd Z x (.ins C u fs)):=λfs b o e=>by obtain⟨z1,z2⟩:=dH e;rw[aC z2];exact z1
   have l2f:(putF ("sum_rows" : Str) (.ref W) (putF ("fixed_rows" : Str) (.ref L) [])).length<=2:=by
    have:=fV ("sum_rows" : Str) (.ref W) (putF ("fixed_rows" : Str) (.ref L) []);have:=fV ("fixed_rows" : Str) (.ref L) [];simp only[List.length_nil]at this
    lia
   have k1:(putF ("sum_rows" : Str) (.ref W) (putF ("fixed_rows" : Str) (.ref L) [])).lookup ("many" : Str)=none:=by rw[cI,ab (by decide),cI,ab (by decide)];rfl
   have k2:(putF ("sum_rows" : Str) (.ref W) (putF ("fixed_rows" : Str) (.ref L) [])).lookup ("nought" : Str)=none:=by rw[cI,ab (by decide),cI,ab (by decide)];rfl
   generalize putF ("sum_rows" : Str) (.ref W) (putF ("fixed_rows" : Str) (.ref L) [])=fs2 at l2f k1 k2⊢;have t9:bC Z (upd Z x (.ins C u fs2)):=λc xs e=>by rw[aC (λz=>by rw[z,hx8]at e;cases e)];exact e
   have X:upd Z x (.ins C u fs2) x=some (.ins C u fs2):=upd_same;have b9:bU x H (upd Z x (.ins C u fs2)):=λc o nc e=>by rw[aC nc];exact S _ _ e
   have h19:upd Z x (.ins C u fs2) L=some (.lst G):=by rw[aC nxl1.symm];exact h18
   have h29:upd Z x (.ins C u fs2) W=some (.lst I):=by rw[aC nxl2.symm];exact h28
   have rf9:=rf8.same t9;have rs9:=rs8.same t9;generalize upd Z x (.ins C u fs2)=H9 at t9 X b9 h19 h29 rf9 rs9⊢;refine⟨_,rfl,L,G,_,rfl,h19,rf9.prs,λB hd3=>?_⟩;rw[L5 ndf];have nx3:x≠B:=aE X hd3;refine⟨_,rfl,x,C,u,fs2,rfl,by rw[aC nx3];exact X,co.cls,co.n3,by lia,?_⟩;have l3f:=fV ("many_by_name" : Str) (.ref B) fs2;have k3:(putF ("many_by_name" : Str) (.ref B) fs2).lookup ("many" : Str)=none:=by rw[cI,ab (by decide)];exact k1
   have k4:(putF ("many_by_name" : Str) (.ref B) fs2).lookup ("nought" : Str)=none:=by rw[cI,ab (by decide)];exact k2
   have k5:(putF ("many_by_name" : Str) (.ref B) fs2).lookup ("many_by_name" : Str)=some (.ref B):=by rw[cI,ai rfl]
   generalize putF ("many_by_name" : Str) (.ref B) fs2=fs3 at l3f k3 k4 k5⊢;have s10:aG H9 (upd H9 B (.dK (v.map λr=>(.inr r.1,.int r.2)))):=aG.upd hd3;have O:upd (upd H9 B (.dK (v.map λr=>(.inr r.1,.int r.2)))) x (.ins C u fs3) x=some (.ins C u fs3):=upd_same;have R:upd (upd H9 B (.dK (v.map λr=>(.inr r.1,.int r.2)))) x (.ins C u fs3) B=some (.dK (v.map λr=>(.inr r.1,.int r.2))):=by rw[aC nx3.symm];exact upd_same
   have Y:bU x H9 (upd (upd H9 B (.dK (v.map λr=>(.inr r.1,.int r.2)))) x (.ins C u fs3)):=λc o nc e=>by rw[aC nc];exact s10 _ _ e
   generalize upd (upd H9 B (.dK (v.map λr=>(.inr r.1,.int r.2)))) x (.ins C u fs3)=H11 at O R Y⊢;have t11:bC H9 H11:=λc xs e=>Y c _ (λz=>by rw[z,X]at e;cases e) e;refine⟨_,rfl,W,I,_,rfl,Y _ _ nxl2.symm h29,(rs9.same t11).prs,λd4 hd4=>?_⟩;rw[B5 nds'];have nx4:x≠d4:=aE O hd4;have n34:B≠d4:=aE R hd4;refine⟨_,rfl,x,C,u,fs3,rfl,by rw[aC nx4];exact O,co.cls,co.n4,by lia,?_⟩;refine q _ (λc o nc e=>?_) ⟨co.cls,co.n3,co.n4,u,_,B,d4,upd_same,by rw[cI,ab (by decide)];exact k3,by rw[cI,ab (by decide)];exact k4,by rw[cI,ab (by decide)];exact k5,by rw[cI,ai rfl],by rw[aC nx3.symm,aC n34];exact R,by rw[aC nx4.symm];exact upd_same⟩;rw[aC nc];exact(aG.upd hd4) _ _ (Y c o nc (b9 c o nc e))
end
def QS (x:Str):Prop:=x.cps.size<=20/\(x.cps.toList.all λc=>decide (c<16 ^ 8))=true
theorem uO (h:i9 x):QS x:=by
 refine⟨by have:=h.2.1;rw[br]at this;lia,List.all_eq_true.mpr λc hc=>bi ?_⟩;have:=(h.2.2 c hc).2
 lia
theorem DM (h:bO x):QS x:=by
 obtain⟨l,rfl,f,e,d⟩:=h;refine⟨by simp;lia,List.all_eq_true.mpr λc hc=>bi ?_⟩;simp only[cu]at hc;rcases hc with rfl|hc
 ·decide
 ·have:=d c hc;unfold isWd at this
  lia
section
variable {fx:cP}{sm:cE}{os:aT}
theorem CN (so:bD fx sm)(h:AT fx sm n k):QS n:=by
 refine uO (so.nm n ?_);rcases h with⟨_,h⟩|⟨_,h⟩
 ·exact ci _ (cx.mpr ⟨_,h,rfl⟩)
 ·exact bz _ h
mutual
theorem n9 (so:bD fx sm)(ho:∀x∈os,bO x):∀{d:D},aZ fx sm os d->Tx d/\(pdOf d).leavesShort 13=true/\(pdOf d).weight+1<=30 * nds d
 | .str x,h=>by
  have e:QS x:=by
   unfold aZ at h;rcases h with h|h
   ·exact DM (ho x h)
   ·exact uO (so.nm x (ci _ ((gR fx).subset h)))
  unfold Tx pdOf PyData.leavesShort PyData.weight;refine⟨trivial,e.2,?_⟩;have:=e.1;have:nds (.str x)=1:=by unfold nds;rfl
  lia
 | .tup (.str n::ds),h=>by
  unfold aZ at h;obtain⟨a,b,c⟩:=tQ so ho h.2;have e:=CN so h.1;have f:=e.1;refine⟨by unfold Tx Txs;exact⟨by unfold Tx;trivial,a⟩,?_,?_⟩
  ·unfold pdOf pdsOf PyData.leavesShort PyData.leavesShortAll;rw[b,Bool.and_true];unfold pdOf PyData.leavesShort;exact e.2
  ·unfold pdOf pdsOf PyData.weight PyData.weightAll;rw[nds,show(pdOf (.str n)).weight=n.cps.size by unfold pdOf PyData.weight;rfl]
   lia
 | .lst (.str n::ds),h=>by
  unfold aZ at h;obtain⟨a,b,c⟩:=tQ so ho h.2;have e:=CN so h.1;have f:=e.1;refine⟨by unfold Tx Txs;exact⟨by unfold Tx;trivial,a⟩,?_,?_⟩
  ·unfold pdOf pdsOf PyData.leavesShort PyData.leavesShortAll;rw[b,Bool.and_true];unfold pdOf PyData.leavesShort;exact e.2
  ·unfold pdOf pdsOf PyData.weight PyData.weightAll;rw[nds,show(pdOf (.str n)).weight=n.cps.size by unfold pdOf PyData.weight;rfl]
   lia
 | .non,h | .bl _,h | .int _,h | .tup [],h | .lst [],h | .tup (.non::_),h | .tup (.bl _::_),h | .tup (.int _::_),h | .tup (.tup _::_),h | .tup (.lst _::_),h | .lst (.non::_),h | .lst (.bl _::_),h | .lst (.int _::_),h | .lst (.tup _::_),h | .lst (.lst _::_),h=>by unfold aZ at h;exact absurd h id
theorem tQ (so:bD fx sm)(ho:∀x∈os,bO x):∀{ds:List D},IsTms fx sm os ds->Txs ds/\PyData.leavesShortAll 13 (pdsOf ds)=true/\PyData.weightAll (pdsOf ds)<=30 * ndss ds
 | [],_=>by unfold Txs pdsOf PyData.leavesShortAll PyData.weightAll ndss;exact⟨trivial,rfl,ac _⟩
 | d::ds,⟨x,y⟩=>by
  obtain⟨a,b,c⟩:=n9 so ho x;obtain⟨f,e,g⟩:=tQ so ho y;unfold Txs pdsOf PyData.leavesShortAll PyData.weightAll;refine⟨⟨a,f⟩,by rw[b,e];rfl,?_⟩;rw[ndss]
  lia
end
theorem KS (so:bD fx sm)(ho:∀x∈os,bO x)(h:aZ fx sm os d)(n:nds d<=1000):(pdOf d).shown.length<=sizeLine:=by obtain⟨_,b,c⟩:=n9 so ho h;have e:=PyData.shown_le 13 (by decide) (pdOf d) b;refine aq e (aq (m:=15 * 30000+13) (by lia) (by decide))
end
section
variable {P:Program}{w:World}{K:PySem.W.Frag}{mg:jB}{base:Heap}
section
variable {X:Cx}{body:List Stmt}{tb:TS}{hd:ExceptHandler}{pos:Pos}
theorem OE (hb:∀pn Ew,DH (X.tr pn Ew) body tb):PS X (.Try body [hd] [] [] pos) tb:=by
 intro c s σ H D I h;refine wpAny_Try_except ?_;have key:∀Ew,wpAny (model X.prog X.w) X.A (execs body X.env) (SP (X.tr (X.pn++c) Ew) [] D) Ew s:=λEw=>hb _ Ew [] s σ H D (I.tr Ew) h;refine wpAny_mono (key _) (λf g e=>?_) λ_ _ z=>z;have d:=SP.untr I.ok e;cases f with
 | next=>exact wpAny_execs_nil d
 | ret u=>exact d
 | brk=>exact d
 | cont=>exact d
end
theorem ite_on {a b:Prop}(e:c=true->a)(d:c=false->b):(if c=true then a else b):=by
 cases c
 ·rw[ab Bool.false_ne_true];exact d rfl
 ·rw[ai rfl];exact e rfl
theorem tComp_fn:tComp src wi g tt te=λσ H Q=>wi σ H λJ c=>nH J g tt te Q (stC src σ) c:=rfl
theorem tFor_fn:tFor wi g tb=λD σ H=>wi σ H λJ c=>sI J g tb D σ c:=rfl
noncomputable def kd (fs:List (Str×D)):List (cM×D):=fs.map λp=>(Sum.inr p.1,p.2)
structure VN (fx:cP)(sm:cE)(os:aT)(fs:List (Str×D)):Prop where
 nd:(fs.map (·.1)).Nodup
 ok:∀p∈fs,bO p.1/\RC fx sm os p.2
 ln:fs.length<=20
theorem EV {H:Hp}{fs:List (Str×D)}{c:List (cM×V)}{i:Nat}{k:cM}{v:V}(h:dM H (kd fs) c)(e:c[i]?=some (k,v)):∃x d,fs[i]?=some (x,d)/\k=Sum.inr x/\aY H d v:=by unfold dM kd at h;have j:=Paired.length h;rw[ae]at j;have hi:=(cr.mp e).1;obtain⟨q,g,r1,f⟩:=nL h (az (l:=fs.map λp=>((Sum.inr p.1:cM),p.2)) (i:=i) (by rw[ae];lia));rw[e]at g;cases g;rw[List.getElem_map]at r1 f;exact⟨fs[i].1,fs[i].2,az (by lia),r1.symm,f⟩
theorem EU (h:dM H (kd fs) kvs):kvs.length=fs.length:=by
 have:=Paired.length h;unfold kd at this;rw[ae]at this
 lia
theorem dM.but (b:bU p H H')(n1:∀xs,H p≠some (.tup xs))(n2:∀xs,H p≠some (.lst xs))(h:dM H ds kvs):dM H' ds kvs:=Paired.mapP h λ_ _ z=>⟨z.1,aY.but b n1 n2 z.2⟩
theorem QI (b:bU a H H'):aG (del H a) H':=λc o e=>by obtain⟨f,d⟩:=dH e;exact b c o d f
theorem mW (h:bO x)(k:i9 x):False:=by
 obtain⟨l,rfl,_⟩:=h;have:=k.2.2 63 (by simp)
 lia
theorem TM (h:H a=some (.dK kvs)):isV H (.ref a) (.ty "dict")=some true:=by
 have e:tyN H (.ref a)=some "dict":=by unfold tyN;dsimp only;rw[h]
 unfold isV;rw[e];rfl
def KN (K:PySem.W.Frag)(C:Addr):Sp:=λvs H Q _=>∃(g:Addr) (fx:cP) (sm:cE) (os:aT) (d:D) (v:V),vs=[.ref g,v]/\gN K C fx sm H g/\aY H d v/\RC fx sm os d/\∀H',aG H H'->Q (.bl true) H'
theorem PD (F:fP K "is_term" "is_term" mK f fd)(T:Txt mg)(c:dG P w K mg base bJ 3 "check_term" (sP K C)):cA P w K mg base bJ 4 f fd yO (KN K C):=by
 refine F.ok DZ (λvs H Q E h=>?_) (λl A outer s H vs Q E e h=>?_)
 ·obtain⟨g,i,sm,os,d,v,rfl,_⟩:=h;rfl
 ·obtain⟨g,i,sm,os,d,v,rfl,sg,rep,t,q⟩:=h;have m:=e.units
  refine⟨_,(aD (OE (λpn Ew=>(aF (cU (aL c (e.mono (by decide)) pass0 rfl (aA (pv 0) (aA (pv 1) aB)))))))
   (aF (aO mY))),?_⟩
  try dsimp only[cxOf,Cx.nox]
  have:=t.lv;have:=t.dp;exact⟨_,rfl,_,rfl,g,i,sm,os,d,v,rfl,sg,t.so,t.ho,rep,t.tm,by lia,by lia,t.nd,λH' j=>q H' j⟩
def BB (K:PySem.W.Frag)(C:Addr):Sp:=λvs H Q _=>∃(g a:Addr) (fx:cP) (sm:cE) (os:aT) (fs:List (Str×D)) (kvs:List (cM×V)),vs=[.ref g,.ref a]/\gN K C fx sm (del H a) g/\H a=some (.dK kvs)/\dM H (kd fs) kvs/\VN fx sm os fs /\
 ∀H',aG H H'->Q .non H'
def WJ (P:Program)(w:World)(g a:Addr)(o:Obj)(c:List (cM×V))(H:Hp)(_:Nat)(σ:St)(H':Hp):Prop:=∃o2 d:Option V,σ=[some (.ref g),some (.ref a),o2,d]/\bU a H H'/\H' a=some (wD P w a o c)
theorem IJ (F:fP K "check_filling" "check_filling" fJ f fd)(T:Txt mg)(c:dG P w K mg base bJ 1 "is_wish" DU)(l:dG P w K mg base bJ 4 "is_term" (KN K C)):cA P w K mg base bJ 5 f fd lL (BB K C):=by
 refine F.ok kD (λvs H Q E h=>?_) (λcdv A outer s H vs Q E G h=>?_)
 ·obtain⟨g,a,U,sm,os,fs,m,rfl,_⟩:=h;rfl
 ·obtain⟨g,a,U,sm,os,fs,m,rfl,sg,r,rep,L,q⟩:=h;have Z:=G.units
  refine⟨_,(aD (bH (dA (aV K rfl (aK aM rfl T.n_isinstance rfl (aA (pv 1) (aA (bZ (v:=V.ty "dict") rfl T.n_dict rfl rfl) aB))) (λ_=>rfl))) (aF d9) aS)
   (aF (OF (eE dh rfl (qB (pv 1)) (cL K rfl (i:=2) (j:=3) rfl kD.nd rfl rfl rfl rfl) (aD (bH (dA (aV K rfl (aL c (G.mono (by decide)) pass0 rfl (aA (pv 2) aB)) (λ_=>rfl))) (aF d9) aS)
   (aF (bH (dA (aV K rfl (aL l (G.mono (by decide)) pass0 rfl (aA (pv 0) (aA (pv 3) aB))) (λ_=>rfl))) (aF d9) aS))))))),?_⟩
  try dsimp only[cxOf,Cx.nox]
  clear G F T Z c l;simp only[tFor_fn];refine⟨_,rfl,_,_,true,rfl,TM r,true,rfl,_,rfl,a,m,rfl,r,λo=>?_⟩;have nt:∀xs,H a≠some (.tup xs):=λxs z=>by rw[r]at z;cases z
  have nl:∀xs,H a≠some (.lst xs):=λxs z=>by rw[r]at z;cases z
  refine CP (P:=P) (w:=w) (WJ P w g a o m H) ⟨_,_,rfl,bU.upd _ _ _,upd_same⟩ (λi σ H' ⟨_,_,_,_,e⟩=>e) ?_ ?_
  ·rintro i k v t σ B hk ⟨o2,Y,rfl,bt,J⟩ hT;obtain⟨x,d,hf,rfl,X⟩:=EV rep hk;obtain⟨N,W⟩:=L.ok _ (bj hf);have I:aG B (upd B t (.tup [kV (Sum.inr x),v])):=aG.upd hT;have S:upd B t (.tup [kV (Sum.inr x),v]) t=some (.tup [kV (Sum.inr x),v]):=upd_same;generalize upd B t (.tup [kV (Sum.inr x),v])=H2 at I S⊢;refine⟨t,_,rfl,iG.of S,rfl,_,_,rfl,_,_,rfl,rfl,?_⟩;refine⟨_,rfl,x,rfl,.inl N,λH3 R=>⟨λ_=>⟨true,rfl,?_⟩,λno=>?_⟩⟩
   ·have p:bU a H H3:=bt.trans ((I.trans R).but);refine⟨_,rfl,_,rfl,g,U,sm,os,d,v,rfl,sg.same (QI p),aY.but p nt nl X,W,λH4 O=>⟨true,rfl,?_⟩⟩;exact⟨_,_,rfl,p.trans O.but,O _ _ (R _ _ (I _ _ J))⟩
   ·exact(mW N no).elim
  ·rintro σ B ⟨o2,Y,rfl,bt,J⟩;refine⟨_,.inr ⟨a,o,m,J,rfl⟩,q _ λb u e=>?_⟩;by_cases z:b=a
   ·subst z;rw[upd_same,←r];exact e
   ·rw[aC z];exact bt b u z e
noncomputable def idle (fs:List (Str×D)):List (Str×D):=fs.filter λp=>!eqD p.2 (.str p.1)
theorem putK_new {c:List (cM×V)}{k:cM}{v:V}(h:∀p∈c,p.1≠k):putK c k v=c++[(k,v)]:=by unfold putK;rw[ab];intro z;obtain⟨p,d,e⟩:=List.any_eq_true.mp z;exact h p d (bu e)
theorem xP (h:dM H ds kvs)(r:aY H d v):dM H (ds++[(k,d)]) (kvs++[(k,v)]):=Paired.snoc h ⟨rfl,r⟩
theorem IZ (h:dM H ds kvs):kvs.map (·.1)=ds.map (·.1):=by
 induction h with
 | nil=>rfl
 | cons a _ c=>rw[bf,bf,c,a.1]
theorem EW (a b:List (Str×D)):kd (a++b)=kd a++kd b:=ba ..
theorem GR {H:Hp}{fs l:List (Str×D)}{c:List (cM×V)}{i:Nat}{x:Str}{d:D}(nd:(fs.map (·.1)).Nodup)(z:fs[i]?=some (x,d))(w:∀p∈l,∃q∈fs.take i,q.1=p.1)(r:dM H (kd l) c):∀p∈c,p.1≠Sum.inr x:=by
 intro p v e;have m:p.1∈c.map (·.1):=List.mem_map_of_mem v;rw[IZ r,e]at m;obtain⟨q,u,eq⟩:=cx.mp m;obtain⟨s,h,rfl⟩:=cx.mp u;obtain⟨C,g,A⟩:=w s h;obtain⟨j,f⟩:=List.getElem?_of_mem g;rw[List.getElem?_take]at f;split at f
 ·rename_i lt;have o:(fs.map (·.1))[j]?=some x:=by rw[bI,f];exact congrArg some (A.trans (Sum.inr.inj eq))
  have B:(fs.map (·.1))[i]?=some x:=by rw[bI,z];rfl
  have t:=(cr.mp o).1;have:=(List.getElem?_inj t nd).mp (o.trans B.symm)
  lia
 ·cases f
def KO:Sp:=λvs H Q _=>∃(a:Addr) (fs:List (Str×D)) (kvs:List (cM×V)),vs=[.ref a]/\H a=some (.dK kvs)/\dM H (kd fs) kvs/\(fs.map (·.1)).Nodup/\(∀p∈fs,depD p.2<=50)/\fs.length<=20 /\
 ∀(l:Addr) (kvs':List (cM×V)) (H':Hp),aG H H'->H l=none->H' l=some (.dK kvs')->dM H' (kd (idle fs)) kvs'->Q (.ref l) H'
def V8 (P:Program)(w:World)(a:Addr)(o:Obj)(d:List (cM×V))(fs:List (Str×D))(H:Hp)(i:Nat)(c:List (cM×V))(σ:St)(H':Hp):Prop:=∃e o1:Option V,σ=[e,o1]/\bU a H H'/\H' a=some (wD P w a o d)/\dM H' (kd (idle (fs.take i))) c/\c.length<=i
theorem IP (c:H a=some (.dK kvs))(bt:bU a H H1):aG H (upd H1 a (.dK kvs)):=λb u e=>by
 by_cases z:b=a
 ·subst z;rw[upd_same,←c];exact e
 ·rw[aC z];exact bt b u z e
theorem xX (fs:List (Str×D))(x:Str)(d:D):idle (fs++[(x,d)])=idle fs++(if eqD d (.str x)=true then []else [(x,d)]):=by
 unfold idle;rw[List.filter_append];congr 1;cases e:eqD d (.str x)with
 | true=>rw[ai rfl,List.filter_cons_of_neg (by simp[e]),List.filter_nil]
 | false=>rw[ab (by decide),List.filter_cons_of_pos (by simp[e]),List.filter_nil]
theorem MM:∀p∈idle fs,∃q∈fs,q.1=p.1:=λp c=>⟨p,(da.mp c).1,rfl⟩
theorem PH (F:fP K "without_idle" "without_idle" eJ f fd)(T:Txt mg):cA P w K mg base bJ 1 f fd l9 KO:=by
 refine F.ok sA (λvs H Q E h=>?_) (λcdv A outer s H vs Q E U h=>?_)
 ·obtain⟨a,fs,c,rfl,_⟩:=h;rfl
 ·obtain⟨a,fs,c,rfl,R,rep,nd,dp,l20,q⟩:=h;have S:=U.units;refine⟨_,(aF (aO (F9 (oS rfl (bF.by (N:=mC) (names:=(aH eJ).names) (N':=["wish","term"]) (src:=[none,none]) (by decide +kernel) rfl rfl) (qB (pv 0)) (λ_ _ _ _=>(cL K rfl (i:=0) (j:=1) rfl (show List.Nodup (["wish","term"]:aT)by decide +kernel) rfl rfl rfl rfl)) (λ_ _ _ _=>(k8 (aU (dS S) (pv 1) (pv 0) (nomark _)))) (λ_ _ _ _=>(pv 0)) (λ_ _ _ _=>(pv 1)))))),?_⟩
  try dsimp only[cxOf,Cx.nox]
  clear U F T S;refine⟨_,rfl,a,c,rfl,R,λo=>?_⟩;have nt:∀xs,H a≠some (.tup xs):=λxs z=>by rw[R]at z;cases z
  have nl:∀xs,H a≠some (.lst xs):=λxs z=>by rw[R]at z;cases z
  have kl:=EU rep;refine n6 (P:=P) (w:=w) (V8 P w a o c fs H) ⟨_,_,rfl,bU.upd _ _ _,upd_same,.nil,ax _⟩ (λi g σ H' ⟨_,_,_,_,e,_⟩=>e) ?_ ?_
  ·rintro i k v O g σ t hk ⟨Z,o1,rfl,bt,l,ra,la⟩ hT;obtain⟨x,d,L,rfl,Y⟩:=EV rep hk;have il:=(cr.mp L).1;have B:aG t (upd t O (.tup [kV (Sum.inr x),v])):=aG.upd hT;have W:upd t O (.tup [kV (Sum.inr x),v]) O=some (.tup [kV (Sum.inr x),v]):=upd_same;generalize upd t O (.tup [kV (Sum.inr x),v])=H2 at B W⊢;refine⟨O,_,rfl,iG.of W,rfl,_,_,rfl,_,_,rfl,rfl,?_⟩;have r:bU a H H2:=bt.trans B.but;have C:=aY.but r nt nl Y;refine⟨_,rfl,_,rfl,d,.str x,C,rfl,aq (dp _ (bj L)) (by decide),_,rfl,ite_on (λk=>?_) λk=>?_⟩
   ·have e:eqD d (.str x)=false:=by simpa using k
    have I:=xX (fs.take i) x d;rw[←take_snoc L,e,ab (by decide)]at I;have new:=GR nd L MM ra;refine⟨_,rfl,_,rfl,Sum.inr x,rfl,aj (m:=20) (by lia) (by decide),_,_,rfl,r,B _ _ l,?_,?_⟩
    ·rw[putK_new new,I,EW];exact xP (ra.same B) C
    ·rw[putK_new new,av,ck]
     lia
   ·have e:eqD d (.str x)=true:=by simpa using k
    have I:=xX (fs.take i) x d;rw[←take_snoc L,e,ai rfl,bp]at I;exact⟨_,_,rfl,r,B _ _ l,by rw[I];exact ra.same B,by lia⟩
  ·rintro g σ t ⟨Z,o1,rfl,bt,l,ra,la⟩ p J;rw[kl,bw]at ra;have G:a≠p:=aE l J;refine⟨_,.inr ⟨a,o,c,by rw[aC G];exact l,rfl⟩,?_⟩;have X:aG H (upd (upd t p (.dK g)) a (.dK c)):=IP R (bt.trans (bU.new J));refine q p g _ X ?_ (by rw[aC G.symm];exact upd_same) ?_
   ·cases z:H p with
    | none=>rfl
    | some u =>
     by_cases e:p=a
     ·exact absurd e.symm G
     ·rw[bt p u e z]at J;cases J
   ·refine dM.but (p:=a) (H:=upd t p (.dK g)) (bU.upd _ _ _) (λxs z=>?_) (λxs z=>?_) (ra.same (aG.upd J))
    ·rw[aC G,l]at z;cases z
    ·rw[aC G,l]at z;cases z
noncomputable def flatF (sm:cE)(fs:List (Str×D)):List (Str×D):=fs.map λp=>(p.1,flt sm p.2)
noncomputable def look (sm:cE)(fs:List (Str×D)):List (Str×D):=idle (flatF sm fs)
def tW (K:PySem.W.Frag)(C Pt:Addr):Sp:=λvs H Q _=>∃(g a:Addr) (fx:cP) (sm:cE) (os:aT) (fs:List (Str×D)) (kvs:List (cM×V)),vs=[.ref g,.ref a]/\gN K C fx sm (del H a) g/\H a=some (.dK kvs)/\dM H (kd fs) kvs/\VN fx sm os fs/\LT Pt H /\
 ∀(l:Addr) (kvs':List (cM×V)) (H':Hp),bU Pt H H'->LT Pt H'->H l=none->H' l=some (.dK kvs')->dM H' (kd (look sm fs)) kvs'->Q (.ref l) H'
def UC (a b:Addr)(H H':Hp):Prop:=∀c o,c≠a->c≠b->H c=some o->H' c=some o
structure V3 (P:Program)(w:World)(g a Pt:Addr)(o:Obj)(kvs:List (cM×V))(fs:List (Str×D))(sm:cE)(H:Hp)(i:Nat)(acc:List (cM×V))(σ:St)(H':Hp):Prop where
 st:∃o0 o1:Option V,σ=[o0,o1,some (.ref g)]
 bt:UC a Pt H H'
 wd:H' a=some (wD P w a o kvs)
 lt:LT Pt H'
 ra:dM H' (kd (flatF sm (fs.take i))) acc
 la:acc.length<=i
theorem LT.butD (h:LT Pt H)(b:bU a H H')(e:H a=some (.dK kvs)):LT Pt H':=by
 rcases h with h|⟨l,d,c,i,g,f,j⟩
 ·exact .inl (b _ _ (λz=>by rw[z,e]at h;cases h) h)
 ·exact .inr ⟨l,d,c,i,b _ _ (λz=>by rw[z,e]at g;cases g) g,b _ _ (λz=>by rw[z,e]at f;cases f) f,j⟩
theorem JC (hd:ob.data = .fields vs):∃h:Heap,h.get? a=some ob:=by refine⟨⟨Array.replicate (a+1) ob,{}⟩,?_⟩;obtain⟨c,d,f,e⟩:=ob;cases hd;unfold Heap.get?;simp
theorem LT.butW (h:LT Pt H)(b:bU a H H')(e:H a=some (wD P w a o kvs)):LT Pt H':=by
 rcases h with h|⟨s,f,d,p,j,c,i,r⟩
 ·exact .inl (b _ _ (λz=>by rw[z,e]at h;cases h) h)
 ·refine .inr ⟨s,f,d,p,b _ _ (λz=>by rw[z,e]at j;cases j) j,b _ _ (λz=>?_) c,i,r⟩;rw[z,e]at c;injection c with c;unfold wD at c;injection c with c;obtain⟨q,g⟩:=JC (a:=a) i;obtain⟨u,_,_,_,_,t,v,x,m,_,l,_⟩:=(congrFun c q).mpr g;rw[g]at m;cases m;rw[i]at l;cases l
theorem LT.krep (h:LT Pt H)(b:bU Pt H H')(r:dM H ds kvs):dM H' ds kvs:=Paired.mapP r λ_ _ z=>⟨z.1,h.rep b z.2⟩
theorem N8 (t:UC a b H H')(n1:∀xs,H a≠some (.tup xs)/\H a≠some (.lst xs))(n2:∀xs,H b≠some (.tup xs)/\H b≠some (.lst xs))(r:aY H d v):aY H' d v:=by have f:aY (del H a) d v:=aY.but (p:=a) (H:=H) (λc o n e=>eL e n) (λxs=>(n1 xs).1) (λxs=>(n1 xs).2) r;refine aY.but (p:=b) (H:=del H a) (λc o n e=>?_) (λxs z=>(n2 xs).1 (dH z).1) (λxs z=>(n2 xs).2 (dH z).1) f;obtain⟨h,g⟩:=dH e;exact t c o g n h
theorem FD (sm:cE)(fs:List (Str×D))(x:Str)(d:D):flatF sm (fs++[(x,d)])=flatF sm fs++[(x,flt sm d)]:=ba ..
theorem JJ:∀p∈flatF sm fs,∃q∈fs,q.1=p.1:=λp d=>by obtain⟨q,c,rfl⟩:=cx.mp d;exact⟨q,c,rfl⟩
theorem vA (sm:cE)(fs:List (Str×D)):(flatF sm fs).map (·.1)=fs.map (·.1):=by unfold flatF;rw[cm];rfl
theorem IH (F:fP K "looked_over" "looked_over" fE f fd)(T:Txt mg)(t:dG P w K mg base bJ 5 "check_filling" (BB K C))(J:dG P w K mg base bJ 9 "put_in" (oB K C Pt))(B:dG P w K mg base bJ 1 "without_idle" KO):cA P w K mg base bJ 10 f fd m8 (tW K C Pt):=by
 refine F.ok t8 (λvs H Q E h=>?_) (λcdv A outer s H vs Q E Z h=>?_)
 ·obtain⟨g,a,fx,sm,os,fs,I,rfl,_⟩:=h;rfl
 ·obtain⟨g,a,fx,sm,os,fs,I,rfl,sg,ha,rep,O,lt,q⟩:=h;have hu:=Z.units
  refine⟨_,(aD (cU (aL t (Z.mono (by decide)) pass0 rfl (aA (pv 0) (aA (pv 1) aB))))
   (aF (aO (aL B (Z.mono (by decide)) pass0 rfl (aA (F9 (oS rfl (bF.by (N:=j4) (names:=(aH fE).names) (N':=["wish","term","signs"]) (src:=[none,none,some 0]) (by decide +kernel) rfl rfl) (qB (pv 1)) (λ_ _ _ _=>(cL K rfl (i:=0) (j:=1) rfl (show List.Nodup (["wish","term","signs"]:aT)by decide +kernel) rfl rfl rfl rfl)) (λ_ _ _ _=>eF) (λ_ _ _ _=>(pv 0)) (λ_ _ _ _=>(aL J (Z.mono (by decide)) pass0 rfl (aA (pv 2) (@zJ _ _ _ _ (aA (pv 1) aB))))))) aB))))),?_⟩
  try dsimp only[cxOf,Cx.nox]
  clear Z F T hu t J B;refine⟨_,rfl,_,rfl,g,a,fx,sm,os,fs,I,rfl,sg,ha,rep,O,λH1 s1=>?_⟩;have sg1:=sg.same (kJ s1);have L:=s1 _ _ ha;have rep1:=rep.same s1;have W:=lt.same s1;refine⟨_,rfl,a,I,rfl,L,λo=>?_⟩;have nt:∀xs,H1 a≠some (.tup xs)/\H1 a≠some (.lst xs):=λxs=>⟨λz=>(by rw[L]at z;cases z),λz=>(by rw[L]at z;cases z)⟩
  obtain⟨ps,eP⟩:=W.tbl;have nP:∀xs,H1 Pt≠some (.tup xs)/\H1 Pt≠some (.lst xs):=λxs=>⟨λz=>(by rw[eP]at z;cases z),λz=>(by rw[eP]at z;cases z)⟩
  have naP:a≠Pt:=W.ne L λ_=>by simp
  have kl:=EU rep;have l20:=O.ln;refine n6 (P:=P) (w:=w) (V3 P w g a Pt o I fs sm H1) ⟨⟨_,_,rfl⟩,λc u n _ e=>by rw[aC n];exact e,upd_same,W.butD (bU.upd _ _ _) L,.nil,ax _⟩ (λi G σ H' h=>h.wd) ?_ ?_
  ·rintro i k v T0 G σ R hk ⟨⟨o0,o1,rfl⟩,bt,h2,U,ra,la⟩ hT;obtain⟨x,d,hf,rfl,rd⟩:=EV rep1 hk;have il:=(cr.mp hf).1;have X:RC fx sm os d:=(O.ok _ (bj hf)).2;have sT:aG R (upd R T0 (.tup [kV (Sum.inr x),v])):=aG.upd hT;have gT:upd R T0 (.tup [kV (Sum.inr x),v]) T0=some (.tup [kV (Sum.inr x),v]):=upd_same;generalize upd R T0 (.tup [kV (Sum.inr x),v])=H3 at sT gT⊢;refine⟨T0,_,rfl,iG.of gT,rfl,_,_,rfl,_,_,rfl,rfl,?_⟩;refine⟨_,rfl,_,rfl,λe he=>?_⟩;have S:=sT.trans (aG.upd (o:=.dK []) he);have g4:upd H3 e (.dK []) e=some (.dK []):=upd_same;generalize upd H3 e (.dK [])=H4 at S g4⊢;have bt4:UC a Pt H1 H4:=λc u n1 n2 z=>S _ _ (bt c u n1 n2 z);have rd4:aY H4 d v:=N8 bt4 nt nP rd;have sg4:gN K C fx sm H4 g:=by refine((W.butD (λc u n z=>eL z n) L).sg (H':=del H4 a) (λc u n z=>?_) sg1).same (pC _ _);obtain⟨z1,z2⟩:=dH z;exact eL (bt4 c u z2 n z1) z2
   have tmO:=iW X.so X.ho X.tm;have l50:lvs d<=50:=X.lv;refine⟨_,rfl,e,g,fx,sm,D.str,[],d,v,rfl,g4,ph0,pb0,sg4,rd4,tmO.1,bT X.so,by have:=tmO.2;lia,X.nd,X.dp,U.same S,λv' H5 b5 lt5 r5=>?_⟩;rw[FC X.tm]at r5;have new:=GR O.nd hf JJ ra;have hs:=FD sm (fs.take i) x d;rw[←take_snoc hf]at hs;refine⟨Sum.inr x,rfl,aj (m:=20) (by lia) (by decide),⟨_,_,rfl⟩,λc u n1 n2 z=>b5 c u n2 (bt4 c u n1 n2 z),b5 _ _ naP (S _ _ h2),lt5,?_,?_⟩
   ·rw[putK_new new,hs,EW];exact xP ((U.same S).krep b5 (ra.same S)) r5
   ·rw[putK_new new,av,ck]
    lia
  ·rintro G σ R ⟨⟨o0,o1,rfl⟩,bt,h2,U,ra,la⟩ p hp;rw[kl,bw]at ra;have np:a≠p:=aE h2 hp;refine⟨_,.inr ⟨a,o,I,by rw[aC np];exact h2,rfl⟩,?_⟩;have hpn:upd (upd R p (.dK G)) a (.dK I) p=some (.dK G):=by rw[aC np.symm];exact upd_same
   have b3:bU Pt H1 (upd (upd R p (.dK G)) a (.dK I)):=λc u n z=>by
    by_cases e:c=a
    ·rw[e,upd_same,←L,←e];exact z
    ·rw[aC e];exact aG.upd hp _ _ (bt c u e n z)
   have Y:LT Pt (upd (upd R p (.dK G)) a (.dK I)):=by have l2:=U.same (aG.upd (o:=.dK G) hp);exact l2.butW (bU.upd _ _ _) (by rw[aC np];exact h2)
   have ra3:dM (upd (upd R p (.dK G)) a (.dK I)) (kd (flatF sm fs)) G:=by
    refine dM.but (p:=a) (H:=upd R p (.dK G)) (bU.upd _ _ _) (λxs z=>?_) (λxs z=>?_) (ra.same (aG.upd hp))
    ·rw[aC np,h2]at z;cases z
    ·rw[aC np,h2]at z;cases z
   generalize upd (upd R p (.dK G)) a (.dK I)=H3 at hpn b3 Y ra3⊢;refine⟨p,flatF sm fs,G,rfl,hpn,ra3,by rw[vA];exact O.nd,λr Z=>?_,by unfold flatF;rw[ae];exact l20,λl kvs' H4 S hl gl r4=>?_⟩
   ·obtain⟨r',hr',rfl⟩:=cx.mp Z;have:=mO sm r'.2;have:=(O.ok r' hr').2.dp;show depD (flt sm r'.2)<=50
    lia
   ·refine q l kvs' H4 (λc u n z=>S _ _ (b3 c u n (s1 _ _ z))) (Y.same S) ?_ gl r4;cases z:H l with
    | none=>rfl
    | some u =>
     by_cases e:l=Pt
     ·obtain⟨ps',e'⟩:=Y.tbl;rw[e,e']at hl;cases hl
     ·rw[b3 l u e (s1 _ _ z)]at hl;cases hl
noncomputable def nsm (sm:cE):cE:=sm.filter λr=>decide (r.2≠("" : Str))
theorem L0 (sm:cE)(r:Str×Str):nsm (sm++[r])=nsm sm++(if r.2=("" : Str)then []else [r]):=by
 unfold nsm;rw[List.filter_append];congr 1;by_cases e:r.2=("" : Str)
 ·rw[ai e,List.filter_cons_of_neg (by simp[e]),List.filter_nil]
 ·rw[ab e,List.filter_cons_of_pos (by simp[e]),List.filter_nil]
theorem HE (k:(!eqD (.str x) (.str y))=false):x=y:=by
 have e:eqD (.str x) (.str y)=decide (x=y):=by show(x == y)=_;rw[cf];simp
 rw[e]at k
 simpa using k
theorem PQ (k:eqD (.lst ds) (.lst [])=false):ds≠[]:=λz=>by rw[z,gK]at k;cases k
def KK:Sp:=λvs H Q _=>∃(p t o:Addr) (fx:cP) (sm:cE) (os:aT) (x:Str),vs=[.ref p,.ref t,.str x]/\l7 p t o fx sm os H/\x∈os /\
 ∀(d:D) (v:V) (H':Hp),bU p H H'->bE H' p->aY (nw H H') d v->aZ fx sm os d->lvs d<=7->depD d<=8->Q v H'
def V0 (sm:cE)(H:Hp)(i:Nat)(c:List V)(σ:St)(d:Hp):Prop:=∃e o1:Option V,σ=[e,o1]/\aG H d/\dW d (nsm (sm.take i)) c/\c.length<=i
theorem xC:∀{c:cE} {hv:List V},dW H c hv->Reps H (c.map λr=>D.tup [.str r.1,.str r.2]) hv
 | [],_,e=>e
 | r::_,_,⟨t,us,e,h,q⟩=>⟨.ref t,us,e,⟨t,_,rfl,h,_,_,rfl,rfl,_,_,rfl,rfl,rfl⟩,xC q⟩
theorem CZ:∀c:cE,depDs (c.map λr=>D.tup [.str r.1,.str r.2])<=1
 | []=>ax _
 | r::c=>by
  have d:=CZ c;rw[bf,depDs];show max 1 _<=1
  lia
theorem BU (b:bU p H H')(c:H p≠none->H' p≠none)(e:H' a=none):H a=none:=by
 cases z:H a with
 | none=>rfl
 | some u =>
  by_cases n:a=p
  ·exact absurd (n ▸ e) (c (n ▸ z ▸ by simp))
  ·rw[b a u n z]at e;cases e
theorem O7 (F:fP K "_law_own" "_law_own" iY f fd)(T:Txt mg)(c:dG P w K mg base bJ 1 "_law_take" fY):cA P w K mg base bJ 2 f fd vR KK:=by
 refine F.ok jF (λvs H Q E h=>?_) (λcdv A outer s H vs Q E C h=>?_)
 ·obtain⟨p,t,o,fx,sm,os,x,rfl,_⟩:=h;rfl
 ·obtain⟨p,t,o,fx,sm,os,x,rfl,hin,hx,q⟩:=h;have R:=C.units
  refine⟨_,(aD (iQ (i:=3) jF.nd rfl rfl rfl rfl (bF.by (N:=nZ) (names:=(aH iY).names) (N':=["_law_name","_law_nought"]) (src:=[none,none]) (by decide +kernel) rfl rfl) (cV K rfl (bM cY (pv 1) aJ (λ_ _=>rfl))) (λ_ _ _ _=>(cL K rfl (i:=0) (j:=1) rfl (show List.Nodup (["_law_name","_law_nought"]:aT)by decide +kernel) rfl rfl rfl rfl)) (λ_ _ _ _=>(k8 (aU (dS R) (pv 1) gW (nomark _)))) (λ_ _ _ _=>(fA (aA (pv 0) (aA (pv 1) aB)))))
   (aD (aW (i:=4) jF.nd rfl (Or.inl rfl) (aL c (C.mono (by decide)) pass0 rfl (aA (pv 0) (aA aJ aB))))
   (aD (bH (PW.pt (kG (aU (dL R) (pv 3) (cF aB) (nomark _)) (iK (aU (dL R) (pv 4) aJ (nomark _))))) (aF (aO (pv 2))) aS)
   (aD (uE (bM cY (pv 3) (aL c (C.mono (by decide)) pass0 rfl (aA (pv 0) (aA (aK bG rfl T.n_len rfl (aA (pv 3) aB)) aB))) (λ_ _=>rfl)) (cL K rfl (i:=5) (j:=6) rfl jF.nd rfl rfl rfl rfl))
   (aD (bH (aU (dL R) (pv 4) aJ (nomark _)) (aF (aO (fA (aA (pv 5) (aA (pv 6) (aA (pv 2) aB)))))) aS)
   (aF (aO (cF (aA (pv 5) (aA (pv 2) (aA (cF (aA (pv 5) (aA (pv 6) (aA (pv 6) aB)))) aB))))))))))),?_⟩
  try dsimp only[cxOf,Cx.nox]
  clear C F T R c;obtain⟨hp,⟨a,b,fv,sv,ht,ha,hb,rf,rs,nap,nbp⟩,ol,so,o1,o2⟩:=hin;have s3:=so.s2;simp only[tComp_fn];refine⟨_,rfl,.ref b,by rw[ixV_t ht];rfl,b,sv,rfl,.inl hb,λJ hJ=>?_⟩;refine cR hJ (V0 sm H) ⟨_,_,rfl,aG.refl _,rfl,ax _⟩ (λi d σ H' _ ⟨_,_,_,s',_⟩=>by rw[hb];exact s' _ _ hb) ?_ ?_
  ·rintro i v d σ H1 hv ⟨o0,o1',rfl,W,ra,la⟩;obtain⟨r,tr,C,rfl,X⟩:=dW.get rs hv;have htr1:=W _ _ X;have il:=(cr.mp C).1;have hs:=L0 (sm.take i) r;rw[←take_snoc C]at hs;refine⟨tr,_,rfl,iG.of htr1,rfl,_,_,rfl,_,_,rfl,rfl,?_⟩;refine⟨_,rfl,.str r.2,.str "",rfl,rfl,ax _,_,rfl,ite_on (λk=>?_) λk=>?_⟩
   ·have e:¬r.2=("" : Str):=λz=>by rw[z]at k;exact absurd k (by decide +kernel)
    rw[ab e]at hs;refine⟨_,rfl,_,rfl,show 2<=sizeLine by decide,λn hn=>⟨aj (m:=3) (by lia) (by decide),_,_,rfl,W.trans (aG.upd hn),?_,by rw[av,ck];lia⟩⟩;rw[hs];exact dW.snoc upd_same (ra.same (bC.of (aG.upd hn)))
   ·have e:r.2=("" : Str):=HE k;rw[ai e,bp]at hs;exact⟨_,_,rfl,W,by rw[hs];exact ra,by lia⟩
  ·rintro d σ H1 ⟨o0,o1',rfl,W,ra,la⟩ l hl;have lsv:=dW.len rs;rw[lsv,bw]at ra;have s2:aG H (upd H1 l (.lst d)):=W.trans (aG.upd hl);have l2:upd H1 l (.lst d) l=some (.lst d):=upd_same;have r2:=ra.same (bC.of (aG.upd (o:=.lst d) hl));have hlH:H l=none:=W.free hl;have la3:d.length<=3:=by lia
   generalize upd H1 l (.lst d)=H2 at s2 l2 r2⊢;clear ra la W hl;have hp2:bE H2 p:=by obtain⟨O,L,e⟩:=hp;exact⟨O,L,s2 _ _ e⟩
   have nlp:l≠p:=λz=>by obtain⟨O,L,e⟩:=hp;rw[←z,hlH]at e;cases e
   refine⟨_,rfl,p,3,rfl,hp2,by decide,by decide,λway O L w0 w3=>?_⟩;have b3:bU p H (upd H2 p (.lst [.int O,.int L])):=s2.but.trans (bU.upd _ _ _);have p3:bE (upd H2 p (.lst [.int O,.int L])) p:=⟨_,_,upd_same⟩
   have l3:upd H2 p (.lst [.int O,.int L]) l=some (.lst d):=by rw[aC nlp];exact l2
   have r3:=r2.same (bC.ofBut (bU.upd p H2 (.lst [.int O,.int L])) hp2);generalize upd H2 p (.lst [.int O,.int L])=H3 at b3 p3 l3 r3⊢;have ret:∀g,aG H3 g->Q (.str x) g:=λg B=>q (.str x) (.str x) g (b3.trans B.but) (by obtain⟨U,S,e⟩:=p3;exact⟨U,S,B _ _ e⟩) rfl (by unfold aZ;exact .inl hx) (by rw[lvs] <;> simp) (ax _);refine⟨_,rfl,ax _,λu R=>?_⟩;have B:aG H3 (upd H3 u (.lst [])):=aG.upd R;have u4:upd H3 u (.lst []) u=some (.lst []):=upd_same;have l4:=B _ _ l3;have r4:=r3.same (bC.of B);have p4:bE (upd H3 u (.lst [])) p:=p3.but (p3.ne R);have b4:=b3.trans (B.but (p:=p));generalize upd H3 u (.lst [])=g at B u4 l4 r4 p4 b4⊢;refine⟨.lst ((nsm sm).map λr=>D.tup [.str r.1,.str r.2]),.lst [],⟨l,d,rfl,l4,xC r4⟩,⟨u,[],rfl,u4,rfl⟩,?_,_,rfl,ite_on (λk=>⟨_,rfl,ret g B⟩) λk=>?_⟩
   ·have:=CZ (nsm sm);rw[depD]
    lia
   refine⟨_,rfl,.int way,.int 0,rfl,rfl,ax _,_,rfl,ite_on (λk2=>⟨_,rfl,ret g B⟩) λk2=>?_⟩;have ne0:nsm sm≠[]:=λz=>PQ k (by rw[z];rfl);have lacc:d.length=(nsm sm).length:=dW.len r4;have pos:0<d.length:=by rw[lacc];exact List.length_pos_iff.mpr ne0
   clear r3 l3 p3 b3 B;refine⟨_,rfl,_,rfl,_,rfl,_,_,rfl,by show(Option.map _ ((lenV g (.ref l)).bind _))=_;rw[lenV_l l4];rfl,p,d.length,rfl,p4,by lia,by lia,λj U S j0 j1=>?_⟩;have hj:j.toNat<d.length:=by lia
   have b5:bU p H (upd g p (.lst [.int U,.int S])):=b4.trans (bU.upd _ _ _);have Z:bE (upd g p (.lst [.int U,.int S])) p:=⟨_,_,upd_same⟩
   have l5:upd g p (.lst [.int U,.int S]) l=some (.lst d):=by rw[aC nlp];exact l4
   have r5:=r4.same (bC.ofBut (bU.upd p g (.lst [.int U,.int S])) p4);generalize upd g p (.lst [.int U,.int S])=H5 at b5 Z l5 r5⊢;obtain⟨r,tr,C,er,X⟩:=dW.get r5 (az hj);refine⟨d[j.toNat],by rw[ixV_l l5,jW j0 j1,az hj],?_⟩;rw[er];refine⟨tr,_,rfl,iG.of X,rfl,_,_,rfl,_,_,rfl,rfl,?_⟩;have rm:=da.mp (bj C);have hz:r.2∈zeros fx:=so.nought r rm.1 (bu rm.2);have hn:r.1∈sm.map (·.1):=List.mem_map_of_mem rm.1;have dn:∀{a:Addr},H5 a=none->H a=none:=λ{a} e=>BU b5 (λ_=>by obtain⟨x3,y3,e3⟩:=Z;rw[e3];simp) e;refine⟨_,rfl,.int way,.int 1,rfl,rfl,ax _,_,rfl,ite_on (λk3=>?_) λk3=>?_⟩
   ·refine⟨_,rfl,_,rfl,_,rfl,show 3<=sizeLine by decide,λn Y=>?_⟩;refine q (.tup [.str r.1,.str r.2,.str x]) (.ref n) _ (b5.trans (bU.new Y)) (Z.but (Z.ne Y)) ⟨n,_,rfl,fB.mpr ⟨dn Y,upd_same⟩,_,_,rfl,rfl,_,_,rfl,rfl,_,_,rfl,rfl,rfl⟩ ?_ (by simp[lvs,lvss]) (by simp[depD,depDs]);unfold aZ IsTms IsTms IsTms aZ;exact⟨.inr ⟨by simp,hn⟩,.inr hz,.inl hx,trivial⟩
   ·refine⟨_,rfl,_,rfl,_,rfl,_,rfl,_,rfl,show 3<=sizeLine by decide,λn1 I=>⟨show 3<=sizeLine by decide,λn2 G=>?_⟩⟩;have e1:upd H5 n1 (.lst [.str r.1,.str r.2,.str r.2]) n1=some (.lst [.str r.1,.str r.2,.str r.2]):=upd_same;have p6:=Z.but (o:=.lst [.str r.1,.str r.2,.str r.2]) (Z.ne I);refine q (.lst [.str r.1,.str x,.lst [.str r.1,.str r.2,.str r.2]]) (.ref n2) _ ((b5.trans (bU.new I)).trans (bU.new G)) (p6.but (p6.ne G)) ⟨n2,_,rfl,fB.mpr ⟨dn (aG.free (aG.upd I) G),upd_same⟩,_,_,rfl,rfl,_,_,rfl,rfl,.ref n1,_,rfl,⟨n1,_,rfl,fB.mpr ⟨dn I,?_⟩,_,_,rfl,rfl,_,_,rfl,rfl,_,_,rfl,rfl,rfl⟩,rfl⟩ ?_ (by simp[lvs,lvss]) (by simp[depD,depDs])
    ·rw[aC (aE e1 G)];exact e1
    ·unfold aZ IsTms IsTms IsTms aZ IsTms IsTms IsTms aZ;exact⟨.inr ⟨by simp,hn⟩,.inl hx,⟨.inr ⟨by simp,hn⟩,.inr hz,.inr hz,trivial⟩,trivial⟩
noncomputable def putF (fs:List (Str×D))(x:Str)(d:D):List (Str×D):=if fs.any (λp=>decide (p.1=x))then fs.map (λp=>if p.1=x then(p.1,d)else p)else fs++[(x,d)]
theorem ME (r:aY H d v):∀{fs:List (Str×D)} {f:List (cM×V)},dM H (kd fs) f->dM H (kd (putF fs x d)) (putK f (Sum.inr x) v):=by
 intro fs f h;have j:(f.any λkv=>decide (kv.1=Sum.inr x))=fs.any (λp=>decide (p.1=x)):=by
  unfold dM kd at h;generalize g:(fs.map λp=>((Sum.inr p.1:cM),p.2))=m at h
  induction h generalizing fs with
  | nil =>
   cases fs with
   | nil=>rfl
   | cons a l=>cases g
  | cons a _ i =>
   cases fs with
   | nil=>cases g
   | cons b l =>
    cases g;rw[List.any_cons,List.any_cons,i rfl,←a.1];congr 1;by_cases e:b.1=x
    ·rw[bi e,bi (show(Sum.inr b.1:cM)=Sum.inr x from congrArg Sum.inr e)]
    ·rw[bo e,bo λz=>e (Sum.inr.inj z)]
 unfold putK putF;rw[j];by_cases c:fs.any (λp=>decide (p.1=x))=true
 ·rw[ai c,ai c];clear j c;unfold dM kd at *;generalize g:(fs.map λp=>((Sum.inr p.1:cM),p.2))=m at h
  induction h generalizing fs with
  | nil =>
   cases fs with
   | nil=>exact .nil
   | cons a l=>cases g
  | @cons p q ps qs a _ i =>
   cases fs with
   | nil=>cases g
   | cons b l =>
    cases g;rw[bf,bf,bf];refine .cons ?_ (i rfl);by_cases e:b.1=x
    ·rw[ai e,ai (a.1.symm.trans (congrArg Sum.inr e))];exact⟨a.1,r⟩
    ·rw[ab e,ab (λz=>e (Sum.inr.inj (a.1.trans z)))];exact a
 ·rw[ab c,ab c,EW];exact Paired.snoc h ⟨rfl,r⟩
theorem HV (nd:(fs.map (·.1)).Nodup):((putF fs x d).map (·.1)).Nodup/\(putF fs x d).length<=fs.length+1/\∀p∈putF fs x d,p∈fs∨p=(x,d):=by
 unfold putF;by_cases c:fs.any (λp=>decide (p.1=x))=true
 ·rw[ai c];refine⟨?_,by rw[ae];lia,λp g=>?_⟩
  ·rw[cm];have e:((λx:Str×D=>x.1) ∘ λp=>if p.1=x then(p.1,d)else p)=λp:Str×D=>p.1:=by funext p;show(if p.1=x then(p.1,d)else p).1=p.1;split <;> rfl
   rw[e];exact nd
  ·obtain⟨q,f,rfl⟩:=cx.mp g;by_cases e:q.1=x
   ·rw[ai e,e];exact .inr rfl
   ·rw[ab e];exact .inl f
 ·rw[ab c];refine⟨?_,by rw[av];exact ac _,λp g=>?_⟩
  ·rw[ba];refine List.nodup_append.mpr ⟨nd,cz.mpr ⟨by simp,List.nodup_nil⟩,λa i b hb z=>c ?_⟩;rw[List.map_singleton,cs]at hb;obtain⟨q,f,e⟩:=cx.mp i;exact List.any_eq_true.mpr ⟨q,f,bi (by rw[e,z,hb])⟩
  ·exact(cw.mp g).imp id λh=>cs.mp h
def i0 (c:cP)(sm:cE)(os:aT)(fs:List (Str×D)):Prop:=∀p∈fs,p.1∈os/\aZ c sm os p.2/\lvs p.2<=7/\depD p.2<=8
def wZ:Sp:=λvs H Q _=>∃(p t o:Addr) (fx:cP) (sm:cE) (os:aT),vs=[.ref p,.ref t,.ref o]/\l7 p t o fx sm os H /\
 ∀(l:Addr) (fs:List (Str×D)) (kvs:List (cM×V)) (H':Hp),bU p H H'->bE H' p->H l=none->H' l=some (.dK kvs)->dM (nwB l H H') (kd fs) kvs->(fs.map (·.1)).Nodup->fs.length<=12->i0 fx sm os fs->Q (.ref l) H'
def VT (p t o l:Addr)(many:Int)(d:cP)(sm:cE)(os:aT)(H:Hp)(i:Nat)(σ:St)(c:Hp):Prop:=∃(fs:List (Str×D)) (kvs:List (cM×V)) (o5 o6:Option V),σ=[some (.ref p),some (.ref t),some (.ref o),some (.ref l),some (.int many),o5,o6]/\bU p H c/\bE c p/\c l=some (.dK kvs)/\dM (nwB l H c) (kd fs) kvs/\(fs.map (·.1)).Nodup/\fs.length<=i/\i0 d sm os fs
theorem EG (F:fP K "_law_filling" "_law_filling" gG f fd)(T:Txt mg)(c:dG P w K mg base bJ 1 "_law_take" fY)(C:dG P w K mg base bJ 2 "_law_own" KK)(g:dG P w K mg base bJ 15 "_law_term" (nJ 11)):cA P w K mg base bJ 16 f fd mB wZ:=by
 refine F.ok dZ (λvs H Q E h=>?_) (λcdv A outer s H vs Q E N h=>?_)
 ·obtain⟨p,t,o,fx,sm,os,rfl,_⟩:=h;rfl
 ·obtain⟨p,t,o,fx,sm,os,rfl,L,q⟩:=h;have Z:=N.units
  refine⟨_,(aD (aW (i:=3) dZ.nd rfl (Or.inl rfl) BN)
   (aD (aW (i:=4) dZ.nd rfl (Or.inl rfl) (aL c (N.mono (by decide)) pass0 rfl (aA (pv 0) (aA aJ aB))))
   (aD (eE dh rfl (fT rfl T.n_range (aA (pv 4) aB)) (bP (i:=5) dZ.nd rfl (Or.inl rfl)) (aD (aW (i:=6) dZ.nd rfl (Or.inl rfl) (bM cY (pv 2) (aL c (N.mono (by decide)) pass0 rfl (aA (pv 0) (aA (aK bG rfl T.n_len rfl (aA (pv 2) aB)) aB))) (λ_ _=>rfl)))
   (aF (bH (aU (dL Z) (aL c (N.mono (by decide)) pass0 rfl (aA (pv 0) (aA aJ aB))) aJ (nomark _)) (aF (F7 (aj (bS (by decide) _) Z) (pv 3) (pv 6) (aL C (N.mono (by decide)) pass0 rfl (aA (pv 0) (aA (pv 1) (aA (pv 6) aB)))) rfl)) (aF (F7 (aj (bS (by decide) _) Z) (pv 3) (pv 6) (aL g (N.mono (by decide)) pass0 rfl (aA (pv 0) (aA (pv 1) (aA (pv 2) (aA (bK bQ aJ (aL c (N.mono (by decide)) pass0 rfl (aA (pv 0) (aA (bM cY (cF (aA aJ (aA aJ aB))) (bK sS (pv 4) aJ) (λ_ _=>rfl)) aB)))) (aA aJ aB)))))) rfl))))))
   (aF (aO (pv 3)))))),?_⟩
  try dsimp only[cxOf,Cx.nox]
  clear N F T Z c C g;simp only[tFor_fn];refine λl hl=>?_;have I:l≠p:=λz=>by obtain⟨x1,y1,e⟩:=L.1;rw[←z,hl]at e;cases e
  have hp0:H p≠none:=λz=>by obtain⟨x1,y1,e⟩:=L.1;rw[z]at e;cases e
  have b1:bU p H (upd H l (.dK [])):=bU.new hl;have p1:bE (upd H l (.dK [])) p:=L.1.but I.symm;have l1:upd H l (.dK []) l=some (.dK []):=upd_same;generalize upd H l (.dK [])=H1 at b1 p1 l1⊢;refine⟨_,rfl,p,13,rfl,p1,by decide,by decide,λmany x1 y1 m0 m1=>?_⟩;have b2:bU p H (upd H1 p (.lst [.int x1,.int y1])):=b1.trans (bU.upd _ _ _);have p2:bE (upd H1 p (.lst [.int x1,.int y1])) p:=⟨_,_,upd_same⟩
  have l2:upd H1 p (.lst [.int x1,.int y1]) l=some (.dK []):=by rw[aC I];exact l1
  generalize upd H1 p (.lst [.int x1,.int y1])=H2 at b2 p2 l2⊢;clear b1 p1 l1;refine⟨_,rfl,many,rfl,?_⟩;have c2:many<2 ^ 62:=by lia
  refine⟨by lia,c2,?_⟩;refine fR (VT p t o l many fx sm os H) ⟨[],[],_,_,rfl,b2,p2,l2,.nil,List.nodup_nil,ax _,λr N=>nomatch N⟩ ?_ ?_
  ·rintro i σ S hi ⟨fs,G,o5,o6,rfl,b3,p3,l3,rep,nd,ln,X⟩;clear b2 p2 l2;obtain⟨_,tl3,R,so,os1,os2⟩:=L.but b3 p3;have i12:i<13:=by lia
   refine⟨_,rfl,_,rfl,_,rfl,_,_,rfl,by show(Option.map _ ((lenV S (.ref o)).bind _))=_;rw[lenV_l R.1,ae];rfl,p,os.length,rfl,p3,by lia,by lia,λj x3 y3 j0 j1=>?_⟩;have hj:j.toNat<os.length:=by lia
   have hx:os[j.toNat]∈os:=List.getElem_mem hj;have b4:bU p H (upd S p (.lst [.int x3,.int y3])):=b3.trans (bU.upd _ _ _);have p4:bE (upd S p (.lst [.int x3,.int y3])) p:=⟨_,_,upd_same⟩
   have l4:upd S p (.lst [.int x3,.int y3]) l=some (.dK G):=by rw[aC I];exact l3
   have o4:upd S p (.lst [.int x3,.int y3]) o=some (.lst (os.map V.str)):=by rw[aC R.2];exact R.1
   have r4:dM (nwB l H (upd S p (.lst [.int x3,.int y3]))) (kd fs) G:=rep.same λa u e=>by obtain⟨⟨O,U⟩,g3⟩:=fL.mp e;exact fL.mpr ⟨⟨O,U⟩,by rw[aC (λz=>hp0 (by rw[←z];exact O))];exact g3⟩
   generalize upd S p (.lst [.int x3,.int y3])=H4 at b4 p4 l4 o4 r4⊢;clear b3 p3 l3 rep tl3 R;refine⟨.str os[j.toNat],by rw[ixV_l o4,jW j0 (by rw[ae];exact j1),bI,az hj];rfl,?_⟩;generalize os[j.toNat]=x at hx;refine⟨_,rfl,p,6,rfl,p4,by decide,by decide,λk6 x5 y5 _ _=>?_⟩;have b5:bU p H (upd H4 p (.lst [.int x5,.int y5])):=b4.trans (bU.upd _ _ _);have p5:bE (upd H4 p (.lst [.int x5,.int y5])) p:=⟨_,_,upd_same⟩
   have l5:upd H4 p (.lst [.int x5,.int y5]) l=some (.dK G):=by rw[aC I];exact l4
   have r5:dM (nwB l H (upd H4 p (.lst [.int x5,.int y5]))) (kd fs) G:=r4.same λa u e=>by obtain⟨⟨O,U⟩,g3⟩:=fL.mp e;exact fL.mpr ⟨⟨O,U⟩,by rw[aC (λz=>hp0 (by rw[←z];exact O))];exact g3⟩
   generalize upd H4 p (.lst [.int x5,.int y5])=H5 at b5 p5 l5 r5⊢;clear b4 p4 l4 o4 r4;have put:∀(H0:Hp) (d:D) (v:V) (J:Hp),bU p H5 H0->bE H0 p->(∀a,H0 a=none->H5 a=none)->bU p H0 J->bE J p->aY (nw H0 J) d v->aZ fx sm os d->lvs d<=7->depD d<=8 ->
     VT p t o l many fx sm os H (i+1) [some (.ref p),some (.ref t),some (.ref o),some (.ref l),some (.int many),some (.int (0+i)),some (.str x)] (upd J l (.dK (putK G (Sum.inr x) v)))/\G.length<sizeLine/\J l=some (.dK G):=λH0 d v J b0 p0 f0 b6 p6 r6 W Y dp6=>by
    have l0:=b0 _ _ I l5;have l6:=b6 _ _ I l0;have hn:∀a,H0 a=none->H a=none:=λa e=>BU b5 (λ_=>by obtain⟨x9,y9,e9⟩:=p5;rw[e9];simp) (f0 a e);have s0:aG (nwB l H H5) (nwB l H (upd J l (.dK (putK G (Sum.inr x) v)))):=λa u e=>by obtain⟨⟨O,U⟩,g3⟩:=fL.mp e;have nap:a≠p:=λz=>hp0 (by rw[←z];exact O);exact fL.mpr ⟨⟨O,U⟩,by rw[aC U];exact b6 a u nap (b0 a u nap g3)⟩
    have rd:aY (nwB l H (upd J l (.dK (putK G (Sum.inr x) v)))) d v:=aY.same (λa u e=>by
     obtain⟨O,U⟩:=fB.mp e;have nal:a≠l:=λz=>by rw[z,l0]at O;cases O
     exact fL.mpr ⟨⟨hn a O,nal⟩,by rw[aC nal];exact U⟩) r6
    obtain⟨k1,k2,k3⟩:=HV (x:=x) (d:=d) nd;have kl:=EU r5;refine⟨⟨putF fs x d,_,_,_,rfl,AM ((b5.trans b0).trans b6) hl,p6.but I.symm,upd_same,ME rd (r5.same s0),k1,by lia,λr N=>?_⟩,aj (m:=13) (by lia) (by decide),l6⟩;rcases k3 r N with h|h
    ·exact X r h
    ·rw[h];exact⟨hx,W,Y,dp6⟩
   refine⟨.int k6,.int 0,rfl,rfl,ax _,_,rfl,ite_on (λk=>?_) λk=>?_⟩
   ·refine⟨_,rfl,_,rfl,_,rfl,p,t,o,fx,sm,os,x,rfl,L.but b5 p5,hx,λd v J b6 p6 r6 W Y dp6=>?_⟩;obtain⟨z1,z2,z3⟩:=put H5 d v J (bU.refl _ _) p5 (λ_ e=>e) b6 p6 r6 W Y dp6;exact⟨_,rfl,_,rfl,l,_,rfl,J3.k (k:=Sum.inr x) z3 z2,z1⟩
   ·refine⟨_,rfl,_,rfl,_,rfl,_,rfl,show 2<=sizeLine by decide,λu Z=>?_⟩;have s6:aG H5 (upd H5 u (.lst [.int 7,.int 5])):=aG.upd Z;have u6:upd H5 u (.lst [.int 7,.int 5]) u=some (.lst [.int 7,.int 5]):=upd_same;have p6:bE (upd H5 u (.lst [.int 7,.int 5])) p:=p5.but (p5.ne Z);generalize upd H5 u (.lst [.int 7,.int 5])=J at s6 u6 p6⊢;obtain⟨B,hB,B0,B1⟩:∃B:Int,atI [V.int 7,V.int 5] (many / 9)=some (.int B)/\0<B/\B<=7:=by
     have:many / 9=0∨many / 9=1:=by lia
     rcases this with e|e
     ·rw[e];exact⟨7,by decide,by decide,by decide⟩
     ·rw[e];exact⟨5,by decide,by decide,by decide⟩
    refine⟨_,rfl,many,9,rfl,rfl,⟨by decide,by decide⟩,.int B,by rw[ixV_l u6];exact hB,p,B,rfl,p6,B0,by lia,λm7 x7 y7 m70 m71=>?_⟩;have b7:bU p H5 (upd J p (.lst [.int x7,.int y7])):=s6.but.trans (bU.upd _ _ _);have p7:bE (upd J p (.lst [.int x7,.int y7])) p:=⟨_,_,upd_same⟩
    have f7:∀a,upd J p (.lst [.int x7,.int y7]) a=none->H5 a=none:=λa e=>by
     by_cases z:a=p
     ·rw[z,upd_same]at e;cases e
     ·rw[aC z]at e;exact s6.free e
    generalize upd J p (.lst [.int x7,.int y7])=H7 at b7 p7 f7⊢;have e7:(1:Int)+m7=((1+m7.toNat:Nat):Int):=by lia
    refine .inl ⟨_,rfl,p,t,o,fx,sm,os,1+m7.toNat,8,by rw[←e7];rfl,L.but (b5.trans b7) p7,by lia,by lia,by lia,λd v H8 b8 p8 r8 tm8 lv8 dp8=>?_⟩;obtain⟨z1,z2,z3⟩:=put H7 d v H8 b7 p7 f7 b8 p8 r8 tm8 (by lia) dp8;exact⟨_,rfl,_,rfl,l,_,rfl,J3.k (k:=Sum.inr x) z3 z2,z1⟩
  ·rintro σ S ⟨fs,G,o5,o6,rfl,b3,p3,l3,rep,nd,ln,X⟩;exact⟨_,rfl,q l fs G S b3 p3 hl l3 rep nd (by lia) X⟩
mutual
theorem DR {j:cP}{sm:cE}{os:aT}:∀{d:D},aZ j sm os d->nds d<=lvs d * (depD d+1)
 | .str x,_=>by
  have m:lvs (.str x)=1:=by rw[lvs] <;> simp
  have l:nds (.str x)=1:=by unfold nds;rfl
  rw[m,l]
  lia
 | .tup (.str n::ds),h=>by
  have e:=DS h;unfold aZ at h;have i:=yT h.2;rw[lvs]at e;rw[lvs,nds,depD,depDs];show 1+ndss ds<=lvss ds * (max (depD (D.str n)) (depDs ds)+2);have c:depDs ds<=max (depD (D.str n)) (depDs ds):=Nat.le_max_right _ _;have g:=Nat.mul_le_mul_left (lvss ds) (Nat.add_le_add_right c 2);have f:lvss ds * (depDs ds+2)=lvss ds * (depDs ds+1)+lvss ds:=by rw[show depDs ds+2=(depDs ds+1)+1 from rfl,Nat.mul_succ]
  lia
 | .lst (.str n::ds),h=>by
  have e:=DS h;unfold aZ at h;have i:=yT h.2;rw[lvs]at e;rw[lvs,nds,depD,depDs];show 1+ndss ds<=lvss ds * (max (depD (D.str n)) (depDs ds)+2);have c:depDs ds<=max (depD (D.str n)) (depDs ds):=Nat.le_max_right _ _;have g:=Nat.mul_le_mul_left (lvss ds) (Nat.add_le_add_right c 2);have f:lvss ds * (depDs ds+2)=lvss ds * (depDs ds+1)+lvss ds:=by rw[show depDs ds+2=(depDs ds+1)+1 from rfl,Nat.mul_succ]
  lia
theorem yT {c:cP}{sm:cE}{os:aT}:∀{ds:List D},IsTms c sm os ds->ndss ds<=lvss ds * (depDs ds+1)
 | [],_=>by rw[ndss];lia
 | d::ds,h=>by
  have f:=DR h.1;have e:=yT h.2;rw[ndss,lvss,depDs,Nat.add_mul];have a1:=Nat.mul_le_mul_left (lvs d) (Nat.add_le_add_right (Nat.le_max_left (depD d) (depDs ds)) 1);have a2:=Nat.mul_le_mul_left (lvss ds) (Nat.add_le_add_right (Nat.le_max_right (depD d) (depDs ds)) 1)
  lia
end
theorem L3 {c:cP}{sm:cE}{os:aT}{d:D}(tm:aZ c sm os d)(l:lvs d<=7)(dp:depD d<=8):nds d<=63:=aq (DR tm) (Nat.mul_le_mul l (Nat.add_le_add_right dp 1))
theorem UH {c:cP}{sm:cE}{os:aT}{d:D}(so:bD c sm)(ho:∀x∈os,bO x)(tm:aZ c sm os d)(l:lvs d<=7)(dp:depD d<=8):RC c sm os d :=
 ⟨so,ho,tm,by lia,by have:=L3 tm l dp;lia,by lia⟩
theorem w5 {d:cP}{sm:cE}{os:aT}{fs:List (Str×D)}(so:bD d sm)(ho:∀x∈os,bO x)(nd:(fs.map (·.1)).Nodup)(ln:fs.length<=12)(s:i0 d sm os fs):VN d sm os fs :=
 ⟨nd,λp c=>⟨ho _ (s p c).1,UH so ho (s p c).2.1 (s p c).2.2.1 (s p c).2.2.2⟩,by lia⟩
theorem oW:∀p∈look sm fs,∃q∈fs,p=(q.1,flt sm q.2):=λp d=>by obtain⟨q,c,e⟩:=cx.mp (da.mp d).1;exact⟨q,c,e.symm⟩
theorem nO {c:cP}{sm:cE}{os:aT}{fs:List (Str×D)}(so:bD c sm)(ho:∀x∈os,bO x)(s:i0 c sm os fs):i0 c sm os (look sm fs):=λp f=>by obtain⟨q,e,rfl⟩:=oW p f;obtain⟨g,d,i,h⟩:=s q e;have tf:=E9 so ho d;have:=(iW so ho tf).2;have:=(iW so ho d).2;have:=FA sm q.2;have:=mO sm q.2;exact⟨g,tf,by show lvs (flt sm q.2)<=7;lia,by show depD (flt sm q.2)<=8;lia⟩
theorem IR (nd:(fs.map (·.1)).Nodup)(ln:fs.length<=12):((look sm fs).map (·.1)).Nodup/\(look sm fs).length<=12:=by have c:(look sm fs).Sublist (flatF sm fs):=List.filter_sublist;refine⟨?_,aq c.length_le (by unfold flatF;rw[ae];exact ln)⟩;have:=c.map (·.1);rw[vA]at this;exact nd.sublist this
theorem IQ {c:cP}{sm:cE}{os:aT}{fs:List (Str×D)}(so:bD c sm)(ho:∀x∈os,bO x)(s:i0 c sm os fs):look sm (look sm fs)=look sm fs:=by
 have e:flatF sm (look sm fs)=look sm fs:=by
  unfold flatF
  conv=>rhs;rw[←List.map_id (look sm fs)]
  refine List.map_congr_left λp f=>?_;obtain⟨q,d,rfl⟩:=oW p f;show(q.1,flt sm (flt sm q.2))=(q.1,flt sm q.2);rw[QC so ho (s q d).2.1]
 unfold look at *;rw[e];unfold idle;rw[List.filter_filter];simp
theorem tZ {j:cP}{sm:cE}{os:aT}:∀{fs:List (Str×D)},bD j sm->(∀x∈os,bO x)->i0 j sm os fs->UU (kd fs)/\PyData.leavesShortKv 13 (kvPd (kd fs))=true/\PyData.weightKv (kvPd (kd fs))<=2000 * fs.length
 | [],_,_,_=>⟨λp f=>(nomatch f),rfl,ax _⟩
 | (x,d)::fs,so,ho,s=>by
  obtain⟨a,b,c⟩:=tZ (fs:=fs) so ho λp f=>s p (bc _ f);obtain⟨q,i,o,h⟩:=s (x,d) ay;have h4':depD d<=8:=h;obtain⟨t1,m,t3⟩:=n9 so ho i;obtain⟨t,g,l⟩:=n9 so ho (d:=.str x) (by unfold aZ;exact .inl q);have n1:nds d<=63:=L3 i o h;have n2:nds (.str x)=1:=by unfold nds;rfl
  have t3':(pdOf d).weight+1<=30 * nds d:=t3;have e:kvPd (kd ((x,d)::fs))=(.str x,pdOf d)::kvPd (kd fs):=rfl;have r:pdOf (.str x) = .str x:=by unfold pdOf;rfl
  rw[r]at g l;refine⟨λp f=>?_,?_,?_⟩
  ·rcases cu.mp f with z|z
   ·subst z;exact⟨⟨x,rfl⟩,t1,by show depD d<=50;lia⟩
   ·exact a p z
  ·rw[e,PyData.leavesShortKv,g,b]
   simpa using m
  ·rw[e,PyData.weightKv,au]
   lia
theorem HM {e:cP}{sm:cE}{os:aT}{fs:List (Str×D)}(so:bD e sm)(ho:∀x∈os,bO x)(s:i0 e sm os fs)(ln:fs.length<=12):(eZ (kd fs)).length<=sizeLine:=by obtain⟨_,b,c⟩:=tZ so ho s;have d:=PyData.shown_le 13 (by decide) (.dict (kvPd (kd fs))) (by rw[PyData.leavesShort];exact b);rw[PyData.shown,PyData.weight]at d;unfold eZ;exact aq d (aq (m:=15 * 30000+13) (by lia) (by decide))
noncomputable def phF:List (Str×D)->Str->D
 | [],x=>.str x
 | p::r,x=>if p.1=x then p.2 else phF r x
theorem D6:∀{fs:List (Str×D)} {c:List (cM×V)},dM H (kd fs) c->NB H c (phF fs):=by
 intro fs
 induction fs with
 | nil=>intro c h x;cases h;exact rfl
 | cons p r d =>
  intro c h x;unfold dM at h;rw[show kd (p::r)=(Sum.inr p.1,p.2)::kd r from rfl]at h;cases h with
  | cons a t =>
   unfold phF;by_cases e:p.1=x
   ·rw[ai e,j9 (a.1.symm.trans (congrArg Sum.inr e))];exact a.2
   ·rw[ab e,kA λz=>e (Sum.inr.inj (a.1.trans z))];exact d t x
theorem oQ (fs:List (Str×D))(x:Str):(∃p∈fs,p.1=x/\phF fs x=p.2)∨(∀p∈fs,p.1≠x)/\phF fs x = .str x:=by
 induction fs with
 | nil=>exact .inr ⟨λp h=>(nomatch h),rfl⟩
 | cons p r f =>
  unfold phF;by_cases e:p.1=x
  ·exact .inl ⟨p,ay,e,ai e⟩
  ·rw[ab e];exact f.imp (λ⟨q,d,c⟩=>⟨q,bc _ d,c⟩) λ⟨d,c⟩=>⟨λq g=>(cu.mp g).elim (λz=>z ▸ e) (d q),c⟩
theorem R1 (f:Fl d)(h:eqD d (.str x)=true):d = .str x:=by
 rcases iL f with⟨y,rfl,_⟩|⟨m,c,rfl,_⟩
 ·rw[show y=x from eq_of_beq h]
 ·cases h
theorem QB (sm:cE)(x:Str):flt sm (.str x) = .str x:=by unfold flt;rfl
section
variable {fx:cP}{sm:cE}{os:aT}{fs:List (Str×D)}
theorem uG (so:bD fx sm)(ho:∀x∈os,bO x):∀{fs:List (Str×D)},(fs.map (·.1)).Nodup->i0 fx sm os fs->∀x,phF (look sm fs) x=flt sm (phF fs x):=by
 intro fs
 induction fs with
 | nil=>exact λ_ _ x=>(QB sm x).symm
 | cons p r c =>
  intro nd s x;obtain⟨n1,n2⟩:=cz.mp (bf ▸ nd);have c:=c n2 (λq g=>s q (bc _ g)) x;have f:=(qN (bT so) (iW so ho (s p ay).2.1).1).1;rw[phF];by_cases e:p.1=x
  ·rw[ai e];cases k:eqD (flt sm p.2) (.str p.1)with
   | true =>
    rw[show look sm (p::r)=look sm r by unfold look idle flatF;rw[bf,List.filter_cons_of_neg (by simp[k])]];rcases oQ (look sm r) x with⟨q,g,i,_⟩|⟨_,z⟩
    ·obtain⟨h,d,rfl⟩:=oW q g;exact absurd (List.mem_map_of_mem (f:=(·.1)) d) (by rw[show h.1=p.1 from i.trans e.symm];exact n1)
    ·rw[z,R1 f k,e]
   | false =>
    rw[show look sm (p::r)=(p.1,flt sm p.2)::look sm r by unfold look idle flatF;rw[bf,List.filter_cons_of_pos (by simp[k])],phF,ai e]
  ·rw[ab e,←c];cases k:eqD (flt sm p.2) (.str p.1)with
   | true=>rw[show look sm (p::r)=look sm r by unfold look idle flatF;rw[bf,List.filter_cons_of_neg (by simp[k])]]
   | false=>rw[show look sm (p::r)=(p.1,flt sm p.2)::look sm r by unfold look idle flatF;rw[bf,List.filter_cons_of_pos (by simp[k])],phF,ab e]
theorem Q5 (s:i0 fx sm os fs)(h:aZ fx sm os (.str x)):aZ fx sm os (phF fs x)/\lvs (phF fs x)<=7/\depD (phF fs x)<=8:=by
 rcases oQ fs x with⟨p,c,_,e⟩|⟨_,e⟩
 ·rw[e];exact(s p c).2
 ·rw[e];exact⟨h,by rw[lvs] <;> simp,ax _⟩
theorem OJ (so:bD fx sm)(ho:∀x∈os,bO x)(nd:(fs.map (·.1)).Nodup)(s:i0 fx sm os fs)(x:Str)(h:aZ fx sm os (.str x)):Gd sm (phF (look sm fs) x):=by have t:=(iW so ho (Q5 s h).1).1;have f:=qN (bT so) t;rw[uG so ho nd s x];exact⟨f.1,f.2,FB (bT so) t⟩
theorem SC (so:bD fx sm)(ho:∀x∈os,bO x)(s:i0 fx sm os fs):∀r∈sm,phF fs r.2 = .str r.2:=by
 intro r f;rcases oQ fs r.2 with⟨p,g,e,_⟩|⟨_,e⟩
 ·have c:=ho _ (s p g).1;rw[e]at c;by_cases z:r.2=("" : Str)
  ·rw[z]at c;obtain⟨l,h,_⟩:=c;have d:("" : Str).cps.size=0:=by decide
   rw[h]at d;simp at d
  ·exact(mW c (so.nm r.2 (ci _ ((gR fx).subset (so.nought r f z))))).elim
 ·exact e
theorem BP (so:bD fx sm)(ho:∀x∈os,bO x)(s:i0 fx sm os fs):UD (phF (look sm fs)):=by
 have s2:=nO so ho s;have one:∀x,(aZ fx sm os (phF (look sm fs) x)/\lvs (phF (look sm fs) x)<=7/\depD (phF (look sm fs) x)<=8/\Fl (phF (look sm fs) x)/\Nb (phF (look sm fs) x))∨phF (look sm fs) x = .str x:=λx=>by
  rcases oQ (look sm fs) x with⟨p,c,_,e⟩|⟨_,e⟩
  ·obtain⟨q,i,rfl⟩:=oW p c;rw[e];have z:=s2 _ c;exact .inl ⟨z.2.1,z.2.2.1,z.2.2.2,qN (bT so) (iW so ho (s q i).2.1).1⟩
  ·exact .inr e
 refine⟨λx h=>?_,λx=>?_,λx=>?_,λx=>?_⟩ <;> rcases one x with⟨g,f,d,j⟩|e
 ·exact j
 ·rw[e];exact pb0.fl x h
 ·rw[(iW so ho g).2];exact f
 ·rw[e];exact aq (pb0.sz x) (ac _)
 ·exact aq (L3 g f d) (by decide)
 ·rw[e];exact pb0.nd x
 ·exact d
 ·rw[e];exact pb0.dp x
end
def tY (K:PySem.W.Frag)(C Pt:Addr):Sp:=λvs H Q _=>∃(g a:Addr) (fx:cP) (sm:cE) (os:aT) (fs:List (Str×D)) (kvs:List (cM×V)) (d:D) (v:V),vs=[.ref g,.ref a,v]/\gN K C fx sm (del H a) g/\H a=some (.dK kvs)/\dM H (kd fs) kvs/\(fs.map (·.1)).Nodup/\fs.length<=12/\i0 fx sm os fs/\aY H d v/\RC fx sm os d/\LT Pt H /\
 ∀(c:V) (H':Hp),bU Pt H H'->LT Pt H'->aY H' (flf sm (phF (look sm fs)) d) c->Q c H'
theorem II (F:fP K "filled" "filled" oK f fd)(T:Txt mg)(c:dG P w K mg base bJ 10 "looked_over" (tW K C Pt))(e:dG P w K mg base bJ 3 "check_term" (sP K C))(j:dG P w K mg base bJ 9 "put_in" (oB K C Pt)):cA P w K mg base bJ 11 f fd DA (tY K C Pt):=by
 refine F.ok xA (λvs H Q E h=>?_) (λY A outer s H vs Q E G h=>?_)
 ·obtain⟨g,a,I,sm,os,fs,B,d,v,rfl,_⟩:=h;rfl
 ·obtain⟨g,a,I,sm,os,fs,B,d,v,rfl,sg,S,rep,nd,ln,m,O,tr,lt,q⟩:=h;have R:=G.units
  refine⟨_,(aD (aW (i:=3) xA.nd rfl (Or.inl rfl) (aL c (G.mono (by decide)) pass0 rfl (aA (pv 0) (aA (pv 1) aB))))
   (aD (cU (aL e (G.mono (by decide)) pass0 rfl (aA (pv 0) (aA (pv 2) aB))))
   (aF (aO (aL j (G.mono (by decide)) pass0 rfl (aA (pv 0) (aA (pv 3) (aA (pv 2) aB)))))))),?_⟩
  try dsimp only[cxOf,Cx.nox]
  clear G F T R c e j;refine⟨_,rfl,_,rfl,g,a,I,sm,os,fs,B,rfl,sg,S,rep,w5 tr.so tr.ho nd ln m,lt,λl t Z b1 L hl U r1=>?_⟩;have o:gN K C I sm Z g:=lt.sg b1 (sg.same (pC _ _));have p:=lt.rep b1 O;obtain⟨J,W⟩:=iW tr.so tr.ho tr.tm;have l1:=tr.lv;have X:=tr.dp;refine⟨_,rfl,_,rfl,g,I,sm,os,d,v,rfl,o,tr.so,tr.ho,p,tr.tm,by lia,by lia,tr.nd,λH2 s2=>?_⟩;exact⟨_,rfl,_,rfl,_,rfl,l,g,I,sm,phF (look sm fs),t,d,v,rfl,s2 _ _ U,D6 (r1.same s2),BP tr.so tr.ho m,o.same s2,aY.same s2 p,J,bT tr.so,by lia,tr.nd,X,L.same s2,λN H' b l r=>q N H' (λx u n z=>b x u n (s2 _ _ (b1 x u n z))) l r⟩
theorem iT (ψ:Str->D):∀ds:List D,putDs ψ ds=ds.map (putD ψ)
 | []=>rfl
 | d::ds=>by rw[putDs,iT ψ ds];rfl
def spPut (n:Nat):Sp:=λvs H Q _=>∃(a:Addr) (fx:cP) (sm:cE) (os:aT) (ψ:Str->D) (kvs:List (cM×V)) (d:D) (v:V),vs=[.ref a,v]/\H a=some (.dK kvs)/\NB H kvs ψ/\aY H d v/\aZ fx sm os d/\depD d<=n/\lvs d<=64 /\
 ∀(c:V) (H':Hp),aG H H'->aY H' (putD ψ d) c->Q c H'
def VW (a:Addr)(ψ:Str->D)(ds:List D)(H:Hp)(i:Nat)(c:List V)(σ:St)(d:Hp):Prop:=∃e:Option V,σ=[e,some (.ref a)]/\aG H d/\Reps d (putDs ψ (ds.take i)) c
theorem SO (n:Nat)(F:fP K "_law_put" "_law_put" fQ f fd)(T:Txt mg)(g:dG P w K mg base bJ (n+1) "_law_put" (λvs H Q E=>∃m,m<n/\spPut m vs H Q E)):cA P w K mg base bJ (n+2) f fd i5 (spPut n):=by
 refine F.ok BF (λvs H Q E h=>?_) (λcdv A outer s H vs Q E hr h=>?_)
 ·obtain⟨a,fx,sm,os,ψ,I,d,v,rfl,_⟩:=h;rfl
 ·obtain⟨a,fx,sm,os,ψ,I,d,v,rfl,t,ph,rep,tm,dn,l64,q⟩:=h;have hu:=hr.units
  refine⟨_,(aD (bH (aV K rfl (aK aM rfl T.n_isinstance rfl (aA (pv 1) (aA (bZ (v:=V.ty "str") rfl T.n_str rfl rfl) aB))) (λ_=>rfl)) (aF (aO (uI (aj (bS (by decide) _) hu) (pv 0) (pv 1) (pv 1) ⟨rfl,rfl,rfl,rfl⟩))) aS)
   (aF (aO (cH eM rfl T.n_tuple rfl (aA (bK bQ (cF (aA (bM cY (pv 1) aJ (λ_ _=>rfl)) aB)) (hV rfl (bF.by (N:=nY) (names:=(aH fQ).names) (N':=["_law_part","_law_filling_here"]) (src:=[none,some 0]) (by decide +kernel) rfl rfl) (cV K rfl (fH kQ (pv 1) (eG aJ) fK)) (λ_ _ _ _=>(bP (i:=0) (show List.Nodup (["_law_part","_law_filling_here"]:aT)by decide +kernel) rfl (Or.inl rfl))) (λ_ _ _ _=>eF) (λ_ _ _ _=>(aL g (hr.mono (by lia)) pass0 rfl (aA (pv 1) (aA (pv 0) aB)))))) aB))))),?_⟩
  try dsimp only[cxOf,Cx.nox]
  clear hr F T hu g;simp only[tComp_fn];rcases DT tm with⟨x,rfl,hx⟩|⟨nm,ds,hd,hdo,G⟩
  ·cases (show v = .str x from rep);refine⟨_,rfl,.str x,.ty "str",true,rfl,rfl,true,rfl,?_⟩;exact⟨_,rfl,a,rfl,.inl ⟨_,.inl t⟩,_,rfl,_,rfl,_,jE.k (k:=.inr x) t,q _ H (aG.refl _) (by unfold putD;exact ph x)⟩
  ·obtain⟨z,p,rfl,hbb,hseq,res⟩:∃z p,v = .ref z/\isV H (.ref z) (.ty "str")=some false/\eW H z (.str nm::p)/\Reps H ds p:=by
    rcases hd with rfl|rfl
    ·obtain⟨a,vs,rfl,t,_,p,rfl,e1,r⟩:=rep;cases e1;exact⟨a,p,rfl,lZ t,.inr t,r⟩
    ·obtain⟨a,vs,rfl,t,_,p,rfl,e1,r⟩:=rep;cases e1;exact⟨a,p,rfl,qM t,.inl t,r⟩
   have ix0:ixV H (.ref z) (.int 0)=some (.str nm):=by
    rcases hseq with e|e
    ·rw[ixV_l e,atI_zero]
    ·rw[ixV_t e,atI_zero]
   have hpt:=sQ (ψ:=ψ) hd;have hlv:lvs d=lvss ds:=by rcases hd with rfl|rfl <;> rw[lvs]
   have hdp:=(uA hd).2.2.1;have lds:ds.length<=64:=aq (mI G) (by lia);refine⟨_,rfl,.ref z,.ty "str",false,rfl,hbb,false,rfl,?_⟩;refine⟨_,rfl,.str nm,ix0,show 1<=sizeLine by decide,λC R=>⟨_,rfl,(1:Int),rfl,z,_,rfl,hseq.same (aG.upd R),λ_ h=>?_,λu o1 O S=>?_⟩⟩
   ·have:=h.1;simp[HT.sIx]at this
   ·rw[tH]at S;have Z:aG H (upd (upd H C (.lst [.str nm])) u o1):=(aG.upd R).trans (aG.upd O);have g0:upd (upd H C (.lst [.str nm])) u o1 C=some (.lst [.str nm]):=by rw[aC (aE upd_same O)];exact upd_same
    have g1:upd (upd H C (.lst [.str nm])) u o1 u=some o1:=upd_same;have h1:eW (upd (upd H C (.lst [.str nm])) u o1) u p:=by rcases S with⟨rfl,_⟩|⟨rfl,_⟩;exact .inl upd_same;exact .inr upd_same
    generalize upd (upd H C (.lst [.str nm])) u o1=H0 at Z g0 g1 h1⊢;refine⟨u,p,rfl,h1,λJ hJ=>?_⟩;refine cR hJ (VW a ψ ds H0) ⟨none,rfl,aG.refl _,rfl⟩ ?_ ?_ ?_
    ·rintro i c σ H' _ ⟨_,_,B,_⟩;rw[g1,B _ _ g1]
    ·rintro i x c σ Y hx ⟨o0,rfl,B,j⟩;obtain⟨e,U,re⟩:=Reps.get res hx;have s2:=Z.trans B;have h1:=iF U;have h2:=zS U;have h3:=Reps.len j;have hi:=(cr.mp U).1;rw[iT,ae,bv]at h3;refine⟨_,rfl,_,rfl,depD e,by lia,a,fx,sm,os,ψ,I,e,x,rfl,s2 _ _ t,λy=>aY.same s2 (ph y),aY.same s2 re,gZ G e (bj U),ac _,by lia,λv' X s' r'=>⟨aj (m:=64) (by lia) (by decide),_,rfl,B.trans s',?_⟩⟩;rw[take_snoc U,iT,ba,←iT];exact Reps.snoc r' (Reps.same s' j)
    ·rintro c σ Y ⟨o0,rfl,B,j⟩ l hl;have e0:=Reps.len res;rw[e0,bw]at j;have la:=Reps.len j;rw[iT,ae]at la;have s2:aG H0 (upd Y l (.lst c)):=B.trans (aG.upd hl);have l2:upd Y l (.lst c) l=some (.lst c):=upd_same;have r2:=Reps.same (aG.upd (o:=.lst c) hl) j;have g2:=s2 _ _ g0;generalize upd Y l (.lst c)=X at s2 l2 r2 g2⊢;refine .inr ⟨.lst (.str nm::c),pE g2 l2 (aq (m:=100) (by simp;lia) (by decide)),λW L=>⟨_,.str nm::c,rfl,.inl upd_same,λl5 H5 hc=>?_⟩⟩;have s4:aG H (upd X W (.lst (.str nm::c))):=(Z.trans s2).trans (aG.upd L);have r4:=Reps.same (aG.upd (o:=.lst (.str nm::c)) L) r2;have g4:upd X W (.lst (.str nm::c)) W=some (.lst (.str nm::c)):=upd_same;generalize upd X W (.lst (.str nm::c))=H4 at s4 r4 g4 hc⊢;rcases hc with⟨e,_⟩|⟨_,hc,rfl⟩
     ·rw[g4]at e;cases e
     ·exact q _ _ (s4.trans (aG.upd hc)) (by rw[hpt];exact⟨l5,_,rfl,upd_same,.str nm,c,rfl,rfl,Reps.same (aG.upd hc) r4⟩)
theorem TR (F:fP K "_law_put" "_law_put" fQ f fd)(T:Txt mg)(i:mg "_law_put" = some (.ref f))(j:PySem.W.keepIn K (.ref f)=true)(hb:eI K fd i5 []):∀n,cA P w K mg base bJ (n+2) f fd i5 (spPut n):=by
 intro n
 induction n using Nat.strongRecOn with
 | ind n d =>
  exact SO n F T ⟨f,fd,_,⟨λvs H Q E ⟨m,c,h⟩=>(d m c).len vs H Q E h,λA outer s H args us vs Q E g l hb e ⟨m,c,h⟩=>((d m c).mono (by lia)).run A outer s H args us vs Q E g l hb e h⟩,i,j,hb⟩
theorem OR (F:fP K "_law_put" "_law_put" fQ f fd)(T:Txt mg)(c:mg "_law_put" = some (.ref f))(d:PySem.W.keepIn K (.ref f)=true)(hb:eI K fd i5 [])(n:Nat):dG P w K mg base bJ (n+2) "_law_put" (spPut n):=⟨f,fd,_,TR F T c d hb n,c,d,hb⟩
structure Pd (ψ:Str->D)(d:D):Prop where
 tm:Tm (putD ψ d)
 sz:sz (putD ψ d)<=7 * sz d
 dp:depD (putD ψ d)<=depD d+8
theorem UL {ψ:Str->D}(o:∀x,Tm (.str x)->Tm (ψ x)/\sz (ψ x)<=7/\depD (ψ x)<=8){d:D}(h:Tm d):Pd ψ d:=by
 refine tm0i (P:=λd=>Pd ψ d) (λx m=>?_) (λn ds d hd ne j=>?_) h
 ·have e:putD ψ (.str x)=ψ x:=by unfold putD;rfl
  have p:sz (.str x)=1:=by rw[sz] <;> simp
  obtain⟨a,b,c⟩:=o x m;exact⟨by rw[e];exact a,by rw[e,p];exact b,by rw[e];exact aq c (Nat.le_add_left _ _)⟩
 ·have all:∀f:List D,(∀e∈f,Pd ψ e)->Tms (putDs ψ f)/\szs (putDs ψ f)<=7 * szs f/\depDs (putDs ψ f)<=depDs f+8:=by
   intro f
   induction f with
   | nil=>exact λ_=>⟨trivial,ax _,ax _⟩
   | cons e f g =>
    intro i;obtain⟨a1,a2,q⟩:=i e ay;obtain⟨b1,b2,v⟩:=g λy l=>i y (bc _ l);refine⟨⟨a1,b1⟩,?_,?_⟩
    ·rw[putDs,szs,szs];lia
    ·rw[putDs,depDs,depDs];lia
  obtain⟨a1,a2,q⟩:=all ds j;obtain⟨u,_,t,_⟩:=uA hd;obtain⟨s,_,r,_⟩:=uA (n:=n) (ds:=putDs ψ ds) (d:=putD ψ d) (.inl (sQ hd));refine⟨?_,by lia,by lia⟩;rw[sQ hd];unfold Tm;exact⟨by rw[iT];exact λz=>ne (List.map_eq_nil_iff.mp z),a1⟩
structure Ak (K:PySem.W.Frag)(C Pt g c:Addr)(fx:cP)(sm:cE)(fs:List (Str×D))(kvs:List (cM×V))(H:Hp):Prop where
 sg:gN K C fx sm (del H c) g
 hc:H c=some (.dK kvs)
 rep:dM H (kd fs) kvs
 lt:LT Pt H
theorem Ak.but (h:Ak K C Pt g c fx sm fs kvs H)(b:bU Pt H H')(l:LT Pt H'):Ak K C Pt g c fx sm fs kvs H':=by
 have n:c≠Pt:=h.lt.ne h.hc λ_=>by simp
 refine⟨(h.lt.butD (λx u n z=>eL z n) h.hc).sg (λx u n z=>?_) h.sg,b _ _ n h.hc,h.lt.krep b h.rep,l⟩;obtain⟨e,d⟩:=dH z;exact eL (b x u n e) d
theorem Ak.same (h:Ak K C Pt g c fx sm fs kvs H)(s:aG H H'):Ak K C Pt g c fx sm fs kvs H':=h.but s.but (h.lt.same s)
theorem DQ {c:cP}{sm:cE}{os:aT}{d:D}(so:bD c sm)(ho:∀x∈os,bO x)(tm:aZ c sm os d)(l:lvs d<=40)(dp:depD d<=11):RC c sm os d :=
 ⟨so,ho,tm,by lia,aq (DR tm) (aq (Nat.mul_le_mul l (Nat.add_le_add_right dp 1)) (by decide)),by lia⟩
theorem BY {p:Prop}(h:d=e)(k:(!eqD d e)=true):p:=by rw[h,gK]at k;cases k
def spIsF (K:PySem.W.Frag)(C Pt:Addr):Sp:=λvs H Q _=>∃(g t c a b:Addr) (fx:cP) (sm:cE) (os:aT) (sv:List V) (fs:List (Str×D)) (kvs:List (cM×V)) (d:D) (v:V),vs=[.ref g,.ref t,.ref c,v]/\Ak K C Pt g c fx sm fs kvs H /\
 H t=some (.tup [.ref a,.ref b])/\H b=some (.lst sv)/\dW H sm sv/\bD fx sm/\(∀x∈os,bO x)/\(fs.map (·.1)).Nodup/\fs.length<=12/\i0 fx sm os fs/\aY H d v/\aZ fx sm os d/\lvs d<=40/\depD d<=11 /\
 ∀H',bU Pt H H'->LT Pt H'->Q (.bl true) H'
theorem SV (F:fP K "_law_is_filled" "_law_is_filled" eS f fd)(T:Txt mg)(m:dG P w K mg base bJ 23 "_law_flat" (pW 20))(I:dG P w K mg base bJ 13 "_law_put" (spPut 11))(j:dG P w K mg base bJ 11 "filled" (tY K C Pt))(B:dG P w K mg base bJ 10 "looked_over" (tW K C Pt))(N:dG P w K mg base bJ 10 "flat" (F1 K C Pt)):vX P w K mg base bJ 24 f fd kK (spIsF K C Pt):=by
 refine fP.okG F gC (λvs H Q E h=>?_) (λcdv A outer s H vs Q E hG L h=>?_)
 ·obtain⟨g,t,c,a,b,R,sm,os,sv,fs,J,d,v,rfl,_⟩:=h;rfl
 ·obtain⟨g,t,c,a,b,R,sm,os,sv,fs,J,d,v,rfl,ak,ht,hb,rs,so,ho,nd,ln,G,rd,tm,lv,dp,q⟩:=h;have W:=L.units
  refine⟨_,(aD (aW (i:=4) gC.nd rfl (Or.inl rfl) (aL m (L.mono (by decide)) pass0 rfl (aA (pv 1) (aA (aL I (L.mono (by decide)) pass0 rfl (aA (pv 2) (aA (pv 3) aB))) aB))))
   (aD (aW (i:=5) gC.nd rfl (Or.inl rfl) (cF (aA (aK (vH hG W) rfl T.n_repr rfl (aA (pv 2) aB)) (aA (aK (vI hG W) rfl T.n_repr rfl (aA (pv 3) aB)) aB))))
   (aD (bH (PW.pt (kG (aU (dS W) (aL j (L.mono (by decide)) pass0 rfl (aA (pv 0) (aA (pv 2) (aA (pv 3) aB)))) (pv 4) (nomark _)) (iK (aU (dS W) (aL j (L.mono (by decide)) pass0 rfl (aA (pv 0) (aA (aL B (L.mono (by decide)) pass0 rfl (aA (pv 0) (aA (pv 2) aB))) (aA (pv 3) aB)))) (pv 4) (nomark _))))) (aF (aO mY)) aS)
   (aD (bH (PW.pt (kG (aU (dS W) (aL j (L.mono (by decide)) pass0 rfl (aA (pv 0) (aA (pv 2) (aA (aL N (L.mono (by decide)) pass0 rfl (aA (pv 0) (aA (pv 3) aB))) aB)))) (pv 4) (nomark _)) (iK (aU (dS W) (aL j (L.mono (by decide)) pass0 rfl (aA (pv 0) (@zJ _ _ _ _ (aA (pv 3) aB)))) (aL m (L.mono (by decide)) pass0 rfl (aA (pv 1) (aA (pv 3) aB))) (nomark _))))) (aF (aO mY)) aS)
   (aF (aO (dR (dL W) (cF (aA (aK (vH hG W) rfl T.n_repr rfl (aA (pv 2) aB)) (aA (aK (vI hG W) rfl T.n_repr rfl (aA (pv 3) aB)) aB))) (pv 5) (nomark _)))))))),?_⟩
  try dsimp only[cxOf,Cx.nox]
  clear L F T W m I j B N hG;have smn:(sm.map (·.1)).Nodup:=(List.nodup_append.mp so.nd).2.1;have fil:=w5 so ho nd ln G;obtain⟨txk,_,_⟩:=tZ so ho G;have shk:=HM so ho G ln;have tr:=DQ so ho tm lv dp;have tx:=n9 so ho tm;have sh:=KS so ho tm tr.nd;obtain⟨X,esz⟩:=iW so ho tm
  have pd:=UL (ψ:=phF fs) (λx hx=>by
   rcases oQ fs x with⟨p,hp,_,e⟩|⟨_,e⟩
   ·rw[e];have z:=iW so ho (G p hp).2.1;exact⟨z.1,by rw[z.2];exact(G p hp).2.2.1,(G p hp).2.2.2⟩
   ·rw[e];exact⟨hx,pb0.sz x,ax _⟩) X
  have pz:=pd.sz;have pp:=pd.dp;have eX:flt sm (putD (phF fs) d)=flf sm (phF (look sm fs)) d:=by rw[QD tm,show(λx=>flt sm (phF fs x))=phF (look sm fs)from funext λx=>(uG so ho nd G x).symm]
  have dX:depD (flf sm (phF (look sm fs)) d)<=60:=by
   have:=(GY (bT so) (BP so ho G) X).dp
   lia
  refine⟨_,rfl,_,rfl,_,rfl,c,R,sm,os,phF fs,J,d,v,rfl,ak.hc,D6 ak.rep,rd,tm,dp,by lia,λu H1 s1 r1=>?_⟩;refine⟨t,a,b,sm,sv,putD (phF fs) d,u,rfl,s1 _ _ ht,s1 _ _ hb,rs.same (bC.of s1),smn,bT so,so.s2,r1,pd.tm,by lia,by lia,by lia,λw0 H2 s2 r2=>?_⟩;rw[eX]at r2;have S:=s1.trans s2;refine⟨_,rfl,c,J,kd fs,rfl,S _ _ ak.hc,ak.rep.same S,txk,shk,_,rfl,d,v,rfl,aY.same S rd,tx.1,by lia,sh,show 2<=sizeLine by decide,λl hl=>?_⟩;have Y:=S.trans (aG.upd (o:=.lst [.str (eZ (kd fs)),.str (pdOf d).shown]) hl);have l3:upd H2 l (.lst [.str (eZ (kd fs)),.str (pdOf d).shown]) l=some (.lst [.str (eZ (kd fs)),.str (pdOf d).shown]):=upd_same;have r3:=aY.same (aG.upd (o:=.lst [.str (eZ (kd fs)),.str (pdOf d).shown]) hl) r2;generalize upd H2 l (.lst [.str (eZ (kd fs)),.str (pdOf d).shown])=H3 at Y l3 r3⊢;clear S hl r2 s2 r1 s1;have O:=ak.same Y;have U:=O.lt;have all:∀H',bU Pt H3 H'->LT Pt H'->Ak K C Pt g c R sm fs J H'/\gN K C R sm H' g/\aY H' d v/\aY H' (flf sm (phF (look sm fs)) d) w0:=λH' bt lt' =>
   ⟨O.but bt lt',(O.but bt lt').sg.same (pC _ _),U.rep bt (aY.same Y rd),U.rep bt r3⟩
  obtain⟨_,sg3,rd3,_⟩:=all H3 (bU.refl _ _) U;refine⟨_,rfl,_,rfl,_,rfl,g,c,R,sm,os,fs,J,d,v,rfl,O.sg,O.hc,O.rep,nd,ln,G,rd3,tr,U,λw4 H4 b4 lt4 r4=>?_⟩;obtain⟨ak4,sg4,rd4,rX4⟩:=all H4 b4 lt4;refine⟨_,rfl,_,_,r4,rX4,dX,_,rfl,ite_on (λk=>BY rfl k) λ_=>?_⟩;refine⟨_,rfl,_,rfl,_,rfl,g,c,R,sm,os,fs,J,rfl,ak4.sg,ak4.hc,ak4.rep,fil,lt4,λl5 kvs5 H5 b5 lt5 hl5 gl5 r5=>?_⟩;have b35:=b4.trans b5;obtain⟨ak5,sg5,rd5,_⟩:=all H5 b35 lt5;have sgL:gN K C R sm (del H5 l5) g:=lt4.sg (λx u n z=>eL (b5 x u n z) (aE z hl5)) sg4;obtain⟨nd2,ln2⟩:=IR (sm:=sm) nd ln;refine⟨_,rfl,g,l5,R,sm,os,look sm fs,kvs5,d,v,rfl,sgL,gl5,r5,nd2,ln2,nO so ho G,rd5,tr,lt5,λw6 H6 b6 lt6 r6=>?_⟩;rw[IQ so ho G]at r6;have b36:=b35.trans b6;obtain⟨ak6,sg6,rd6,rX6⟩:=all H6 b36 lt6;refine⟨_,rfl,_,_,r6,rX6,dX,_,rfl,ite_on (λk=>BY rfl k) λ_=>?_⟩;have tf:=E9 so ho tm;have trf:RC R sm os (flt sm d):=by have h1:=(iW so ho tf).2;have h2:=FA sm d;exact DQ so ho tf (by lia) (aq (mO sm d) dp)
  refine⟨_,rfl,_,rfl,_,rfl,_,rfl,g,R,sm,os,d,v,rfl,sg6,rd6,tr,lt6,λu7 H7 b7 lt7 r7=>?_⟩;have b37:=b36.trans b7;obtain⟨ak7,sg7,rd7,_⟩:=all H7 b37 lt7;refine⟨g,c,R,sm,os,fs,J,flt sm d,u7,rfl,ak7.sg,ak7.hc,ak7.rep,nd,ln,G,r7,trf,lt7,λw8 H8 b8 Z r8=>?_⟩;have b38:=b37.trans b8;obtain⟨ak8,sg8,rd8,rX8⟩:=all H8 b38 Z;rw[QE so ho (λr L=>SC so ho (nO so ho G) r L) (λx hx=>OJ so ho nd G x hx) tm]at r8;refine⟨_,rfl,_,_,r8,rX8,dX,_,rfl,ite_on (λk=>BY rfl k) λ_=>?_⟩;refine⟨_,rfl,λe he=>?_⟩;have s9:aG H8 (upd H8 e (.dK [])):=aG.upd he;have e9:upd H8 e (.dK []) e=some (.dK []):=upd_same;generalize upd H8 e (.dK [])=H9 at s9 e9⊢;have b39:=b38.trans s9.but;obtain⟨_,_,rd9,_⟩:=all H9 b39 (Z.same s9);refine⟨_,rfl,g,e,R,sm,os,[],[],d,v,rfl,sg8.same (FG he s9),e9,.nil,List.nodup_nil,ax _,λr L=>(nomatch L),rd9,tr,Z.same s9,λwA HA bA ltA rA=>?_⟩;rw[show phF (look sm [])=D.str from rfl,FC tm]at rA;have b3A:=b39.trans bA;obtain⟨akA,_,rdA,_⟩:=all HA b3A ltA;have ne:∀{x:Addr} {u:HO},H3 x=some u->(∀ps,u≠.tbl ps)->HA x=some u:=λ{x u} e n=>b3A x u (U.ne e n) e;have ts:bC H3 HA:=λx xs e=>ne e λ_=>by simp
  refine⟨_,rfl,_,rfl,t,a,b,sm,sv,d,v,rfl,ts _ _ (Y _ _ ht),ne (Y _ _ hb) (λ_=>by simp),(rs.same (bC.of Y)).same ts,smn,bT so,so.s2,rdA,X,by lia,by lia,by lia,λwB HB sB rB=>?_⟩;have dF:=mO sm d;refine⟨_,_,aY.same sB rA,rB,by lia,_,rfl,ite_on (λk=>BY rfl k) λ_=>?_⟩;have akB:=akA.same sB;refine⟨_,rfl,c,J,kd fs,rfl,akB.hc,akB.rep,txk,shk,_,rfl,d,v,rfl,aY.same sB rdA,tx.1,by lia,sh,show 2<=sizeLine by decide,λl' hl'=>?_⟩;have lB:=sB _ _ (ne l3 λ_=>by simp);have sC:aG HB (upd HB l' (.lst [.str (eZ (kd fs)),.str (pdOf d).shown])):=aG.upd hl';have g1:upd HB l' (.lst [.str (eZ (kd fs)),.str (pdOf d).shown]) l'=some (.lst [.str (eZ (kd fs)),.str (pdOf d).shown]):=upd_same;generalize upd HB l' (.lst [.str (eZ (kd fs)),.str (pdOf d).shown])=HC at sC g1⊢;refine⟨_,rfl,.lst [.str (eZ (kd fs)),.str (pdOf d).shown],.lst [.str (eZ (kd fs)),.str (pdOf d).shown],⟨l',_,rfl,g1,_,_,rfl,rfl,_,_,rfl,rfl,rfl⟩,⟨l,_,rfl,sC _ _ lB,_,_,rfl,rfl,_,_,rfl,rfl,rfl⟩,by simp[depD,depDs],?_⟩;rw[gK];exact q HC (λx u n z=>sC _ _ (sB _ _ (b3A x u n (Y _ _ z)))) ((ltA.same sB).same sC)
def F0:Sp:=λvs H Q _=>∃p:Addr,vs=[.ref p]/\bE H p/\∀(o:Addr) (os:aT) (H':Hp),bU p H H'->bE H' p->o≠p->H' o=some (.lst (os.map V.str))->1<=os.length->os.length<=12->(∀x∈os,bO x)->Q (.ref o) H'
theorem RM:bO "?1":=⟨[49],by decide +kernel,by decide,by decide,λc hc=>by rw[cs.mp hc];exact .inr ⟨by decide,by decide⟩⟩
theorem RL:bO "?2":=⟨[50],by decide +kernel,by decide,by decide,λc hc=>by rw[cs.mp hc];exact .inr ⟨by decide,by decide⟩⟩
theorem C5 {H:Hp}{a b:Addr}{xs ys:aT}(c:H a=some (.lst (xs.map V.str)))(hb:H b=some (.lst (ys.map V.str)))(h:xs.length+ys.length<=sizeLine):catO H (.ref a) (.ref b)=some (.lst ((xs++ys).map V.str)):=by unfold catO;simp only[c,hb];rw[ba];exact ai (by rw[ae,ae];exact h)
theorem TW {xs:List V}{n:Nat}(h:n<=xs.length):cutV xs none (some (n:Int))=xs.take n:=by unfold cutV;rw[HT.sIx_nat,HT.sIx_none,Nat.min_eq_left h,Nat.sub_zero,List.drop_zero]
theorem LS (F:fP K "_law_more" "_law_more" jJ f fd)(T:Txt mg)(c:dG P w K mg base bJ 2 "_law_wishes" F2)(d:dG P w K mg base bJ 1 "_law_take" fY):cA P w K mg base bJ 3 f fd rS F0:=by
 refine F.ok oH (λvs H Q E h=>?_) (λcdv A outer s H vs Q E t h=>?_)
 ·obtain⟨p,rfl,_⟩:=h;rfl
 ·obtain⟨p,rfl,hp,q⟩:=h;have hu:=t.units
  refine⟨_,(aD (aW (i:=1) oH.nd rfl (Or.inl rfl) (bK bQ (aL c (t.mono (by decide)) pass0 rfl (aA (pv 0) aB)) (aL c (t.mono (by decide)) pass0 rfl (aA (pv 0) aB))))
   (aF (aO (bK bQ (fH kQ (pv 1) fK (eG (bK bQ aJ (aL d (t.mono (by decide)) pass0 rfl (aA (pv 0) (aA aJ aB)))))) (cF (aA gW (aA gW aB))))))),?_⟩
  try dsimp only[cxOf,Cx.nox]
  clear t F T hu d c;refine⟨_,rfl,p,rfl,hp,λo1 xs H1 S b1 p1 h1 l1 w1=>?_⟩;refine⟨_,rfl,p,rfl,p1,λo2 ys H2 no2 b2 C h2 l2 w2=>?_⟩;have h1':=b2 _ _ S h1;refine .inr ⟨_,C5 h1' h2 (aq (m:=10) (by lia) (by decide)),λr g=>?_⟩;have b3:=(b1.trans b2).trans (bU.new (p:=p) (o:=.lst ((xs++ys).map V.str)) g);have p3:=C.but (o:=.lst ((xs++ys).map V.str)) (C.ne g);have Y:upd H2 r (.lst ((xs++ys).map V.str)) r=some (.lst ((xs++ys).map V.str)):=upd_same;have R:r≠p:=(C.ne g).symm;have Z:∀x∈xs++ys,bO x:=λx U=>(cw.mp U).elim (w1 x) (w2 x);have l3:(xs++ys).length=10:=by rw[av];lia
  generalize upd H2 r (.lst ((xs++ys).map V.str))=H3 at b3 p3 Y⊢;generalize xs++ys=zs at Y Z l3;clear b1 b2 p1 C h1 h1' h2 w1 w2 g;refine⟨_,rfl,_,rfl,p,10,rfl,p3,by decide,by decide,λk B v k0 k1=>?_⟩;have b4:bU p H (upd H3 p (.lst [.int B,.int v])):=b3.trans (bU.upd _ _ _);have N:bE (upd H3 p (.lst [.int B,.int v])) p:=⟨_,_,upd_same⟩
  have I:upd H3 p (.lst [.int B,.int v]) r=some (.lst (zs.map V.str)):=by rw[aC R];exact Y
  generalize upd H3 p (.lst [.int B,.int v])=H4 at b4 N I⊢;have e4:(1:Int)+k=((1+k.toNat:Nat):Int):=by lia
  refine .inl ⟨_,rfl,_,rfl,r,_,rfl,.inl I,λ⟨ys',z⟩=>(by rw[I]at z;cases z),λG ob u W=>?_⟩;have eb:ob = .lst ((zs.take (1+k.toNat)).map V.str):=by
   rcases W with⟨z,_⟩|⟨_,z⟩
   ·rw[z,e4,TW (by rw[ae];lia),List.map_take]
   ·rw[I]at z;cases z
  subst eb;have b5:=b4.trans (bU.new (p:=p) (o:=.lst ((zs.take (1+k.toNat)).map V.str)) u);have L:=N.but (o:=.lst ((zs.take (1+k.toNat)).map V.str)) (N.ne u);have h5:upd H4 G (.lst ((zs.take (1+k.toNat)).map V.str)) G=some (.lst ((zs.take (1+k.toNat)).map V.str)):=upd_same;generalize upd H4 G (.lst ((zs.take (1+k.toNat)).map V.str))=H5 at b5 L h5⊢;refine⟨show 2<=sizeLine by decide,λO l=>?_⟩;have h6:upd H5 O (.lst ([("?1" : Str),"?2"].map V.str)) O=some (.lst ([("?1" : Str),"?2"].map V.str)):=upd_same;have X:upd H5 O (.lst ([("?1" : Str),"?2"].map V.str)) G=some (.lst ((zs.take (1+k.toNat)).map V.str)):=aG.upd l _ _ h5;have b6:=b5.trans (bU.new (p:=p) (o:=.lst ([("?1" : Str),"?2"].map V.str)) l);have J:=L.but (o:=.lst ([("?1" : Str),"?2"].map V.str)) (L.ne l);have lt:(zs.take (1+k.toNat)).length=1+k.toNat:=by rw[bv];lia
  refine .inr ⟨_,C5 X h6 (aq (m:=12) (by rw[lt];show 1+k.toNat+2<=12;lia) (by decide)),λo7 j=>?_⟩;refine q o7 _ _ (b6.trans (bU.new j)) (J.but (J.ne j)) (J.ne j).symm upd_same (by rw[av];show 1<=_+2;lia) (by rw[av,lt];show 1+k.toNat+2<=12;lia) λx U=>?_;rcases cw.mp U with h|h
  ·exact Z x (List.mem_of_mem_take h)
  ·rcases cu.mp h with e|h
   ·rw[e];exact RM
   ·rw[cs.mp h];exact RL
structure Bs (K:PySem.W.Frag)(C g t o:Addr)(fx:cP)(sm:cE)(os:aT)(H:Hp):Prop where
 sg:gN K C fx sm H g
 ex:∃a b fv sv,H t=some (.tup [.ref a,.ref b])/\H a=some (.lst fv)/\H b=some (.lst sv)/\dE H fx fv/\dW H sm sv
 so:bD fx sm
 ol:H o=some (.lst (os.map V.str))
 o1:1<=os.length
 o2:os.length<=12
 ho:∀x∈os,bO x
theorem Bs.lt {C g t o Pt:Addr}{d:cP}{sm:cE}{os:aT}{H H':Hp}(h:Bs K C g t o d sm os H)(l:LT Pt H)(b:bU Pt H H'):Bs K C g t o d sm os H':=by
 obtain⟨sg,⟨a,r,j,f,q,p,m,i,rs⟩,so,ol,o1,o2,ho⟩:=h;have ne:∀{c:Addr} {u:HO},H c=some u->(∀ps,u≠.tbl ps)->H' c=some u:=λ{c u} e n=>b c u (l.ne e n) e;have ts:bC H H':=λc xs e=>ne e λ_=>by simp
 exact⟨l.sg b sg,⟨a,r,j,f,ts _ _ q,ne p λ_=>by simp,ne m λ_=>by simp,i.same ts,rs.same ts⟩,so,ne ol λ_=>by simp,o1,o2,ho⟩
theorem NY (h:eV K H a xs)(b:bU p H H')(n:∀o,H p≠some (.frz o (.lst xs)))(n2:H p≠some (.lst xs)):eV K H' a xs:=by
 rcases h with(h|⟨o,h⟩)|h
 ·exact .inl (.inl (b _ _ (λz=>n2 (z ▸ h)) h))
 ·exact .inl (.inr ⟨o,b _ _ (λz=>n o (z ▸ h)) h⟩)
 ·exact .inr h
def spLaw (K:PySem.W.Frag)(Pt:Addr):Sp:=λvs H Q _=>∃(a:Addr) (ns:List Int),vs=[.ref a]/\eV K H a (ns.map V.int)/\(∀xs,H a≠some (.lst xs))/\ns.length<=63/\LT Pt H/\∀H',Q (.bl true) H'
def VE (a g t o Pt:Addr)(Hb:Hp)(_:Nat)(σ:St)(H:Hp):Prop:=∃o1 e d c:Option V,σ=[some (.ref a),o1,some (.ref t),some (.ref g),some (.ref o),e,d,c]/\bU Pt Hb H/\LT Pt H
def VM (a g t o l Pt:Addr)(Hb:Hp)(_:Nat)(σ:St)(H:Hp):Prop:=∃o1 d c:Option V,σ=[some (.ref a),o1,some (.ref t),some (.ref g),some (.ref o),d,some (.ref l),c]/\bU Pt Hb H/\LT Pt H
theorem SS (F:fP K "law" "law" q9 f fd)(T:Txt mg)(G:dG P w K mg base bJ 2 "_law_pot" (spPot K))(I:dG P w K mg base bJ 3 "_law_signs" FW)(U:T4 P w K mg base bJ 3 "Signs" C (DW K C))(N:dG P w K mg base bJ 3 "_law_more" F0)
  (B:dG P w K mg base bJ 16 "_law_filling" wZ) (L:dG P w K mg base bJ 15 "_law_term" (nJ 11)) (r:T3 P w K mg base bJ 24 "_law_is_filled" (spIsF K C Pt)) (S:dG P w K mg base bJ 11 "filled" (tY K C Pt)) (O:dG P w K mg base bJ 23 "_law_flat" (pW 20)):vX P w K mg base bJ 25 f fd RE (spLaw K Pt):=by
 refine fP.okG F kR (λvs H Q E h=>?_) (λcdv A outer s H vs Q E hG hr h=>?_)
 ·obtain⟨a,ns,rfl,_⟩:=h;rfl
 ·obtain⟨a,ns,rfl,hs,na,n63,lt,q⟩:=h;have hu:=hr.units
  refine⟨_,(aD (aW (i:=1) kR.nd rfl (Or.inl rfl) (aL G (hr.mono (by decide)) pass0 rfl (aA (pv 0) (aA aJ aB))))
   (aD (aW (i:=2) kR.nd rfl (Or.inl rfl) (aL I (hr.mono (by decide)) pass0 rfl (aA (pv 1) aB)))
   (aD (aW (i:=3) kR.nd rfl (Or.inl rfl) (UJ U (hr.mono (by decide)) pass0 rfl (aA (bM cY (pv 2) aJ (λ_ _=>rfl)) (aA (bM cY (pv 2) aJ (λ_ _=>rfl)) aB))))
   (aD (aW (i:=4) kR.nd rfl (Or.inl rfl) (aL N (hr.mono (by decide)) pass0 rfl (aA (pv 1) aB)))
   (aD (eE dh rfl (fT rfl T.n_range (aA (aK (JT rfl) rfl T.n_max rfl (aA aJ (aA (aK (yF rfl) rfl T.n_min rfl (aA aJ (aA (aK lC rfl T.n_len rfl (aA (pv 0) aB)) aB))) aB))) aB)) (bP (i:=5) kR.nd rfl (Or.inl rfl)) (aD (aW (i:=1) kR.nd rfl (Or.inl rfl) (aL G (hr.mono (by decide)) pass0 rfl (aA (pv 0) (aA (pv 5) aB))))
   (aD (aW (i:=6) kR.nd rfl (Or.inl rfl) (aL B (hr.mono (by decide)) pass0 rfl (aA (pv 1) (aA (pv 2) (aA (pv 4) aB)))))
   (aD (bH (dA (aV K rfl (OL r hG (hr.mono (by decide)) pass0 rfl (aA (pv 3) (aA (pv 2) (aA (pv 6) (aA (aL L (hr.mono (by decide)) pass0 rfl (aA (pv 1) (aA (pv 2) (aA (pv 4) (aA aJ (aA aJ aB)))))) aB))))) (λ_=>rfl))) (aF (aO mY)) aS)
   (aF (eE dh rfl (cV K rfl (pv 4)) (bP (i:=7) kR.nd rfl (Or.inl rfl)) (aF (bH (aU (dS hu) (aL S (hr.mono (by decide)) pass0 rfl (aA (pv 3) (aA (pv 6) (aA (pv 7) aB)))) (aL O (hr.mono (by decide)) pass0 rfl (aA (pv 2) (aA (uI (aj (bS (by decide) _) hu) (pv 6) (pv 7) (pv 7) ⟨rfl,rfl,rfl,rfl⟩) aB))) (nomark _)) (aF (aO mY)) aS))))))))
   (aF (aO mY))))))),?_⟩
  try dsimp only[cxOf,Cx.nox]
  clear hr F T hu G I U N B L r S O hG;simp only[tFor_fn];refine⟨_,rfl,a,0,ns,rfl,hs,by lia,by lia,λp x y hp=>?_⟩;have s1:aG H (upd H p (.lst [.int x,.int y])):=aG.upd hp;refine⟨_,rfl,p,rfl,⟨x,y,upd_same⟩,λt a1 a2 fx sm fv sv H2 b2 p2 ht ha hb rf rs so na1 nb1=>?_⟩;refine⟨_,rfl,.ref a1,by rw[ixV_t ht];rfl,_,rfl,.ref a2,by rw[ixV_t ht];rfl,λg dx hg hdx ng=>?_⟩;have s2:aG H2 (upd (upd H2 dx (.own g)) g (.ins C dx [])):=(aG.upd hdx).trans (aG.upd (by rw[aC (Ne.symm ng)];exact hg));refine⟨g,dx,a1,a2,fx,sm,fv,sv,rfl,upd_same,s2 _ _ ha,s2 _ _ hb,rf.same (bC.of s2),rs.same (bC.of s2),so,λH3 b3 sg=>⟨rfl,?_⟩⟩;have s3:aG H2 H3:=λc ob e=>b3 c ob (aE e hg) (s2 _ _ e);have p3:bE H3 p:=by obtain⟨x',y',e⟩:=p2;exact⟨x',y',s3 _ _ e⟩
  refine⟨_,rfl,p,rfl,p3,λo os H6 b6 p6 no ho o1 o2 hw=>?_⟩;have s6:aG H H6:=λc ob e=>b6 c ob (aE e hp) (s3 _ _ (b2 c ob (aE e hp) (s1 _ _ e)));have ts:=bC.ofBut b6 p3;have bs:Bs K C g t o fx sm os H6:=by
   obtain⟨x',y',ep⟩:=p3;obtain⟨c1,c2,c3,dx',fs,dm,dn,h1,h2,h3,h4,h5,h6,h7⟩:=sg
   exact⟨⟨c1,c2,c3,dx',fs,dm,dn,b6 _ _ (λz=>by rw[z,ep]at h1;cases h1) h1,h2,h3,h4,h5,b6 _ _ (λz=>by rw[z,ep]at h6;cases h6) h6,b6 _ _ (λz=>by rw[z,ep]at h7;cases h7) h7⟩,
    ⟨a1,a2,fv,sv,ts _ _ (s3 _ _ ht),b6 _ _ na1 (s3 _ _ ha),b6 _ _ nb1 (s3 _ _ hb),(rf.same (bC.of s3)).same ts,(rs.same (bC.of s3)).same ts⟩,so,ho,o1,o2,hw⟩
  have lt6:LT Pt H6:=lt.same s6;have sq6:eV K H6 a (ns.map V.int):=aG.seq s6 hs;clear b6 p6 sg ho o1 o2 hw no rf rs so ts ha hb ht na1 nb1 b2 p2 p3 s1 hp s6 hs lt na hg hdx ng s3 s2 b3;obtain⟨ps,hps⟩:=lt6.tbl;have hlen:((ns.map V.int).length:Int)<=63:=by rw[ae];lia
  refine⟨_,rfl,a,_,rfl,.inl sq6,10,_,rfl,4,_,rfl,_,rfl,by split <;> split <;> lia,by split <;> split <;> lia,?_⟩;generalize hm:(if (if ((ns.map V.int).length:Int)<10 then((ns.map V.int).length:Int)else 10) > 4 then(if ((ns.map V.int).length:Int)<10 then((ns.map V.int).length:Int)else 10)else 4)=m;have hm10:m.toNat<=10:=by rw[←hm];split <;> split <;> lia
  clear hm hlen;refine fR (VE a g t o Pt H6) ⟨_,_,_,_,rfl,bU.refl _ _,lt6⟩ ?_ ?_
  ·rintro i σ H7 hi ⟨o1,o5,o6,o7,rfl,b7,lt7⟩;have W:=bs.lt lt6 b7;have sq7:eV K H7 a (ns.map V.int):=NY sq6 b7 (λo' z=>by rw[hps]at z;cases z) (λz=>by rw[hps]at z;cases z);refine⟨_,rfl,_,rfl,a,(0+i:Int),ns,rfl,sq7,by lia,by lia,λp x y hp=>?_⟩;have s8:aG H7 (upd H7 p (.lst [.int x,.int y])):=aG.upd hp;have p8:bE (upd H7 p (.lst [.int x,.int y])) p:=⟨x,y,upd_same⟩
   generalize upd H7 p (.lst [.int x,.int y])=H8 at s8 p8⊢;obtain⟨ta,tb,fv,sv,f1,f2,f3,f4,f5⟩:=W.ex;have ti8:l7 p t o fx sm os H8:=⟨p8,⟨ta,tb,fv,sv,s8 _ _ f1,s8 _ _ f2,s8 _ _ f3,f4.same (bC.of s8),f5.same (bC.of s8),aE f2 hp,aE f3 hp⟩,⟨s8 _ _ W.ol,aE W.ol hp⟩,W.so,W.o1,W.o2⟩
   refine⟨_,rfl,_,rfl,_,rfl,p,t,o,fx,sm,os,rfl,ti8,λl fs kvs H9 b9 p9 hl gl repN nd ln sml=>?_⟩;have hp8:H8 p≠none:=λz=>by obtain⟨_,_,e⟩:=p8;rw[z]at e;cases e
   refine⟨_,rfl,_,rfl,_,rfl,_,rfl,_,rfl,_,rfl,p,t,o,fx,sm,os,40,11,rfl,ti8.but b9 p9,by decide,by decide,by decide,λd v H10 b10 p10 r10 tm lv dp=>?_⟩;have lp:l≠p:=λz=>hp8 (z ▸ hl);have R:aG H7 H10:=λc u e=>b10 c u (aE e hp) (b9 c u (aE e hp) (s8 _ _ e));have lt10:=lt7.same R;have rep10:dM H10 (kd fs) kvs:=repN.same λc u e=>by obtain⟨⟨g1,_⟩,g3⟩:=fL.mp e;exact b10 c u (λz=>hp8 (z ▸ g1)) g3
   have rd10:aY H10 d v:=aY.same (λc u e=>(fB.mp e).2) r10;have ak:Ak K C Pt g l fx sm fs kvs H10:=⟨W.sg.same (FG (s8.free hl) R),b10 _ _ lp gl,rep10,lt10⟩
   refine⟨g,t,l,ta,tb,fx,sm,os,sv,fs,kvs,d,v,rfl,ak,R _ _ f1,R _ _ f3,f5.same (bC.of R),W.so,W.ho,nd,ln,sml,rd10,tm,lv,dp,λH11 b11 Z=>?_⟩;have b6a:bU Pt H6 H11:=λc u n e=>b11 c u n (R _ _ (b7 c u n e));have ak11:=ak.but b11 Z;have X:=bs.lt lt6 b6a;refine⟨true,rfl,_,rfl,o,_,rfl,.inl X.ol,λJ hJ=>?_⟩;refine jQ hJ (VM a g t o l Pt H11) ⟨_,_,_,rfl,bU.refl _ _,Z⟩ (by rintro j σ H' _ ⟨_,_,_,_,b,_⟩;rw[b _ _ (Z.ne X.ol λ_=>by simp) X.ol,X.ol]) ?_ ?_
   ·rintro j w σ H12 hw ⟨p1,p5,p7,rfl,b12,Y⟩;rw[bI]at hw;obtain⟨y,hy,rfl⟩:=Option.map_eq_some_iff.mp hw;have hy:=bj hy;have ty:aZ fx sm os (.str y):=by unfold aZ;exact .inl hy
    have ly:lvs (.str y)=1:=by rw[lvs] <;> simp
    have trY:=DQ bs.so bs.ho ty (by lia) (ax _);have ak12:=ak11.but b12 Y;refine⟨_,rfl,_,rfl,_,rfl,g,l,fx,sm,os,fs,kvs,.str y,.str y,rfl,ak12.sg,ak12.hc,ak12.rep,nd,ln,sml,rfl,trY,Y,λw1 H13 b13 lt13 r13=>?_⟩;have b113:=b12.trans b13;have ak13:=ak12.but b13 lt13;obtain⟨ta',tb',fv',sv',g1,g2,g3,g4,g5⟩:=(X.lt Z b113).ex;have pt:=Q5 sml ty;have pt2:=iW bs.so bs.ho pt.1;have e1:flf sm (phF (look sm fs)) (.str y)=flt sm (phF fs y):=by rw[show flf sm (phF (look sm fs)) (.str y)=phF (look sm fs) y by unfold flf;rfl,uG bs.so bs.ho nd sml]
    rw[e1]at r13;have dF:=mO sm (phF fs y);have dP:=pt.2.2;have lP:=pt.2.1;refine⟨_,rfl,_,rfl,l,rfl,.inl ⟨_,.inl ak13.hc⟩,_,rfl,_,rfl,_,jE.k (k:=.inr y) ak13.hc,t,ta',tb',sm,sv',phF fs y,_,rfl,g1,g3,g5,(List.nodup_append.mp bs.so.nd).2.1,bT bs.so,bs.so.s2,D6 ak13.rep y,pt2.1,by lia,by lia,by rw[pt2.2];lia,λw2 H14 s14 r14=>?_⟩;refine⟨_,_,aY.same s14 r13,r14,by lia,_,rfl,ite_on (λk=>BY rfl k) λ_=>?_⟩;exact⟨_,_,_,rfl,λc u n e=>s14 _ _ (b113 c u n e),lt13.same s14⟩
   ·rintro σ H12 ⟨p1,p5,p7,rfl,b12,Y⟩;exact⟨_,_,_,_,rfl,b6a.trans b12,Y⟩
  ·rintro σ H7 ⟨o1,o5,o6,o7,rfl,b7,lt7⟩;exact q _
end
end Lw
namespace Lw
open PySem PySem.Spec PyProof.Rows PySem.W L2
theorem FJ {K:Frag}{h:Heap}{x:Str}{c Pt:Addr}(X:K.In h)(d:tabIn K x=some (c,Pt))(C:CodeHd h c Pt):∀h',K.In h'->CodeHd h' c Pt:=by
 have f:∃o,K.lookup c=some o:=by
  unfold tabIn at d;split at d
  ·split at d
   ·split at d
    ·split at d
     ·rename_i u _ _ _ _ _ hc;split at d
      ·cases d;exact⟨_,hc⟩
      ·cases d
     ·cases d
    ·cases d
   ·cases d
  ·cases d
 obtain⟨o,f⟩:=f;obtain⟨t,vs,r1,q,p,m,l,j,i,e,r⟩:=C;intro h' s;have g:=X _ _ f;rw[e]at g;cases g;exact⟨_,vs,r1,q,p,m,l,j,i,s _ _ f,r⟩
theorem IY {P:Program}{w:World}{K:Frag}{mg mb:jB}{k:Nat}{fa a c Pt:Addr}{fd:FuncData}{x:Str}{sp:Sp}{f:Shared}{vs:cS}{ns:List Int}
  (KX:K.In f.heap) (E:f.heap.Ns mainGlobals mg) (hb:f.heap.Ns builtinsNs mb) (S:∀x:Str,x≠"__name__"->mb x=bootBuiltins x) (G:f.heap.NoLimit) (hg:f.gens = #[])
  (B:f.heap.get? a=some {cls:=.type "list",data:=.seq vs.toArray}) (hi:IntsAre vs ns) (Y:ns.length<=sizeLine) (hr:dY k callerA)
  (hT:CodeHd f.heap c Pt) (A:f.heap.get? Pt=some (tabObj #[])) (T:K.lookup Pt=none) (hB:Bm mg f.heap)
  (F:∀base:Heap,K.In base->base.Ns mainGlobals mg->Bm mg base->vX P w K mg base bJ k fa fd [x] sp) (t:∀(s:Shared) (u:Value),BindsTo s fd ⟨[u],[]⟩ [(x,u)])
  (R:∀H:Hp,(∀xs,H a≠some (.lst xs))->H Pt=some (.tbl #[])->eV K H a (ns.map V.int)->sp [.ref a] H (λv _=>v = .bl true) λ_ _ _=>False) :
  codeAny (model P w) callerA (.call (.ref fa) ⟨[.ref a],[]⟩) (λr g=>r = .ok (.ret (.bool true))/\OldK f.heap g.heap/\g.os=f.os/\AllBare g.gens) f:=by
 have X:=wR hi;have lenV:=hi.length;have p:Pt≠a:=λz=>by rw[z,B]at A;cases A
 have l:∀H:Hp,H Pt=some (.tbl #[])->(∀b,b≠Pt->H b≠none->b=a/\K.lookup a=none/\∃o xs,H a=some (.frz o (.lst xs)))->eV K H a (ns.map V.int)->gQ P w H f.heap ->
   codeAny (model P w) callerA (.call (.ref fa) ⟨[.ref a],[]⟩) (λr g=>r = .ok (.ret (.bool true))/\OldK f.heap g.heap/\g.os=f.os/\AllBare g.gens) f:=by
  intro H Z L hS hok;have free:∀{b:Addr} {o:Obj},f.heap.get? b=some o->o≠tabObj #[]->(b=a->K.lookup a=none->False)->H b=none:=λ{b o} e n n2=>by
   cases q:H b with
   | none=>rfl
   | some u =>
    by_cases z:b=Pt
    ·rw[z,A]at e;exact absurd (Option.some.inj e).symm n
    ·obtain⟨Q,C,_⟩:=L b z (by rw[q];simp);exact(n2 Q C).elim
  have i:∀{b:Addr} {m:jB},f.heap.Ns b m->(hidT f.heap H).Ns b m:=λ{b m} ⟨o,es,ep,e,d,r⟩=>⟨o,es,ep,uY e (free e (λz=>by rw[z]at d;cases d) (λz _=>by rw[z,B]at e;cases e;cases d)),d,r⟩
  have I:K.In (hidT f.heap H):=λb o e=>uY (KX b o e) (by
   cases q:H b with
   | none=>rfl
   | some u =>
    by_cases z:b=Pt
    ·rw[z,T]at e;cases e
    ·obtain⟨Q,C,_⟩:=L b z (by rw[q];simp)
     rw[Q,C]at e;cases e)
  have hM:Mod K mg (hidT f.heap H):=⟨I,i E,⟨mb,i hb,S⟩,let⟨mc,h1,h2⟩:=G;⟨mc,i h1,h2⟩⟩
  have hB':Bm mg (hidT f.heap H):=by obtain⟨bm,o,O,W,e3,N,U,e6,e7⟩:=hB;exact⟨bm,o,O,W,e3,uY N (free N (λz=>by rw[z]at U;cases U) (λz _=>by rw[z,B]at N;cases N;cases e7)),U,e6,e7⟩
  have e0:wL P w K mg (hidT f.heap H) callerA [] f H:=⟨rfl,hM,λb o e=>PM e,Nat.le_of_eq (I9 _ _),trivial,λb hb=>absurd (show b∈([]:List Addr)from hb) (by simp),hok,.of_eq hg⟩
  have nl:∀xs,H a≠some (.lst xs):=λxs z=>by obtain⟨_,_,o,ys,e⟩:=L a (Ne.symm p) (by rw[z];simp);rw[z]at e;cases e
  refine codeAny_mono ((F _ I (i E) hB').run callerA [] f H ⟨[.ref a],[]⟩ [.ref a] [.ref a] _ _ rfl hr e0 (t f (.ref a)) (.cons rfl .nil) (R H nl Z hS)) λr g h=>?_;cases r with
  | error e=>exact False.elim h
  | ok fl =>
   cases fl with
   | next=>exact False.elim h
   | brk=>exact False.elim h
   | cont=>exact False.elim h
   | ret u =>
    obtain⟨v,H',os,bare,un,j,r',q⟩:=h;have q':v = .bl true:=q;subst q';obtain rfl:u=Value.bool true:=r';have keep:∀b o,b≠Pt->f.heap.get? b=some o->g.heap.get? b=some o:=λb o n e=>by
     cases q:H b with
     | none=>exact un.keep b o e q (by intro z;exact absurd (show b∈([]:List Addr)from z) (by simp)) (by simp)
     | some u =>
      obtain⟨rfl,_,ob,xs,z⟩:=L b n (by rw[q];simp);have C:=un.frzs b ob _ z;obtain⟨O,_⟩:=hok b _ z;obtain⟨W,_⟩:=j b _ C;rw[e]at O;cases O;exact W
    obtain⟨more,hm⟩:=un.tbls Pt #[] Z;have gP:g.heap.get? Pt=some (tabObj (#[]++more)):=j Pt _ hm;refine⟨rfl,⟨λb o e=>?_,λb o e=>?_⟩,os,bare⟩
    ·by_cases z:b=Pt
     ·subst z;rw[A]at e;cases e;exact .inr (.inl ⟨(hT.tab A).isCodeTable,rfl,#[],more,rfl,gP⟩)
     ·exact .inl (keep b o z e)
    ·by_cases z:b=Pt
     ·subst z;exact⟨_,gP⟩
     ·exact⟨o,keep b o z e⟩
 cases hk:K.lookup a with
 | some o =>
  have e:=KX a o hk;rw[B]at e;cases e;refine l (λb=>if b=Pt then some (.tbl #[])else none) (ai rfl) (λb n z=>absurd (ab n) z) (.inr ⟨_,vs.toArray,_,hk,rfl,rfl,rfl,by rw[ag,lenV];exact Y,by simpa using X⟩) λb u z=>?_;by_cases hb:b=Pt
  ·have z':=(ai hb).symm.trans z;cases z';subst hb;exact A
  ·have z':=(ab hb).symm.trans z;cases z'
 | none =>
  refine l (λb=>if b=Pt then some (.tbl #[])else if b=a then some (.frz {cls:=.type "list",data:=.seq vs.toArray} (.lst (ns.map V.int)))else none) (ai rfl) (λb n z=>?_) (.inl (.inr ⟨{cls:=.type "list",data:=.seq vs.toArray},(ab (Ne.symm p)).trans (ai rfl)⟩)) (λb u z=>?_)
  ·by_cases hb:b=a
   ·exact⟨hb,hk,_,_,(ab (Ne.symm p)).trans (ai rfl)⟩
   ·exact absurd ((ab n).trans (ab hb)) z
  ·by_cases J:b=Pt
   ·have z':=(ai J).symm.trans z;cases z';subst J;exact A
   ·by_cases hb:b=a
    ·have z':=((ab J).trans (ai hb)).symm.trans z;cases z';subst hb;exact⟨B,by rw[ae];exact Y,vs,_,X,B⟩
    ·have z':=((ab J).trans (ab hb)).symm.trans z;cases z'
theorem walkT {l:PySem.W.OpenLaw}{q:Program}{loose:aT}{XP:(jB)->Heap->Prop}{YP:World->Heap->Prop}{d dp:DefRec}{K:Params->PySem.W.Frag}(O:l.most=some 63)(r:d.params.defaults=[])
  (R:∀(w:World) (h:Heap),YP w h->(K w.params).In h) (N:(recsOf q).find? (λe=>e.name == ("put_in" : Str))=some dp)
  (F:∀(w:World) (mg:jB) (fa:Addr) (h:Heap),(K w.params).In h->h.Ns mainGlobals mg->mg d.name=some (.ref fa) ->
   ∃(v:FuncData) (c Pt:Addr),tabIn (K w.params) "put_in" = some (c,Pt)/\(K w.params).lookup Pt=none/\(∀(s:Shared) (u:Value),BindsTo s v ⟨[u],[]⟩ [("_law_script",u)]) /\
    ∀base:Heap,(K w.params).In base->base.Ns mainGlobals mg->Bm mg base->(∀h,(K w.params).In h->CodeHd h c Pt)->vX l.prog w (K w.params) mg base bJ 25 fa v ["_law_script"] (spLaw (K w.params) Pt)) :
  PySem.W.WalkO q loose XP YP l.row.toRowW d [] (λf vs=>PySem.call f vs):=by
 refine Att.C6 O r λw s0 I mg mb fa o pm cd doc a vs ns G Y ho hd Q p m j i P=>?_;have KX:=R w _ Y;obtain⟨v,c,Pt,A,t,hb,Z⟩:=F w mg fa _ KX G.T.g p;obtain⟨B,U⟩:=tab_of G.T KX N A;have hB:Bm mg I.heap:=by obtain⟨bm,J,e1,e2,x,e4,e5,E⟩:=G.T.bmain;refine⟨bm,J,e1,e2,λz=>?_,x,e4,e5,E⟩;obtain⟨o',es,ep,g1,C,_⟩:=G.T.g;rw[z,g1]at x;cases x;rw[E]at C;cases C
 exact IY KX G.T.g G.T.b G.T.builtins G.T.nolimit P m j (aq i (by decide)) ⟨rfl,by decide,by decide⟩ B U t hB (λbase L nb bb=>Z base L nb bb (FJ KX A B)) hb
  λH nl X S=>⟨a,ns,rfl,S,nl,i,.inl X,λ_=>rfl⟩
theorem lenS {P:cS->Prop}(h:us.length=n+1)(k:∀a t,t.length=n->P (a::t)):P us:=by
 cases us
 ·cases h
 ·exact k _ _ (Nat.succ.inj h)
theorem len1 {P:cS->Prop}(h:us.length=1)(k:∀a,P [a]):P us:=lenS h λa t h=>by cases t;exact k a;cases h
theorem len2 {P:cS->Prop}(h:us.length=2)(k:∀a b,P [a,b]):P us:=lenS h λa _ h=>len1 (P:=λt=>P (a::t)) h (k a)
theorem len3 {P:cS->Prop}(h:us.length=3)(k:∀a b c,P [a,b,c]):P us:=lenS h λa _ h=>len2 (P:=λt=>P (a::t)) h (k a)
theorem len4 {P:cS->Prop}(h:us.length=4)(k:∀a b c d,P [a,b,c,d]):P us:=lenS h λa _ h=>len3 (P:=λt=>P (a::t)) h (k a)
theorem len5 {P:cS->Prop}(h:us.length=5)(k:∀a b c d e,P [a,b,c,d,e]):P us:=lenS h λa _ h=>len4 (P:=λt=>P (a::t)) h (k a)
def bN (K:PySem.W.Frag)(x:Str)(st:Stmt)(f:Addr):Prop:=(nsIn K mainGlobals x=some (some (.ref f))/\keepIn K (.ref f)=true)/\∃e od kV g pm h c ct d,K.lookup f=some ⟨e,od,.func (PySem.W.fnOf x x (dD st) (cK st) (aH st) .none kV g pm h c ct),d⟩/\codeIn K c x=true
theorem bN.mk {K:PySem.W.Frag}{x:Str}{st:Stmt}{f:Addr}{g kV h pm d ct:Value}{od i:Option Addr}{e:Array (Option Value)}(a:nsIn K mainGlobals x=some (some (.ref f)))(b:keepIn K (.ref f)=true)(l:K.lookup f=some ⟨g,od,.func (PySem.W.fnOf x x (dD st) (cK st) (aH st) .none kV h pm i d ct),e⟩)(c:codeIn K d x=true):bN K x st f:=⟨⟨a,b⟩,_,_,_,_,_,_,_,_,_,l,c⟩
theorem bN.use {K:PySem.W.Frag}{x:Str}{st:Stmt}{f:Addr}{h:Heap}{mg:jB}{ps:aT}{R:Prop}(a:bN K x st f)(X:K.In h)(G:h.Ns mainGlobals mg)(ok:∀e,fP K x x st f e->mg x=some (.ref f)->keepIn K (.ref f)=true->eI K e ps []->R)(hb:∀(kV d pm:Value) (an:Option Addr) (cdv ct:Value) (us:cS),us.length=ps.length->bindArgs (PySem.W.fnOf x x (dD st) (cK st) (aH st) .none kV d pm an cdv ct) ⟨us,[]⟩=pure (ps.zip us)):R:=by obtain⟨⟨a,k⟩,_,_,_,_,_,_,_,_,_,l,c⟩:=a;exact ok _ (nT l c k) (db X G a) k ((nT l c k).binds hb)
theorem bN.own {K:PySem.W.Frag}{x:Str}{st:Stmt}{f:Addr}{h base:Heap}{mg:jB}{ps:aT}{P:Program}{w:World}{CX:AW}{k:Nat}{sp:Sp}(a:bN K x st f)(X:K.In h)(G:h.Ns mainGlobals mg)(ok:∀d,fP K x x st f d->cA P w K mg base CX k f d ps sp)(hb:∀(kV c pm:Value) (an:Option Addr) (cdv ct:Value) (us:cS),us.length=ps.length->bindArgs (PySem.W.fnOf x x (dD st) (cK st) (aH st) .none kV c pm an cdv ct) ⟨us,[]⟩=pure (ps.zip us)):dG P w K mg base CX k x sp:=a.use X G (λ_ F m k b=>⟨_,_,_,ok _ F,m,k,b⟩) hb
theorem TX {l:PySem.W.OpenLaw}{w:World}{K:PySem.W.Frag}{h:Heap}{mg:jB}{fa C cc Pt f1 f2 f3 f4 f5 f6 f7 f8 f9 f10 f11 f12 f13 f14 f15 f16 f17 f18 f19 f20 f21 f22 f23 f24 f25 f26 f27 f28 f29 f30 f31 f32 f33 f34 f35 f36 f37 f38 f39 f40 f41 f42 f43 f44 f45 f46:Addr}(X:K.In h)(G:h.Ns mainGlobals mg)(hfa:mg "law" = some (.ref fa))
  {od15 an15 od16 an16 od27 an27 od40 an40:Option Addr} {sl15 sl16 sl27 sl40:Array (Option Value)} {oc15 kV15 dc15 pm15 ct15 cd15 oc16 kV16 dc16 pm16 ct16 cd16 oc27 kV27 dc27 pm27 ct27 oc40 kV40 dc40 pm40 ct40 cd40:Value} {tk0 tk1 tk2 tk3 tk4 tk5 tk6 tk7:Tok} {odq:Option Addr} {ocq:Value} {vq:n5} {slq:Array (Option Value)}
  (m0:nsIn K mainGlobals "Signs" = some (some (.ref C)))
  (a1:bN K "_law_cell" jK f1)
  (a2:bN K "_law_pot" kY f2)
  (a3:bN K "_law_take" jH f3)
  (a4:bN K "_law_word" jG f4)
  (a5:bN K "_law_names" iP f5)
  (a6:bN K "_law_signs" eQ f6)
  (a7:bN K "_law_wishes" g9 f7)
  (a8:bN K "_law_leaf" iB f8)
  (a9:bN K "_law_heads" eT f9)
  (a10:bN K "_law_term" fS f10)
  (a11:bN K "_law_sort" jI f11)
  (a12:bN K "_law_ahead" eU f12)
  (a13:bN K "_law_opened" hU f13)
  (a14:bN K "_law_flat" eK f14)
  (a15:findIn K (.ref C) "many" = some (some (.ref f15)))
  (l15:K.lookup f15=some ⟨oc15,od15,.func (PySem.W.fnOf "many" "Signs.many" (dD dQ) (cK dQ) (aH dQ) .none kV15 dc15 pm15 an15 cd15 ct15),sl15⟩)
  (c15:codeIn K cd15 "Signs.many" = true)
  (k15:keepIn K (.ref f15)=true)
  (n15:isFn K (.ref f15)=true)
  (a16:findIn K (.ref C) "nought" = some (some (.ref f16)))
  (l16:K.lookup f16=some ⟨oc16,od16,.func (PySem.W.fnOf "nought" "Signs.nought" (dD cZ) (cK cZ) (aH cZ) .none kV16 dc16 pm16 an16 cd16 ct16),sl16⟩)
  (c16:codeIn K cd16 "Signs.nought" = true)
  (k16:keepIn K (.ref f16)=true)
  (n16:isFn K (.ref f16)=true)
  (a17:bN K "is_wish" kE f17)
  (a18:bN K "is_built" kW f18)
  (a19:bN K "check_term" gF f19)
  (a20:bN K "walked" oI f20)
  (a21:bN K "order_mark" iO f21)
  (a22:bN K "order_key" iA f22)
  (a23:bN K "opened" oJ f23)
  (a24:bN K "flat_sum" kX f24)
  (a25:bN K "flat_of_parts" fI f25)
  (a26:bN K "from_within" fF f26)
  (a27:nsIn K mainGlobals "put_in" = some (some (.ref f27)))
  (l27:K.lookup f27=some ⟨oc27,od27,.func (PySem.W.fnOf "put_in" "put_in" (dD cQ) (cK cQ) (aH cQ) .none kV27 dc27 pm27 an27 (.ref cc) ct27),sl27⟩)
  (c27:codeIn K (.ref cc) "put_in" = true)
  (k27:keepIn K (.ref f27)=true)
  (t2:K.lookup cc=some ⟨ocq,odq,.fields vq,slq⟩)
  (t3:vq[11]?=some (.ref Pt))
  (t0:tabIn K "put_in" = some (cc,Pt))
  (t1:K.lookup Pt=none)
  (a28:bN K "is_term" mK f28)
  (a29:bN K "check_filling" fJ f29)
  (a30:bN K "without_idle" eJ f30)
  (a31:bN K "looked_over" fE f31)
  (a32:bN K "filled" oK f32)
  (a33:bN K "flat" zC f33)
  (a34:bN K "is_name" kF f34)
  (a35:bN K "is_whole" kU f35)
  (a36:bN K "checked_pairs" d5 f36)
  (a37:bN K "check_names" eB f37)
  (a38:bN K "check_parts" fG f38)
  (a39:bN K "check_noughts" d8 f39)
  (a40:findIn K (.ref C) "__init__" = some (some (.ref f40)))
  (l40:K.lookup f40=some ⟨oc40,od40,.func (PySem.W.fnOf "__init__" "Signs.__init__" (dD cG) (cK cG) (aH cG) .none kV40 dc40 pm40 an40 cd40 ct40),sl40⟩)
  (c40:codeIn K cd40 "Signs.__init__" = true)
  (k40:keepIn K (.ref f40)=true)
  (n40:isFn K (.ref f40)=true)
  (a41:bN K "_law_own" iY f41)
  (a42:bN K "_law_filling" gG f42)
  (a43:bN K "_law_more" jJ f43)
  (a44:bN K "_law_put" fQ f44)
  (a45:bN K "_law_is_filled" eS f45)
  (a46:bN K "law" q9 f46)
  (g1:plainGet K C Str.empty=true)
  (g2:hasDictIn K C=true)
  (g3:plainOver K C=true)
  (g4:findIn K (.ref C) "__setattr__" = some (some (.builtin "object.__setattr__")))
  (h0:findIn K (.ref C) "fixed_rows" = some none)
  (h1:findIn K (.ref C) "sum_rows" = some none)
  (h2:findIn K (.ref C) "many_by_name" = some none)
  (h3:findIn K (.ref C) "nought_by_name" = some none)
  (g5:makesIn K C=true)
  (g6:keepIn K (.ref C)=true)
  (v0:nsIn K mainGlobals "WISH_SIGNS" = some (some (.str "abcdefghijklmnopqrstuvwxyz0123456789" tk0)))
  (v1:nsIn K mainGlobals "LETTERS" = some (some (.str "abcdefghijklmnopqrstuvwxyz" tk1)))
  (v2:nsIn K mainGlobals "LONGEST_WISH" = some (some (.int 9 tk2)))
  (v3:nsIn K mainGlobals "DEEPEST" = some (some (.int 1000 tk3)))
  (v4:nsIn K mainGlobals "LONGEST_NAME" = some (some (.int 6 tk4)))
  (v5:nsIn K mainGlobals "MOST_FIXED" = some (some (.int 12 tk5)))
  (v6:nsIn K mainGlobals "MOST_SUMS" = some (some (.int 3 tk6)))
  (v7:nsIn K mainGlobals "MOST_PARTS" = some (some (.int 3 tk7)))
  (z0:nsIn K mainGlobals "len" = some none)
  (z1:nsIn K mainGlobals "range" = some none)
  (z2:nsIn K mainGlobals "int" = some none)
  (z3:nsIn K mainGlobals "abs" = some none)
  (z4:nsIn K mainGlobals "min" = some none)
  (z5:nsIn K mainGlobals "max" = some none)
  (z6:nsIn K mainGlobals "tuple" = some none)
  (z7:nsIn K mainGlobals "list" = some none)
  (z8:nsIn K mainGlobals "dict" = some none)
  (z9:nsIn K mainGlobals "set" = some none)
  (z10:nsIn K mainGlobals "isinstance" = some none)
  (z11:nsIn K mainGlobals "str" = some none)
  (z12:nsIn K mainGlobals "bool" = some none)
  (z13:nsIn K mainGlobals "sorted" = some none)
  (z14:nsIn K mainGlobals "reversed" = some none)
  (z15:nsIn K mainGlobals "all" = some none)
  (z16:nsIn K mainGlobals "any" = some none)
  (z17:nsIn K mainGlobals "zip" = some none)
  (z18:nsIn K mainGlobals "repr" = some none)
  : ∃(fd:FuncData) (c Pt:Addr),tabIn K "put_in" = some (c,Pt)/\K.lookup Pt=none/\(∀(s:Shared) (v:Value),BindsTo s fd ⟨[v],[]⟩ [("_law_script",v)]) /\
   ∀base:Heap,K.In base->base.Ns mainGlobals mg->Bm mg base->(∀h,K.In h->CodeHd h c Pt)->vX l.prog w K mg base bJ 25 fa fd ["_law_script"] (spLaw K Pt):=by
 obtain⟨⟨a46,k46⟩,_,_,kV46,dc46,pm46,an46,cd46,ct46,_,l46,c46⟩:=a46;have e:=hfa.symm.trans (db X G a46);cases e;have T:Txt mg:=⟨dc X G z0,dc X G z1,dc X G z2,dc X G z3,dc X G z4,dc X G z5,dc X G z6,dc X G z7,dc X G z8,dc X G z9,dc X G z10,dc X G z11,dc X G z12,dc X G z13,dc X G z14,dc X G z15,dc X G z16,dc X G z17,dc X G z18,⟨_,db X G v0,⟨_,rfl⟩⟩,⟨_,db X G v1,⟨_,rfl⟩⟩,⟨_,db X G v2,⟨_,rfl⟩⟩,⟨_,db X G v3,⟨_,rfl⟩⟩,⟨_,db X G v4,⟨_,rfl⟩⟩,⟨_,db X G v5,⟨_,rfl⟩⟩,⟨_,db X G v6,⟨_,rfl⟩⟩,⟨_,db X G v7,⟨_,rfl⟩⟩⟩
 have cl:J4 K C:=⟨g1,g2,g3,g4⟩
 have co:RI K C:=⟨cl,h0,h1,h2,h3⟩
 have F15:=nT (st:=dQ) l15 c15 k15;have b15:=F15.binds (ps:=lD) λ_ _ _ _ _ _ us d=>by apply len2 d;intros;rfl
 have F16:=nT (st:=cZ) l16 c16 k16;have b16:=F16.binds (ps:=i8) λ_ _ _ _ _ _ us d=>by apply len2 d;intros;rfl
 have F27:=nT (st:=cQ) l27 c27 k27;have b27:=F27.binds (ps:=vM) λ_ _ _ _ _ _ us d=>by apply len3 d;intros;rfl
 have F40:=nT (st:=cG) l40 c40 k40;have b40:=F40.binds (ps:=g7) λ_ _ _ _ _ _ us d=>by apply len3 d;intros;rfl
 have F46:=nT (st:=q9) l46 c46 k46;refine⟨PySem.W.fnOf "law" "law" (dD q9) (cK q9) (aH q9) .none kV46 dc46 pm46 an46 cd46 ct46,cc,Pt,t0,t1,λs v=>.of_eq rfl,λbase _ _ hB hC=>?_⟩;have O__law_cell:=a1.own (base:=base) (P:=l.prog) (w:=w) X G (λ_ F=>PL F T) (λ_ _ _ _ _ _ _ d=>by apply len2 d;intros;rfl);have O__law_pot:=a2.own X G (λ_ F=>SQ F T O__law_cell) (λ_ _ _ _ _ _ _ d=>by apply len2 d;intros;rfl);have f:=a3.own (base:=base) (P:=l.prog) (w:=w) X G (λ_ F=>O5 F T) (λ_ _ _ _ _ _ _ d=>by apply len2 d;intros;rfl);have O__law_word:=a4.own (base:=base) (P:=l.prog) (w:=w) X G (λ_ F=>O2 F T) (λ_ _ _ _ _ _ _ d=>by apply len2 d;intros;rfl);have U:=a5.own X G (λ_ F=>LR F T f O__law_word) (λ_ _ _ _ _ _ _ d=>by apply len2 d;intros;rfl);have S:=a6.own X G (λ_ F=>LN F T f U) (λ_ _ _ _ _ _ _ d=>by apply len1 d;intros;rfl);have O:=a7.own X G (λ_ F=>LW F T f) (λ_ _ _ _ _ _ _ d=>by apply len1 d;intros;rfl);have O__law_leaf:=a8.own X G (λ_ F=>PC F T f) (λ_ _ _ _ _ _ _ d=>by apply len3 d;intros;rfl);have Y:=a9.own (base:=base) (P:=l.prog) (w:=w) X G (λ_ F=>LU F T) (λ_ _ _ _ _ _ _ d=>by apply len2 d;intros;rfl);have p:=a10.use X G (λ_ F m k b=>LD F T f O__law_leaf Y m k b 11) (λ_ _ _ _ _ _ _ d=>by apply len5 d;intros;rfl);have O__law_sort:=a11.own (base:=base) (P:=l.prog) (w:=w) X G (λ_ F=>O6 F T) (λ_ _ _ _ _ _ _ d=>by apply len1 d;intros;rfl);have o:=λn=>a12.use X G (λ_ F m k b=>HZ F T O__law_sort m k b n) (λ_ _ _ _ _ _ _ d=>by apply len2 d;intros;rfl);have O__law_ahead:=o 20;have Q:=a13.own (base:=base) (P:=l.prog) (w:=w) X G (λ_ F=>IE F T) (λ_ _ _ _ _ _ _ d=>by apply len3 d;intros;rfl);have r:=a14.use X G (λ_ F m k b=>LF F T o Q m k b 20) (λ_ _ _ _ _ _ _ d=>by apply len2 d;intros;rfl);have Z:J1 l.prog w K mg base bJ 1 C "many" (DV K C):=⟨f15,_,_,PB F15 T,⟨a15,n15,k15⟩,b15,cl⟩
 have i:J1 l.prog w K mg base bJ 1 C "nought" (oE K C):=⟨f16,_,_,IF F16 T,⟨a16,n16,k16⟩,b16,cl⟩
 have I:=a17.own (base:=base) (P:=l.prog) (w:=w) X G (λ_ F=>O3 F T) (λ_ _ _ _ _ _ _ d=>by apply len1 d;intros;rfl);have O_is_built:=a18.own X G (λ_ F=>LY F T I Z i) (λ_ _ _ _ _ _ _ d=>by apply len2 d;intros;rfl);have g:=a19.own X G (λ_ F=>LX F T O_is_built) (λ_ _ _ _ _ _ _ d=>by apply len2 d;intros;rfl);have O_walked:=a20.own (base:=base) (P:=l.prog) (w:=w) X G (λ_ F=>ID F T) (λ_ _ _ _ _ _ _ d=>by apply len1 d;intros;rfl);have R:=a21.own (base:=base) (P:=l.prog) (w:=w) X G (λ_ F=>O9 F T) (λ_ _ _ _ _ _ _ d=>by apply len1 d;intros;rfl);have O_order_key:=a22.own X G (λ_ F=>SU F T R O_walked) (λ_ _ _ _ _ _ _ d=>by apply len1 d;intros;rfl);have O_opened:=a23.own (base:=base) (P:=l.prog) (w:=w) X G (λ_ F=>ED F T) (λ_ _ _ _ _ _ _ d=>by apply len2 d;intros;rfl);have O_flat_sum:=a24.own X G (λ_ F=>EF F T O_opened O_order_key) (λ_ _ _ _ _ _ _ d=>by apply len3 d;intros;rfl);have x:=a25.own X G (λ_ F=>EE F T i O_flat_sum) (λ_ _ _ _ _ _ _ d=>by apply len3 d;intros;rfl);have J:=a26.own X G (λ_ F=>UN F T O_walked x) (λ_ _ _ _ _ _ _ d=>by apply len3 d;intros;rfl);have u:dG l.prog w K mg base bJ 9 "put_in" (oB K C Pt):=⟨f27,_,_,LO l27 c27 hC hB J,db X G a27,k27,b27⟩
 have O_is_term:=a28.own X G (λ_ F=>PD F T g) (λ_ _ _ _ _ _ _ d=>by apply len2 d;intros;rfl);have B:=a29.own X G (λ_ F=>IJ F T I O_is_term) (λ_ _ _ _ _ _ _ d=>by apply len2 d;intros;rfl);have E:=a30.own (base:=base) (P:=l.prog) (w:=w) X G (λ_ F=>PH F T) (λ_ _ _ _ _ _ _ d=>by apply len1 d;intros;rfl);have j:=a31.own X G (λ_ F=>IH F T B u E) (λ_ _ _ _ _ _ _ d=>by apply len2 d;intros;rfl);have O_filled:=a32.own X G (λ_ F=>II F T j g u) (λ_ _ _ _ _ _ _ d=>by apply len3 d;intros;rfl);have O_flat:=a33.own X G (λ_ F=>LV F T g u) (λ_ _ _ _ _ _ _ d=>by apply len2 d;intros;rfl);have O_is_name:=a34.own (base:=base) (P:=l.prog) (w:=w) X G (λ_ F=>O8 F T) (λ_ _ _ _ _ _ _ d=>by apply len1 d;intros;rfl);have O_is_whole:=a35.own (base:=base) (P:=l.prog) (w:=w) X G (λ_ F=>LM F T) (λ_ _ _ _ _ _ _ d=>by apply len1 d;intros;rfl);have z:=a36.own (base:=base) (P:=l.prog) (w:=w) X G (λ_ F=>LQ F T) (λ_ _ _ _ _ _ _ d=>by apply len3 d;intros;rfl);have N:=a37.own X G (λ_ F=>IG F T O_is_name) (λ_ _ _ _ _ _ _ d=>by apply len1 d;intros;rfl);have L:=a38.own X G (λ_ F=>LP F T O_is_whole) (λ_ _ _ _ _ _ _ d=>by apply len1 d;intros;rfl);have A:=a39.own (base:=base) (P:=l.prog) (w:=w) X G (λ_ F=>BV F T) (λ_ _ _ _ _ _ _ d=>by apply len2 d;intros;rfl);have t:T4 l.prog w K mg base bJ 3 "Signs" C (DW K C):=⟨f40,_,_,PF F40 T co z N L A,db X G m0,⟨g5,a40,n40,g6⟩,b40⟩
 have O__law_own:=a41.own X G (λ_ F=>O7 F T f) (λ_ _ _ _ _ _ _ d=>by apply len3 d;intros;rfl);have H:=a42.own X G (λ_ F=>EG F T f O__law_own p) (λ_ _ _ _ _ _ _ d=>by apply len3 d;intros;rfl);have O__law_more:=a43.own X G (λ_ F=>LS F T O f) (λ_ _ _ _ _ _ _ d=>by apply len1 d;intros;rfl);have O__law_put:=a44.use X G (λ_ F m k b=>OR (base:=base) (P:=l.prog) (w:=w) F T m k b 11) (λ_ _ _ _ _ _ _ d=>by apply len2 d;intros;rfl);have q:T3 l.prog w K mg base bJ 24 "_law_is_filled" (spIsF K C Pt):=a45.use X G (λ_ F m k b=>⟨_,_,_,SV F T r O__law_put O_filled j O_flat,m,k,b⟩) (λ_ _ _ _ _ _ _ d=>by apply len4 d;intros;rfl);exact SS F46 T O__law_pot S t O__law_more H p q O_filled r
end Lw
open PySem PySem.W PyProof.Rows
set_option maxRecDepth 100000 in
set_option maxHeartbeats 0 in
theorem PySem.Challenge.cw_likefill_k22_whole_terms_filled_holds : PySem.Challenge.rw_likefill_k22_whole_terms_filled.Holds := by
 obtain⟨d,hdf,hn,k⟩:=Lw.red;refine k ?_
 k_fill
 refine Lw.walkT (l:=PySem.Challenge.rw_likefill_k22_whole_terms_filled) rfl hdf (λw h Y=>Y) rfl ?F
 case F =>
  intro w mg fa h KX G hmg;rw[hn]at hmg
  refine' Lw.TX KX G hmg ?_ ?_ ?_ ?_ ?_ ?_ ?_ ?_ ?_ ?_ ?_ ?_ ?_ ?_ ?_ ?_ ?_ ?_ ?_ ?_ ?_ ?_ ?_ ?_ ?_ ?_ ?_ ?_ ?_ ?_ ?_ ?_ ?_ ?_ ?_ ?_ ?_ ?_ ?_ ?_ ?t3 ?t0 ?t1 ?_ ?_ ?_ ?_ ?_ ?_ ?_ ?_ ?_ ?_ ?_ ?_ ?_ ?_ ?_ ?_ ?_ ?_ ?_ ?_ ?_ ?_ ?_ ?_ ?_ ?_ ?_ ?_ ?_ ?_ ?_ ?_ ?_ ?_ ?_ ?_ ?_ ?_ ?_ ?_ ?_ ?_ ?_ ?_ ?_ ?_ ?_ ?_ ?_ ?_ ?_ ?_ ?_ ?_ ?_ ?_ ?_ ?_ ?_ ?_
  all_goals try first|(refine' Lw.bN.mk ?_ ?_ ?_ ?_ <;> try k_is)|k_is
  (case t3=>rfl);(case t0=>kernel_rfl);(case t1=>kernel_rfl)
end
